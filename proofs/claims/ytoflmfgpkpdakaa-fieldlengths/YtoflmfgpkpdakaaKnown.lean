/- The chapter's example. -/
import Derived.Test.YtoflmfgpkpdakaaRds
namespace Go.Proofs.Ytoflmfgpkpdakaa
open Go.ChangeShapes Go.WideShapes Go.ChangeAt Go.RowKit

theorem put39 (w : World) : Calls Try.prog 10 #[.int .i64 39, .string ⟨#[48, 48]⟩] w fun e w' => ∃ ao cap, e = .returned (.tuple #[.slice ao 2 cap, .int .i64 0]) ∧ Mk w w' (.slice ao 2 cap) 2 [48, 48] := by
  have hp : putL 39 ⟨#[48, 48]⟩ = [48, 48] := by decide
  refine (put_yes 39 ⟨#[48, 48]⟩ w (by decide)).mono ?_
  rintro e w' ⟨ao, m, cap, rfl, hm⟩
  rw [hp] at hm
  obtain rfl : m = 2 := hm.1.len.symm
  exact ⟨ao, cap, rfl, hm⟩
theorem read39 (ao : Option Addr) (cap : Nat) (w : World) (h : Given w ao 2 cap [48, 48]) : Calls Try.prog 11 #[.int .i64 39, .slice ao 2 cap] w fun e w' => e = .returned (.tuple #[.string ⟨#[48, 48]⟩, .int .i64 2, .int .i64 0]) ∧ Below w.heap.size w w' := by
  have h1 : rdS 39 [48, 48] = ⟨#[48, 48]⟩ := by decide
  have h2 : rdN 39 [48, 48] = 2 := by decide
  have h3 : rdE 39 [48, 48] = 0 := by decide
  have := read11 39 ao 2 cap [48, 48] w h
  rwa [h1, h2, h3] at this
theorem put1 (w : World) : Calls Try.prog 10 #[.int .i64 1, .string ⟨#[120]⟩] w fun e w' => e = .returned (.tuple #[.slice none 0 0, .int .i64 27]) ∧ Below w.heap.size w w' := put_no 1 ⟨#[120]⟩ w (by decide) (by decide)
theorem of2 (w : World) : Calls Try.prog 6 #[.int .i64 2] w fun e w' => e = .returned (.tuple #[.agg #[.bool true, .int .i64 19, .int .i64 2], .bool true]) ∧ Below w.heap.size w w' := of6 2 w
theorem right39 (w : World) : Calls Try.prog 9 #[.int .i64 39, .string ⟨#[48, 48]⟩] w fun e w' => e = .returned (.bool true) ∧ Below w.heap.size w w' := right9 39 ⟨#[48, 48]⟩ w (by decide)
theorem right390 (w : World) : Calls Try.prog 9 #[.int .i64 39, .string ⟨#[48]⟩] w fun e w' => e = .returned (.bool false) ∧ Below w.heap.size w w' := right9 39 ⟨#[48]⟩ w (by decide)
theorem byt48 : Byt [48, 48] := by unfold Byt; decide
set_option maxRecDepth 20000 in
set_option maxHeartbeats 2000000 in
theorem known5 (w : World) : Calls Try.prog 5 #[] w fun e w' => e = .returned (.bool true) ∧ Below w.heap.size w w' := by
  go_enter Try.func5, Try.ntmps5
  go_wp2_with (first | (go_at_call 9; have kill := L5.out; refine (right390 _).mono ?_; rintro e w6 ⟨rfl, l6⟩; have L6 := hid (sq L5.out l6); clear l6 kill) | (go_at_call 9; have kill := L4.out; refine (right39 _).mono ?_; rintro e w5 ⟨rfl, l5⟩; have L5 := hid (sq L4.out l5); clear l5 kill) | (go_at_call 6; have kill := D3.out; refine (of2 _).mono ?_; rintro e w4 ⟨rfl, l4⟩; have L4 := hid (sq D3.out.2 (sq l4 (bel1 w4 (.cells #[.bool true, .int .i64 19, .int .i64 2] 25)))); have c4 := run_str (w4.alloc (.cells #[.bool true, .int .i64 19, .int .i64 2] 25)) a1 [48, 48] 2 c1 rfl (row_mono (sq l4 (bel1 w4 (.cells #[.bool true, .int .i64 19, .int .i64 2] 25))) D3.out.1.at); rw [show strOfNums [48, 48] = ⟨#[48, 48]⟩ from rfl] at c4; clear l4 kill) | (go_at_call 10; have kill := D2.out; refine (put1 _).mono ?_; rintro e w3 ⟨rfl, l3⟩; have D3 := hid (D2.out.more l3); clear l3 kill) | (go_at_call 11; have kill := D1.out; refine (read39 _ _ _ (D1.out.given byt48)).mono ?_; rintro e w2 ⟨rfl, l2⟩; have D2 := hid (D1.out.more l2); clear l2 kill) | (go_at_call 10; refine (put39 _).mono ?_; rintro e w1 ⟨a1, c1, rfl, d1⟩; have D1 := hid d1; clear d1))
  go_ret
  exact ⟨rfl, L6.out⟩
end Go.Proofs.Ytoflmfgpkpdakaa
