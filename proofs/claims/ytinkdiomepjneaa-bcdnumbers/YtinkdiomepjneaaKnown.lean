/- The chapter's example. -/
import Derived.Test.YtinkdiomepjneaaUnp
import Derived.Test.YtinkdiomepjneaaDigR
namespace Go.Proofs.Ytinkdiomepjneaa
open Go.ChangeShapes Go.WideShapes Go.ChangeAt Go.RowKit

def s123 : ByteArray := ⟨#[49, 50, 51]⟩
theorem pack123 (w : World) : Calls Try.prog 12 #[.string ⟨#[49, 50, 51]⟩] w fun e w' => e = .returned (.tuple #[.slice (some ⟨w.heap.size, 0, none⟩) 2 2, .bool true]) ∧ Mk w w' (.slice (some ⟨w.heap.size, 0, none⟩) 2 2) 2 [1, 35] := by
  have hp : packL ⟨#[49, 50, 51]⟩ = [1, 35] := by decide
  refine (pack_yes ⟨#[49, 50, 51]⟩ w (by decide) (by decide)).mono ?_
  rintro e w' ⟨rfl, rfl⟩
  rw [hp]
  exact ⟨rfl, Mk.new w [1, 35] 2 rfl (by omega)⟩
theorem packx (w : World) : Calls Try.prog 12 #[.string ⟨#[120]⟩] w fun e w' => e = .returned (.tuple #[.slice none 0 0, .bool false]) ∧ Below w.heap.size w w' := pack_no ⟨#[120]⟩ w (by decide) (by decide)
theorem unp123 (ao : Option Addr) (cap : Nat) (w : World) (h : Given w ao 2 cap [1, 35]) : Calls Try.prog 13 #[.slice ao 2 cap, .int .i64 3] w fun e w' => e = .returned (.tuple #[.string ⟨#[49, 50, 51]⟩, .bool true]) ∧ Below w.heap.size w w' := by
  have h1 : unOk [1, 35] 3 = true := by decide
  have h2 : unS [1, 35] 3 = ⟨#[49, 50, 51]⟩ := by decide
  have := unpack_any ao 2 cap [1, 35] 3 w h (by omega) (by omega)
  rwa [h1, h2] at this
theorem num042 (w : World) : Calls Try.prog 8 #[.string ⟨#[48, 52, 50]⟩] w fun e w' => e = .returned (.tuple #[.int .i64 42, .bool true]) ∧ w = w' := by
  have h1 : numOk ⟨#[48, 52, 50]⟩ = true := by decide
  have h2 : numV ⟨#[48, 52, 50]⟩ = 42 := by decide
  have := number8 ⟨#[48, 52, 50]⟩ w (by decide)
  rwa [h1, h2] at this
theorem dig42 (w : World) : Calls Try.prog 10 #[.int .i64 42, .int .i64 4] w fun e w' => e = .returned (.tuple #[.string ⟨#[48, 48, 52, 50]⟩, .bool true]) ∧ Below w.heap.size w w' := by
  have h1 : digOk 42 4 = true := by decide
  have h2 : digS 42 4 = ⟨#[48, 48, 52, 50]⟩ := by decide
  have := digits10 42 4 w (by omega)
  rwa [h1, h2] at this
theorem byt35 : Byt [1, 35] := by unfold Byt; decide
set_option maxHeartbeats 1000000 in
theorem known6 (w : World) : Calls Try.prog 6 #[] w fun e w' => e = .returned (.bool true) ∧ Below w.heap.size w w' := by
  go_enter Try.func6, Try.ntmps6
  go_wp2_with (first | (go_at_call 10; have kill := D4.out; refine (dig42 _).mono ?_; rintro e w5 ⟨rfl, l5⟩; have D5 := hid (D4.out.more l5); have c5 := run_str w5 _ [1, 35] 2 2 rfl D5.out.1.at; rw [show strOfNums [1, 35] = ⟨#[1, 35]⟩ from rfl] at c5; clear l5 kill) | (go_at_call 8; have kill := D3.out; refine (num042 _).mono ?_; rintro e w' ⟨rfl, rfl⟩; have D4 := D3; clear kill) | (go_at_call 12; have kill := D2.out; refine (packx _).mono ?_; rintro e w3 ⟨rfl, l3⟩; have D3 := hid (D2.out.more l3); clear l3 kill) | (go_at_call 13; refine (unp123 _ _ _ (D1.out.given byt35)).mono ?_; rintro e w2 ⟨rfl, l2⟩; have D2 := hid (D1.out.more l2); clear l2) | (go_at_call 12; refine (pack123 _).mono ?_; rintro e w1 ⟨rfl, d1⟩; have D1 := hid d1; clear d1))
  go_ret
  exact ⟨rfl, D5.out.2⟩
end Go.Proofs.Ytinkdiomepjneaa
