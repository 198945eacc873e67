/- The chapter's example. -/
import Derived.Test.YtdbionhkfjokiaaReads
import Derived.Test.YtdbionhkfjokiaaPutR
namespace Go.Proofs.Ytdbionhkfjokiaa
open Go.ChangeShapes Go.WideShapes Go.ChangeAt Go.RowKit

theorem put_mk (ao : Option Addr) (len cap m : Nat) (zs : List Int) (w : World) (h : I.Given w ao len cap zs) (hr : riseL zs 1 = true) (hm : sizeL zs = m) :
    Calls Try.prog 7 #[.slice ao len cap] w fun e w' => ∃ b, e = .returned (.tuple #[.slice (some ⟨b, 0, none⟩) m m, .bool true]) ∧ Mk w w' (.slice (some ⟨b, 0, none⟩) m m) m (putL zs) := by
  refine (put_yes ao len cap zs w h hr).mono ?_
  rintro e w' ⟨rfl, rfl⟩
  subst hm
  exact ⟨_, rfl, Mk.new w (putL zs) _ (putL_len zs) (by rcases size_or zs with ⟨_, e⟩ | ⟨_, e⟩ <;> omega)⟩
theorem wid_two (x y : Int) (x0 : 0 ≤ x) (x1 : x ≤ 1000) (y0 : 0 ≤ y) (y1 : y ≤ 1000) : Wid [x, y] := by
  intro z hz; simp at hz; rcases hz with rfl | rfl <;> omega
theorem wid_one (x : Int) (x0 : 0 ≤ x) (x1 : x ≤ 1000) : Wid [x] := by
  intro z hz; simp at hz; subst hz; omega
theorem read_ex : readOk (putL [2, 66]) = true ∧ numR (putL [2, 66]) = [2, 66] ∧ tookR (putL [2, 66]) = 16 := by
  have := read_put (l := [2, 66]) (more := []) (by decide)
  rw [List.append_nil] at this
  exact ⟨this.1, this.2.1, this.2.2.trans (by decide)⟩
theorem ex66 : hasL (putL [2, 66]) 66 = true := by decide
theorem ex3 : hasL (putL [2, 66]) 3 = false := by decide
theorem ex_first : (putL [2, 66]).getD 0 0 = 192 := by decide
theorem iGiven1 (w : World) (x : Int) (x0 : 0 ≤ x) (x1 : x ≤ 1000) : I.Given (w.alloc (.cells #[.int .i64 x] 3)) (some ⟨w.heap.size, 0, none⟩) 1 1 [x] := I.Given.new w [x] 1 rfl (by omega) (wid_one x x0 x1)
theorem iGiven2 (w : World) (x y : Int) (x0 : 0 ≤ x) (x1 : x ≤ 1000) (y0 : 0 ≤ y) (y1 : y ≤ 1000) : I.Given (w.alloc (.cells #[.int .i64 x, .int .i64 y] 3)) (some ⟨w.heap.size, 0, none⟩) 2 2 [x, y] := I.Given.new w [x, y] 2 rfl (by omega) (wid_two x y x0 x1 y0 y1)
theorem put_one (w : World) : Calls Try.prog 7 #[.slice (some ⟨w.heap.size, 0, none⟩) 1 1] (w.alloc (.cells #[.int .i64 1] 3)) fun e w' => e = .returned (.tuple #[.slice none 0 0, .bool false]) ∧ (w.alloc (.cells #[.int .i64 1] 3)) = w' :=
  put_no _ _ _ [1] _ (iGiven1 w 1 (by omega) (by omega)) (by decide)
theorem put_ex (w : World) : Calls Try.prog 7 #[.slice (some ⟨w.heap.size, 0, none⟩) 2 2] (w.alloc (.cells #[.int .i64 2, .int .i64 66] 3)) fun e w' => ∃ b, e = .returned (.tuple #[.slice (some ⟨b, 0, none⟩) 16 16, .bool true]) ∧ Mk w w' (.slice (some ⟨b, 0, none⟩) 16 16) 16 (putL [2, 66]) := by
  refine (put_mk _ 2 2 16 [2, 66] _ (iGiven2 w 2 66 (by omega) (by omega) (by omega) (by omega)) (by decide) (by decide)).mono ?_
  rintro e w' ⟨b, rfl, d⟩
  exact ⟨b, rfl, d.1.mono (bel1 w _).size, sq (bel1 w _) d.2⟩
theorem read_ex9 (b c : Nat) (w : World) (h : Given w (some ⟨b, 0, none⟩) 16 c (putL [2, 66])) : Calls Try.prog 9 #[.slice (some ⟨b, 0, none⟩) 16 c] w fun e w' => ∃ a n c, e = .returned (.tuple #[.slice a n c, .int .i64 16, .bool true]) ∧ I.Mk w w' (.slice a n c) n [2, 66] := by
  refine (read9 _ _ _ _ _ h).mono ?_
  rintro e w' ⟨a, n, c, rfl, hk⟩
  obtain ⟨h1, h2, h3⟩ := read_ex
  rw [h2] at hk
  exact ⟨a, n, c, by rw [h1, h3]; rfl, hk⟩
theorem ex_cell {w : World} {b c : Nat} (h : Given w (some ⟨b, 0, none⟩) 16 c (putL [2, 66])) : w.cell? ⟨b, 0, none⟩ = some (.int .u8 192) := by
  obtain ⟨b', o', e, hc⟩ := h.cell 0 (by omega)
  cases e
  rwa [ex_first] at hc
set_option maxHeartbeats 400000 in
theorem known6 (w : World) : Calls Try.prog 6 #[] w fun e w' => e = .returned (.bool true) ∧ Below w.heap.size w w' := by
  go_enter Try.func6, Try.ntmps6
  go_wp2_with (first | (go_at_call 12; have kill := D5.out; refine (has12 _ 16 16 _ 3 w4 (D4.out.given (putL_byt _))).mono ?_; rintro e w6 ⟨rfl, rfl⟩; rw [ex3]; have D6 := D5; clear kill) | (go_at_call 12; have kill := D4.out; refine (has12 _ 16 16 _ 66 w4 (D4.out.given (putL_byt _))).mono ?_; rintro e w5 ⟨rfl, rfl⟩; rw [ex66]; have D5 := D4; clear kill) | (go_at_call 10; have kill := D3.out; refine (ints10 _ _ _ _ 2 2 [2, 66] [2, 66] _ (I3.out.below (bel1 w3 _)) (iGiven2 w3 2 66 (by omega) (by omega) (by omega) (by omega))).mono ?_; rintro e w4 ⟨rfl, l4⟩; rw [decide_eq_true rfl]; have D4 := hid (D3.out.more (sq (bel1 w3 _) l4)); clear l4 kill) | (go_at_call 7; have kill := D2.out; refine (put_one w2).mono ?_; rintro e w3 ⟨rfl, rfl⟩; have D3 := hid (D2.out.more (bel1 w2 (.cells #[.int .i64 1] 3))); have I3 := hid (I2.out.below (bel1 w2 (.cells #[.int .i64 1] 3))); have C3 := ex_cell (D3.out.given (putL_byt _)); generalize w2.alloc (.cells #[.int .i64 1] 3) = w3 at *; clear kill) | (go_at_call 9; have kill := D1.out; refine (read_ex9 b1 16 w1 (D1.out.given (putL_byt _))).mono ?_; rintro e w2 ⟨a2, n2, c2, rfl, d2⟩; have D2 := hid (D1.out.more d2.2); have I2 := hid (d2.given (wid_two 2 66 (by omega) (by omega) (by omega) (by omega))); clear d2 kill) | (go_at_call 7; refine (put_ex w).mono ?_; rintro e w1 ⟨b1, rfl, d1⟩; have D1 := hid d1; clear d1))
  go_ret
  exact ⟨rfl, D6.out.2⟩
end Go.Proofs.Ytdbionhkfjokiaa
