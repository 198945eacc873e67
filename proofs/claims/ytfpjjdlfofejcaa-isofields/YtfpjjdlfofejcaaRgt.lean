/- Right: a value of a field. -/
import Derived.Test.YtfpjjdlfofejcaaFits
namespace Go.Proofs.Ytfpjjdlfofejcaa
open Go.ChangeShapes Go.WideShapes Go.ChangeAt Go.RowKit

theorem of6' (n : Int) (w : World) : Calls Try.prog 34 #[.int .i64 n] w fun e w' => e = .returned (.tuple #[.agg #[.bool (fD n), .int .i64 (fL n : Int), .int .i64 (fV n : Int)], .bool (fK n)]) ∧ Below w.heap.size w w' := of6 n w
/-- A form in memory. -/
def FB (w : World) (b : Nat) (D : Bool) (L V : Int) : Prop := w.cell? ⟨b, 0, none⟩ = some (.bool D) ∧ w.cell? ⟨b, 1, none⟩ = some (.int .i64 L) ∧ w.cell? ⟨b, 2, none⟩ = some (.int .i64 V)
theorem FB.more {w w' : World} {b : Nat} {D : Bool} {L V : Int} (h : FB w b D L V) (hb : Below w.heap.size w w') : FB w' b D L V := by
  have h0 := World.block_lt_of_cell? w _ h.1
  exact ⟨(hb.cell (p := ⟨b, 0, none⟩) h0).trans h.1, (hb.cell (p := ⟨b, 1, none⟩) h0).trans h.2.1, (hb.cell (p := ⟨b, 2, none⟩) h0).trans h.2.2⟩
theorem FB.new (w : World) (D : Bool) (L V : Int) (t : TypeId) : FB (w.alloc (.cells #[.bool D, .int .i64 L, .int .i64 V] t)) w.heap.size D L V := by
  have h := heap_alloc_new w (.cells #[.bool D, .int .i64 L, .int .i64 V] t)
  exact ⟨by rw [cell_of_head h]; rfl, by rw [cell_of_head h]; rfl, by rw [cell_of_head h]; rfl⟩
def rightB (n : Int) (s : ByteArray) : Bool := fK n && fitI (fL n) (fV n) s.size && sgnB (fD n) s
theorem fit_small {n : Int} {k : Nat} (h : fitI (fL n) (fV n) k = true) : k ≤ 999 := by
  have := (f_any n).1
  unfold fitI at h
  split at h
  · have := of_decide_eq_true h; omega
  · rw [Bool.and_eq_true] at h
    have := of_decide_eq_true h.2; omega
theorem signs13 (D : Bool) (L V : Int) (s : ByteArray) (w : World) (hs : s.size ≤ 1000000) :
    Calls Try.prog 36 #[.agg #[.bool D, .int .i64 L, .int .i64 V], .string s] w fun e w' => e = .returned (.bool (sgnB D s)) ∧ Below w.heap.size w w' := by
  cases D
  · exact signs_txt L V s w (by omega)
  · exact signs_dig L V s w hs
theorem right9 (n : Int) (s : ByteArray) (w : World) (hs : s.size ≤ 9223372036854775807) :
    Calls Try.prog 22 #[.int .i64 n, .string s] w fun e w' => e = .returned (.bool (rightB n s)) ∧ Below w.heap.size w w' := by
  have hof := of6' n w
  have HF : Hid (∀ k : Nat, fitI (fL n) (fV n) k = true → k ≤ 999) := fun k h => fit_small h
  unfold rightB
  generalize fD n = D at *
  generalize (fL n : Int) = L at *
  generalize (fV n : Int) = V at *
  cases hK : fK n
  · rw [hK] at hof
    clear hK
    go_enter Try.func22, Try.ntmps22
    go_wp2_with (go_at_call 34; refine hof.mono ?_; rintro e w1 ⟨rfl, l1⟩; have L1 := hid l1; clear l1)
    go_ret
    exact ⟨rfl, sq L1.out (bel1 _ _)⟩
  · rw [hK] at hof
    clear hK
    cases hf : fitI L V s.size
    · have HN := hid hf
      clear hf
      go_enter Try.func22, Try.ntmps22
      go_wp2_with (first | (go_at_call 35; have kill := L1.out; refine (fits12 D L V s.size _).mono ?_; rintro e w2 ⟨rfl, l2⟩; rw [HN.out]; have L2 := hid (sq L1.out l2); clear l2 kill) | (go_at_call 34; refine hof.mono ?_; rintro e w1 ⟨rfl, l1⟩; have L1 := hid (sq l1 (bel1 w1 (.cells #[.bool D, .int .i64 L, .int .i64 V] 73))); clear l1))
      go_ret
      exact ⟨rfl, L2.out⟩
    · have HN := hid hf
      have h999 := HF.out _ hf
      have HS := hid (show s.size ≤ 1000000 by omega)
      clear hf HF
      go_enter Try.func22, Try.ntmps22
      go_wp2_with (first | (go_at_call 36; have kill := L2.out; refine (signs13 D L V s _ HS.out).mono ?_; rintro e w3 ⟨rfl, l3⟩; have L3 := hid (sq L2.out l3); clear l3 kill) | (go_at_call 35; have kill := L1.out; refine (fits12 D L V s.size _).mono ?_; rintro e w2 ⟨rfl, l2⟩; rw [HN.out]; have L2 := hid (sq L1.out l2); obtain ⟨q0, q1, q2⟩ := (FB.new w1 D L V 73).more l2; clear l2 kill) | (go_at_call 34; refine hof.mono ?_; rintro e w1 ⟨rfl, l1⟩; have L1 := hid (sq l1 (bel1 w1 (.cells #[.bool D, .int .i64 L, .int .i64 V] 73))); clear l1))
      go_ret
      exact ⟨rfl, L3.out⟩
end Go.Proofs.Ytfpjjdlfofejcaa
