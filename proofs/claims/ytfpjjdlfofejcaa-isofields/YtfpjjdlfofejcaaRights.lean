/- Which messages are right: the code's and the document's. -/
import Derived.Test.YtfpjjdlfofejcaaGets
namespace Go.Proofs.Ytfpjjdlfofejcaa
open Go.ChangeShapes Go.WideShapes Go.ChangeAt Go.RowKit

set_option maxHeartbeats 2000000 in
theorem rights26 (ao : Option Addr) (len cap : Nat) (l : List Fd) (w : World) (h : FG w ao len cap l) :
    Calls Try.prog 26 #[.slice ao len cap] w fun e w' => e = .returned (.bool (rightsL l 0)) ∧ Below w.heap.size w w' := by
  have hl := h.lt
  have HQ := hid h.leq
  have HC := hid h.fc
  clear h
  go_enter Try.func26, Try.ntmps26
  go_wp2
  go_loopw [3, 8] (fun la i wr => ∃ (k : Nat) (z : Int), k ≤ len ∧ i = .int .i64 (k : Int) ∧ la = .int .i64 z ∧ rightsL (l.drop k) z = rightsL l 0 ∧ Below w.heap.size w wr) (fun _ i _ => len - (intOf i).toNat)
  case atStart => exact ⟨0, 0, by omega, rfl, rfl, rfl, Below.refl _ _⟩
  case round =>
    obtain ⟨k, z, hk, rfl, rfl, he, hb⟩ := hrel
    have E := hid he
    have B1 := hid hb
    clear he hb
    by_cases hlt : k < len
    · obtain ⟨r, hr, hok, b, o, rfl, c0, c1⟩ := HC.out.more B1.out k hlt
      have HS := hid (E.out.symm.trans (rights_step z hr))
      have HV := hid hok.2.2
      clear hok
      obtain ⟨N, V⟩ := r
      simp only at c0 c1 HV
      have B2 := hid (sq B1.out (bel1 wr (.cells #[.int .i64 N, .string V] 51)))
      by_cases hN : z < N
      · have hN' : ¬ N ≤ z := by omega
        cases hR : rightB N V
        · have HT : Hid (rightsL l 0 = false) := by unfold Hid; rw [HS.out, show decide (z < N) = true from decide_eq_true hN, hR]; rfl
          have HRB := hid hR
          clear HS E hr hR
          go_wp2_with (go_at_call 22; refine (right9 N V _ HV.out).mono ?_; rintro e w2 ⟨rfl, l2⟩; rw [HRB.out]; have B3 := hid (sq B2.out l2); clear l2)
          go_ret
          exact ⟨ret_bool HT.out.symm, B3.out⟩
        · have HT : Hid (rightsL (l.drop (k + 1)) N = rightsL l 0) := by unfold Hid; rw [HS.out, show decide (z < N) = true from decide_eq_true hN, hR]; simp
          have HRB := hid hR
          clear HS E hr hR
          go_wp2_with (go_at_call 22; refine (right9 N V _ HV.out).mono ?_; rintro e w2 ⟨rfl, l2⟩; rw [HRB.out]; have B3 := hid (sq B2.out l2); have q0 := (l2.cell (p := ⟨wr.heap.size, 0, none⟩) (by simp)).trans (cell_of_head (heap_alloc_new wr (.cells #[.int .i64 N, .string V] 51)) 0); clear l2)
          go_roundw
          case rel => exact ⟨k + 1, N, by omega, by go_num, rfl, HT.out, B3.out⟩
          case measure => simp [intOf]; omega
      · have HT : Hid (rightsL l 0 = false) := by unfold Hid; rw [HS.out, show decide (z < N) = false from decide_eq_false hN]; rfl
        have hN' : N ≤ z := by omega
        clear HS E hr
        go_wp2
        go_ret
        exact ⟨ret_bool HT.out.symm, B2.out⟩
    · have HT : Hid (rightsL l 0 = true) := by unfold Hid; rw [← E.out, drop_end (by rw [HQ.out]; omega)]; rfl
      clear E
      go_wp2
      go_ret
      exact ⟨ret_bool HT.out.symm, B1.out⟩
/-- Is the message right? -/
def rightM (m : Int) (l : List Fd) : Bool := typB m && rightsL l 0
set_option maxHeartbeats 1000000 in
theorem right18 (m : Int) (ao : Option Addr) (len cap : Nat) (l : List Fd) (w : World) (h : FG w ao len cap l) :
    Calls Try.prog 18 #[.agg #[.int .i64 m, .slice ao len cap]] w fun e w' => e = .returned (.bool (rightM m l)) ∧ Below w.heap.size w w' := by
  have B1 := hid (bel1 w (.cells #[.int .i64 m, .slice ao len cap] 24))
  have HG := hid (h.below B1.out)
  clear h
  unfold rightM
  cases ht : typB m
  · have HT := hid ht
    clear ht
    go_enter Try.func18, Try.ntmps18
    go_wp2_with (go_at_call 25; refine (type25 m _).mono ?_; rintro e w2 ⟨rfl, rfl⟩; rw [HT.out])
    go_ret
    exact ⟨rfl, B1.out⟩
  · have HT := hid ht
    clear ht
    go_enter Try.func18, Try.ntmps18
    go_wp2_with (first | (go_at_call 26; refine (rights26 _ _ _ l _ HG.out).mono ?_; rintro e w3 ⟨rfl, l3⟩; have B3 := hid (sq B1.out l3); clear l3) | (go_at_call 25; refine (type25 m _).mono ?_; rintro e w2 ⟨rfl, rfl⟩; rw [HT.out]))
    go_ret
    exact ⟨rfl, B3.out⟩
end Go.Proofs.Ytfpjjdlfofejcaa
