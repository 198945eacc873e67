/- Whether a frame is good. -/
import Derived.Test.YthchgjndaeefmaaWSmall
namespace Go.Proofs.Ythchgjndaeefmaa
open Go.ChangeShapes Go.WideShapes Go.ChangeAt Go.RowKit

theorem drewN_cell (w : World) (m : Nat) (p : Addr) : (w.drewN m).cell? p = w.cell? p := by
  induction m with
  | zero => rfl
  | succ m ih => exact ih
theorem RowAt.drewN {w : World} {ao : Option Addr} {l : List Int} (h : RowAt w ao l) (m : Nat) : RowAt (w.drewN m) ao l := by
  rcases h with h | ⟨b, o, e, hc⟩
  · exact .inl h
  · exact .inr ⟨b, o, e, fun i hi => by rw [drewN_cell]; exact hc i hi⟩
theorem Given.drewN {w : World} {ao : Option Addr} {len cap : Nat} {zs : List Int} (h : Given w ao len cap zs) (m : Nat) : Given (w.drewN m) ao len cap zs := ⟨h.leq, h.byt, h.row.drewN m, h.cap1, h.cap2⟩
theorem bel_drewN {B : Nat} {w w' : World} (h : Below B w w') (m : Nat) : Below B w (w'.drewN m) := by
  induction m with
  | zero => exact h
  | succ m ih => exact ⟨ih.os, ih.tape, ih.output, ih.size, ih.block⟩
theorem good_long {x r : List Int} (h : 500 < x.length) : good x r = false := by unfold good; rw [decide_eq_false (by omega)]; rfl
theorem good_none {x r : List Int} (h : r.length = 0) : good x r = false := by unfold good; rw [decide_eq_false (p := 0 < r.length) (by omega)]; simp
theorem good_eq {x r : List Int} (h : x.length ≤ 500) (h' : 0 < r.length) : good x r = decide (r.getD 0 0 = sumL x) := by unfold good; rw [decide_eq_true h, decide_eq_true h']; simp
set_option maxHeartbeats 1000000 in
theorem good24 (a1 a2 : Option Addr) (n1 c1 n2 c2 : Nat) (x r : List Int) (w : World) (h1 : Given w a1 n1 c1 x) (h2 : Given w a2 n2 c2 r) :
    Calls Try.prog 29 #[.slice a1 n1 c1, .slice a2 n2 c2] w fun e w' => e = .returned (.bool (good x r)) ∧ ∃ m, w' = w.drewN m := by
  have H := hid h1
  have hq1 := h1.leq
  have hq2 := h2.leq
  have m1 : n1 ≤ 9223372036854775807 := Nat.le_trans h1.cap1 h1.cap2
  have m2 : n2 ≤ 9223372036854775807 := Nat.le_trans h2.cap1 h2.cap2
  by_cases j1 : 500 < n1
  · have HG := hid (good_long (r := r) (hq1 ▸ j1))
    have j1' : ¬ (n1 : Int) ≤ 500 := by omega
    have d1 : decide ((n1 : Int) ≤ 500) = false := decide_eq_false j1'
    have d2 : decide (n1 ≤ 500) = false := decide_eq_false (by omega)
    rw [HG.out]
    clear h1 h2 hq1 hq2 HG
    go_enter Try.func29, Try.ntmps29
    go_wp2
    go_quiet (fail)
    go_wp2
    go_ret
    exact ⟨rfl, _, rfl⟩
  · have j1' : (n1 : Int) ≤ 500 := by omega
    have d1 : decide ((n1 : Int) ≤ 500) = true := decide_eq_true j1'
    have d2 : decide (n1 ≤ 500) = true := decide_eq_true (by omega)
    by_cases j2 : n2 = 0
    · have HG := hid (good_none (x := x) (hq2.trans j2))
      rw [HG.out]
      clear h2
      subst j2
      clear h1 hq1 hq2 HG
      go_enter Try.func29, Try.ntmps29
      go_wp2
      go_quiet (fail)
      go_wp2
      go_ret
      exact ⟨rfl, _, rfl⟩
    · have HG := hid (good_eq (x := x) (r := r) (by omega) (by omega))
      obtain ⟨b, o, rfl, hc⟩ := h2.cell 0 (by omega)
      have j2' : (0 : Int) < (n2 : Int) := by omega
      have j3 : 0 < n2 := by omega
      have d3 : decide ((0 : Int) < (n2 : Int)) = true := decide_eq_true j2'
      have d4 : decide (0 < n2) = true := decide_eq_true j3
      rw [HG.out]
      obtain ⟨c, hcc⟩ : ∃ c, r.getD 0 0 = c := ⟨_, rfl⟩
      rw [hcc, Nat.add_zero] at hc
      rw [hcc]
      have HC : ∀ n : Nat, Calls Try.prog 27 #[.slice a1 n1 c1] (w.drewN n) fun e w' => e = .returned (.int .u8 (sumL x)) ∧ w' = (w.drewN n) := fun n => (sum23 _ _ _ x _ (H.out.drewN n)).mono fun e w' h => ⟨h.1, h.2.symm⟩
      generalize sumL x = S at *
      clear h1 h2 hq1 hq2 HG hcc j2
      go_enter Try.func29, Try.ntmps29
      go_wp2
      go_quiet ((go_at_call 27; refine Calls.quiet_of_same (HC _)))
      go_wp2
      go_ret
      exact ⟨rfl, _, rfl⟩
end Go.Proofs.Ythchgjndaeefmaa
