/- What the code reads bytes as. -/
import Derived.Test.YthchgjndaeefmaaReqC
namespace Go.Proofs.Ythchgjndaeefmaa
open Go.ChangeShapes Go.WideShapes Go.ChangeAt Go.RowKit

theorem found_x {zs : List Int} : ∀ {cur : Option (List Int)} {k : Nat} {x : List Int} {n : Nat}, (∀ y, cur = some y → Byt y) → Byt zs → unf cur k zs = some (x, n) → Byt x ∧ x.length ≤ 500 := by
  induction zs with
  | nil => intro cur k x n _ _ h; simp [unf] at h
  | cons c r ih =>
    intro cur k x n hc hb h
    have hr : Byt r := fun y hy => hb y (by simp [hy])
    have h0 : ∀ y, (none : Option (List Int)) = some y → Byt y := fun y e => by cases e
    by_cases h2 : c = 2
    · subst h2; rw [unf_2] at h
      exact ih (fun y e => by cases e; intro z hz; cases hz) hr h
    · by_cases h3 : c = 3
      · subst h3
        cases cur with
        | none => rw [unf_3n] at h; exact ih h0 hr h
        | some y =>
          cases hg : good y r with
          | true =>
            rw [unf_3y _ _ _ hg] at h
            cases h
            simp [good] at hg
            exact ⟨hc _ rfl, hg.1⟩
          | false => rw [unf_3b _ _ _ hg] at h; exact ih h0 hr h
      · rw [unf_o _ _ _ _ h2 h3] at h
        refine ih ?_ hr h
        intro y e
        cases cur with
        | none => cases e
        | some u =>
          cases e
          exact byt_app (hc _ rfl) (fun z hz => by simp at hz; subst hz; exact hb _ (by simp))
theorem uf_x {zs : List Int} (hb : Byt zs) : Byt (ufX zs) ∧ (ufX zs).length ≤ 500 := by
  cases h : unf none 0 zs with
  | none => rw [(uf_none h).1]; exact ⟨fun z hz => (by cases hz), by simp⟩
  | some r =>
    obtain ⟨x, n⟩ := r
    rw [(uf_some h).1]
    exact found_x (fun y e => by cases e) hb h
theorem uf_0 {zs : List Int} (h : ufB zs = false) : ufN zs = 0 := by
  cases e : unf none 0 zs with
  | none => exact (uf_none e).2.1
  | some r => obtain ⟨x, n⟩ := r; rw [(uf_some e).2.2] at h; cases h
theorem uf_le (zs : List Int) : ufN zs ≤ zs.length := by
  cases e : unf none 0 zs with
  | none => rw [(uf_none e).2.1]; omega
  | some r => obtain ⟨x, n⟩ := r; rw [(uf_some e).2.1]; have := found_le e; omega
def RdAns (w : World) (zs : List Int) (e : Ending) (w' : World) : Prop := e = .returned (.tuple #[(rdP zs).val, .int .i64 (ufN zs : Int), .int .i64 (rdE zs)]) ∧ Below w.heap.size w w'
set_option maxHeartbeats 4000000 in
theorem read12 (ao : Option Addr) (len cap : Nat) (zs : List Int) (w : World) (h : Given w ao len cap zs) (hl : len ≤ 900000) :
    Calls Try.prog 12 #[.slice ao len cap] w (RdAns w zs) := by
  have HG := hid h
  have HX := hid (uf_x h.byt)
  clear h
  cases hB : ufB zs
  · have HB := hid hB
    have HE : Hid (rdP zs = Ps.zero ∧ rdE zs = 23) := rd_none hB
    have H0 := hid (uf_0 hB)
    clear hB
    go_enter Try.func12, Try.ntmps12
    go_wp2_with (first | (have kill := V2.out; refine st25 (r := Ps.zero) V2.out L2.out hb1 rfl _ _ rfl rfl rfl ?_; intro w9 v9 l9; have V9 := hid v9; have L9 := hid l9; clear v9 l9 kill V2) | (have kill := V2.out; refine bd25 rfl rfl ?_) | (go_at_call 21; have kill := V1.out; refine (unf19 _ _ _ zs _ (HG.out.below L1.out) hl).mono ?_; rintro e w2 ⟨a2, n2, c2, rfl, m2⟩; rw [HB.out]; have M2 := hid m2; have L2 := hid (sq L1.out m2.2); have V2 := hid (V1.out.below m2.2); have hcv := run_str w2 a2 (ufX zs) n2 c2 m2.1.len m2.1.at; clear m2 kill V1 L1) | (refine al25 rfl rfl ?_; intro b1 w1 hb1 v1 l1; have V1 := hid v1; have L1 := hid l1; clear v1 l1))
    refine bodyPost_ret (results_c2 Try.results12 _ _ rfl rfl rfl V9.out) rfl ⟨?_, L9.out⟩
    rw [HE.out.1, HE.out.2, H0.out]; rfl
  · have HB := hid hB
    obtain ⟨q, hq⟩ : ∃ q, reqL (ufX zs) = q := ⟨_, rfl⟩
    cases hb : reqB (ufX zs)
    · have HQ := hid (And.intro hq hb)
      have HE : Hid (rdP zs = Ps.zero ∧ rdE zs = 23) := rd_no hb
      clear hB hq hb
      go_enter Try.func12, Try.ntmps12
      go_wp2_with (first | (have kill := V6.out; refine st25 (r := Ps.zero) V6.out L6.out hb1 rfl _ _ rfl rfl rfl ?_; intro w9 v9 l9; have V9 := hid v9; have L9 := hid l9; clear v9 l9 kill V6) | (have kill := V6.out; refine bd25 rfl rfl ?_) | (have kill := X5.out; refine st25 (r := q) X5.out Y5.out hb5 rfl _ _ rfl rfl rfl ?_; intro w6 v6 l6; have V6 := hid (V3.out.below l6); have L6 := hid (sq L3.out l6); have X6 := hid v6; clear v6 l6 kill X5 Y5 V3 L3) | (have kill := V3.out; refine al25 rfl rfl ?_; intro b5 w5 hb5 v5 l5; have X5 := hid v5; have Y5 := hid l5; clear v5 l5 kill) | (go_at_call 22; have kill := V2.out; refine (request22 (ufX zs) _ HX.out.1 (Nat.le_trans HX.out.2 (by omega))).mono ?_; rintro e w3 ⟨rfl, l3⟩; rw [HQ.out.1, HQ.out.2]; have L3 := hid (sq L2.out l3); have V3 := hid (V2.out.below l3); clear l3 kill V2 L2 hcv) | (go_at_call 21; have kill := V1.out; refine (unf19 _ _ _ zs _ (HG.out.below L1.out) hl).mono ?_; rintro e w2 ⟨a2, n2, c2, rfl, m2⟩; rw [HB.out]; have M2 := hid m2; have L2 := hid (sq L1.out m2.2); have V2 := hid (V1.out.below m2.2); have hcv := run_str w2 a2 (ufX zs) n2 c2 m2.1.len m2.1.at; clear m2 kill V1 L1) | (refine al25 rfl rfl ?_; intro b1 w1 hb1 v1 l1; have V1 := hid v1; have L1 := hid l1; clear v1 l1))
      refine bodyPost_ret (results_c2 Try.results12 _ _ rfl rfl rfl V9.out) rfl ⟨?_, L9.out⟩
      rw [HE.out.1, HE.out.2]; rfl
    · have HQ := hid (And.intro hq hb)
      have HE : Hid (rdP zs = q ∧ rdE zs = 0) := by
        have := rd_yes hB hb
        rwa [← (req_yes hb).1, hq] at this
      clear hB hq hb
      go_enter Try.func12, Try.ntmps12
      go_wp2_with (first | (have kill := V6.out; refine st25 (r := q) V6.out L6.out hb1 rfl _ _ rfl rfl rfl ?_; intro w9 v9 l9; have V9 := hid v9; have L9 := hid l9; clear v9 l9 kill V6) | (have kill := X6.out; refine ld25 X6.out rfl _ rfl rfl ?_) | (have kill := X5.out; refine st25 (r := q) X5.out Y5.out hb5 rfl _ _ rfl rfl rfl ?_; intro w6 v6 l6; have V6 := hid (V3.out.below l6); have L6 := hid (sq L3.out l6); have X6 := hid v6; clear v6 l6 kill X5 Y5 V3 L3) | (have kill := V3.out; refine al25 rfl rfl ?_; intro b5 w5 hb5 v5 l5; have X5 := hid v5; have Y5 := hid l5; clear v5 l5 kill) | (go_at_call 22; have kill := V2.out; refine (request22 (ufX zs) _ HX.out.1 (Nat.le_trans HX.out.2 (by omega))).mono ?_; rintro e w3 ⟨rfl, l3⟩; rw [HQ.out.1, HQ.out.2]; have L3 := hid (sq L2.out l3); have V3 := hid (V2.out.below l3); clear l3 kill V2 L2 hcv) | (go_at_call 21; have kill := V1.out; refine (unf19 _ _ _ zs _ (HG.out.below L1.out) hl).mono ?_; rintro e w2 ⟨a2, n2, c2, rfl, m2⟩; rw [HB.out]; have M2 := hid m2; have L2 := hid (sq L1.out m2.2); have V2 := hid (V1.out.below m2.2); have hcv := run_str w2 a2 (ufX zs) n2 c2 m2.1.len m2.1.at; clear m2 kill V1 L1) | (refine al25 rfl rfl ?_; intro b1 w1 hb1 v1 l1; have V1 := hid v1; have L1 := hid l1; clear v1 l1))
      refine bodyPost_ret (results_c2 Try.results12 _ _ rfl rfl rfl V9.out) rfl ⟨?_, L9.out⟩
      rw [HE.out.1, HE.out.2]; rfl
end Go.Proofs.Ythchgjndaeefmaa
