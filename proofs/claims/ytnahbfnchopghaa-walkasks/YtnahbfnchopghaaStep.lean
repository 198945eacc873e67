/- One whole step of the code's walk. -/
import Derived.Test.YtnahbfnchopghaaTake
namespace Go.Proofs.Ytnahbfnchopghaa
open Go.ChangeShapes Go.WideShapes Go.ChangeAt Go.RowKit

theorem step_I {s : St} (k : Wk) (h : s.kind = 73) : stepK s k = askK k ∧ stepT s k = s.next ∧ goesK s k = true := by
  unfold stepK stepT goesK; rw [if_pos h, if_pos h, h]; exact ⟨rfl, rfl, rfl⟩
theorem askK_ins (k : Wk) : (askK k).ins = k.ins := by unfold askK; split <;> rfl
theorem step_X {s : St} (k : Wk) (h : ¬ s.kind = 73) (ht : takesB s.kind = false) : stepK s k = k ∧ stepT s k = 0 ∧ goesK s k = false := by
  have h1 : (s.kind == 73) = false := by simpa using h
  unfold stepK stepT goesK; rw [if_neg h, if_neg h, ht, h1]; exact ⟨rfl, rfl, rfl⟩
theorem step_N {s : St} {k : Wk} (h : ¬ s.kind = 73) (e : k.ins = []) : stepK s k = k ∧ stepT s k = 0 ∧ goesK s k = false := by
  have h1 : (s.kind == 73) = false := by simpa using h
  unfold stepK stepT goesK; rw [if_neg h, if_neg h, e, h1]
  cases takesB s.kind <;> exact ⟨rfl, rfl, rfl⟩
theorem step_T {s : St} {k : Wk} {x : ByteArray} {t : List ByteArray} (h : ¬ s.kind = 73) (ht : takesB s.kind = true) (e : k.ins = x :: t) : stepK s k = { k with pan := takeP s x k.pan, amt := takeA s x k.amt, ins := t } ∧ stepT s k = takeT s x ∧ goesK s k = true := by
  have h1 : (s.kind == 73) = false := by simpa using h
  unfold stepK stepT goesK; rw [if_neg h, if_neg h, e, h1, ht]; exact ⟨rfl, rfl, rfl⟩
theorem takes_cases {c : Int} (h : takesB c = true) : c = 65 ∨ c = 66 ∨ c = 68 ∨ c = 69 := by
  unfold takesB at h
  simp only [Bool.or_eq_true, beq_iff_eq] at h
  omega
theorem takes_no {c : Int} (h : takesB c = false) : (c == 65) = false ∧ (c == 66) = false ∧ (c == 68) = false ∧ (c == 69) = false := by
  unfold takesB at h
  simp only [Bool.or_eq_false_iff] at h
  exact ⟨h.1.1.1, h.1.1.2, h.1.2, h.2⟩
/-- What the code's step answers, and what it leaves. -/
def SpAns (b : Nat) (k : Wk) (ao : Option Addr) (len cap : Nat) (s : St) (w : World) (e : Ending) (w' : World) : Prop :=
  e = .returned (.tuple #[.int .i64 (stepT s k), .bool (goesK s k)]) ∧ ∃ ao' len' cap', WV w' b (stepK s k) ao' len' cap' ∧ (∀ W, T.Given W ao len cap k.ins → T.Given W ao' len' cap' (stepK s k).ins) ∧ One b w w'
set_option maxHeartbeats 4000000 in
theorem step15 (b : Nat) (k : Wk) (ao : Option Addr) (len cap : Nat) (s : St) (w : World) (h : WV w b k ao len cap) (g : T.Given w ao len cap k.ins) :
    Calls Try.prog 15 #[.pointer (some ⟨b, 0, none⟩), s.val] w (SpAns b k ao len cap s w) := by
  have H := hid h
  have G := hid g
  have hlt := h.lt
  clear h g
  by_cases h73 : s.kind = 73
  · have HS := hid (step_I k h73)
    have HI := hid (askK_ins k)
    have HK := hid h73
    clear h73
    go_enter Try.func15, Try.ntmps15
    go_wp2_with (first | (have kill := H1.out; go_at_call 21; refine (ask21 b k ao len cap _ H1.out).mono ?_; rintro e w2 ⟨rfl, h2, l2⟩; have v2 := V1.out.kept (l2.block b0 V1.out.lt hne.out); have c2 := v2.cell 2 (v := .int .i64 s.next) rfl; have H2 := hid h2; have L2 := hid (One.seq (One.of_below (b := b) L1.out) l2); clear h2 l2 v2 kill H1 V1) | (have kill := H.out; refine bx34 rfl _ rfl rfl ?_; intro b0 w1 hb0 v1 l1; have c1 := v1.cell 1 (v := .int .u8 s.kind) rfl; have c2 := v1.cell 2 (v := .int .i64 s.next) rfl; rw [HK.out] at c1; have V1 := hid v1; have L1 := hid l1; have H1 := hid (H.out.below l1); have G1 := hid (G.out.below l1); have hne : Hid (¬ b0 = b) := hid (by omega); clear v1 l1 kill H G hb0))
    go_ret2
    refine ⟨by rw [HS.out.2.1, HS.out.2.2]; rfl, ao, len, cap, ?_, fun W hW => ?_, L2.out⟩
    · rw [HS.out.1]; exact H2.out
    · rw [HS.out.1, HI.out]; exact hW
  cases ht : takesB s.kind
  · have HS := hid (step_X k h73 ht)
    obtain ⟨d1, d2, d3, d4⟩ := takes_no ht
    have d0 : (s.kind == 73) = false := by simpa using h73
    clear h73 ht
    go_enter Try.func15, Try.ntmps15
    go_wp2_with (first | (have kill := H.out; refine bx34 rfl _ rfl rfl ?_; intro b0 w1 hb0 v1 l1; have c1 := v1.cell 1 (v := .int .u8 s.kind) rfl; have c2 := v1.cell 2 (v := .int .i64 s.next) rfl; have V1 := hid v1; have L1 := hid l1; have H1 := hid (H.out.below l1); have G1 := hid (G.out.below l1); have hne : Hid (¬ b0 = b) := hid (by omega); clear v1 l1 kill H G hb0))
    go_ret2
    exact ⟨by rw [HS.out.2.1, HS.out.2.2]; rfl, ao, len, cap, by rw [HS.out.1]; exact H1.out, fun W hW => by rw [HS.out.1]; exact hW, One.of_below L1.out⟩
  cases hi : k.ins with
  | nil =>
    have HE := hid hi
    have HS := hid (step_N h73 hi)
    clear hi h73
    rcases takes_cases ht with hk | hk | hk | hk <;> (
      have HK := hid hk
      clear hk ht
      go_enter Try.func15, Try.ntmps15
      go_wp2_with (first | (have kill := H1.out; go_at_call 22; refine (input22_no b k ao len cap _ H1.out G1.out HE.out).mono ?_; rintro e w2 ⟨rfl, rfl⟩; have H2 := H1; clear kill H1) | (have kill := H.out; refine bx34 rfl _ rfl rfl ?_; intro b0 w1 hb0 v1 l1; have c1 := v1.cell 1 (v := .int .u8 s.kind) rfl; have c2 := v1.cell 2 (v := .int .i64 s.next) rfl; rw [HK.out] at c1; have V1 := hid v1; have L1 := hid l1; have H1 := hid (H.out.below l1); have G1 := hid (G.out.below l1); have hne : Hid (¬ b0 = b) := hid (by omega); clear v1 l1 kill H G hb0))
      go_ret2
      exact ⟨by rw [HS.out.2.1, HS.out.2.2]; rfl, ao, len, cap, by rw [HS.out.1]; exact H2.out, fun W hW => by rw [HS.out.1]; exact hW, One.of_below L1.out⟩)
  | cons x t =>
    have HE := hid hi
    have HS := hid (step_T h73 ht hi)
    have HX := hid (G.out.byt x (by rw [hi]; exact List.mem_cons_self))
    clear hi h73
    rcases takes_cases ht with hk | hk | hk | hk <;> (
      have HK := hid hk
      clear hk ht
      go_enter Try.func15, Try.ntmps15
      go_wp2_with (first | (have kill := H2.out; go_at_call 23; refine (take23 b _ ao2 len2 cap2 s x _ H2.out HX.out).mono ?_; rintro e w3 ⟨rfl, h3, l3⟩; have H3 := hid h3; have L3 := hid (One.seq L2.out l3); clear h3 l3 kill H2) | (have kill := V2.out; refine ld34 V2.out rfl _ rfl rfl ?_) | (have kill := H1.out; go_at_call 22; refine (input22_yes b k ao len cap x t _ H1.out G1.out HE.out).mono ?_; rintro e w2 ⟨rfl, ao2, len2, cap2, h2, g2, l2⟩; have v2 := V1.out.kept (l2.block b0 V1.out.lt hne.out); have V2 := hid v2; have H2 := hid h2; have G2 := hid g2; have L2 := hid (One.seq (One.of_below (b := b) L1.out) l2); clear h2 g2 l2 v2 kill H1 V1) | (have kill := H.out; refine bx34 rfl _ rfl rfl ?_; intro b0 w1 hb0 v1 l1; have c1 := v1.cell 1 (v := .int .u8 s.kind) rfl; have c2 := v1.cell 2 (v := .int .i64 s.next) rfl; rw [HK.out] at c1; have V1 := hid v1; have L1 := hid l1; have H1 := hid (H.out.below l1); have G1 := hid (G.out.below l1); have hne : Hid (¬ b0 = b) := hid (by omega); clear v1 l1 kill H G hb0))
      go_ret2
      exact ⟨by rw [HS.out.2.1, HS.out.2.2]; rfl, ao2, len2, cap2, by rw [HS.out.1]; exact H3.out, fun W hW => by rw [HS.out.1]; exact G2.out W hW, L3.out⟩)
end Go.Proofs.Ytnahbfnchopghaa
