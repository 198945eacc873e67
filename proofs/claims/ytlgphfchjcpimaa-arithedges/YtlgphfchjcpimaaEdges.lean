/- For every n and d the function ArithEdges answers true: of each width from 2 to 63 just the numbers at its edges fit. -/
import Derived.Test.YtlgphfchjcpimaaKnown
namespace Go.Proofs.Ytlgphfchjcpimaa
open Go.ChangeShapes Go.WideShapes Go.ChangeAt Go.RowKit

theorem nar_edge {m : Nat} {P K v : Int} (hm : m ≤ 62) (hP : (2 : Int) ^ m = P) (hK : K = m + 1) : narB v K = decide (-P ≤ v ∧ v < P) := by
  subst hP hK
  by_cases h : -2 ^ m ≤ v ∧ v < 2 ^ m
  · rw [narB_yes ⟨by omega, by omega, (wrapZ_eq_iff v m (by omega)).2 h⟩]; simp [h]
  · rw [narB_no (fun hh => h ((wrapZ_eq_iff v m (by omega)).1 hh.2.2))]; simp at h; simp; omega

theorem uns_edge {m : Nat} {P K v : Int} (hm : m ≤ 62) (hP : (2 : Int) ^ m = P) (hK : K = m) : unsB v K = decide (0 ≤ v ∧ v < P) := by
  subst hP hK
  have hp := two_pow_pos m
  by_cases h : 0 ≤ v ∧ v < 2 ^ m
  · rw [unsB_yes ⟨by omega, by omega, h.1, by rw [Int.toNat_natCast]; exact Int.ediv_eq_zero_of_lt h.1 h.2⟩]; simp [h]
  · rw [unsB_no (fun hh => h ⟨hh.2.2.1, ?_⟩)]
    · simp at h; simp; omega
    · have := hh.2.2.2
      rw [Int.toNat_natCast] at this
      have h1 := Int.mul_ediv_add_emod v (2 ^ m)
      have h2 := Int.emod_lt_of_pos v hp
      rw [this] at h1; omega

theorem edges_walk (a0 : Int) (a1 : Int) (b0 : 0 ≤ a0) (b1 : a0 ≤ 255) (b2 : -128 ≤ a1) (b3 : a1 ≤ 127) (w : World) :
    Calls Try.prog 6 #[.int .u8 a0, .int .i8 a1] w fun e w' => e = .returned (.bool true) ∧ Below w.heap.size w w' := by
  obtain ⟨P, hP⟩ : ∃ P : Int, (2 : Int) ^ ((a0 % 62 + 2).toNat - 1) = P := ⟨_, rfl⟩
  obtain ⟨r, hr⟩ : ∃ r : Int, a1.tmod 3 = r := ⟨_, rfl⟩
  have rr : -2 ≤ r ∧ r ≤ 2 := by
    subst hr
    rcases Int.le_total 0 a1 with h | h
    · rw [Int.tmod_eq_emod_of_nonneg h]; omega
    · have e : a1 = -(-a1) := by omega
      rw [e, Int.neg_tmod, Int.tmod_eq_emod_of_nonneg (by omega)]; omega
  have r1 := rr.1
  have r2 := rr.2
  have hm : (a0 % 62 + 2).toNat - 1 ≤ 62 := by omega
  have p1 : 2 ≤ P := by
    have h1 := Nat.pow_le_pow_right (n := 2) (by decide) (show 1 ≤ (a0 % 62 + 2).toNat - 1 by omega)
    rw [← hP]; exact_mod_cast h1
  have p2 : P ≤ 4611686018427387904 := by
    have h1 := Nat.pow_le_pow_right (n := 2) (by decide) hm
    have e62 : (4611686018427387904 : Int) = ((2 ^ 62 : Nat) : Int) := by kernel_rfl
    rw [← hP, e62]; exact_mod_cast h1
  have fA : narB (P - 1 + r) (a0 % 62 + 2) = decide (r ≤ 0) := by
    rw [nar_edge hm hP (by omega)]; apply decide_eq_decide.2; omega
  have fB : narB (-P + r) (a0 % 62 + 2) = decide (0 ≤ r) := by
    rw [nar_edge hm hP (by omega)]; apply decide_eq_decide.2; omega
  have fC : unsB (P - 1 + r) (a0 % 62 + 2 - 1) = decide (0 ≤ P - 1 + r ∧ r ≤ 0) := by
    rw [uns_edge hm hP (by omega)]; apply decide_eq_decide.2; omega
  go_enter Try.func6, Try.ntmps6
  go_wp2_with (first
    | (go_at_call 8; refine (known_any _).mono ?_; rintro e w1 ⟨rfl, hb1⟩)
    | (go_at_call 9; refine (narrow_any _ _ _).mono ?_; rintro e w' ⟨rfl, rfl⟩)
    | (go_at_call 11; refine (unsigned_any _ _ _ (by omega)).mono ?_; rintro e w' ⟨rfl, rfl⟩))
  all_goals (go_ret; exact ⟨rfl, hb1⟩)
theorem own : ownKnob Try.prog.godebug = none := by kernel_rfl

set_option maxRecDepth 100000 in
theorem arithEdges_lifted (os : Os) (started : os.Started) (H : Type) (enc : TypeId × Value → H) :
    ReturnsInHanded {} Try.checked os 6 .any (Rows.arithEdgesSpec.pre6 enc Try.prog Try.f6 Rows.arithEdgesRow.domain false) (Rows.arithEdgesSpec.post enc Try.prog Try.f6 false true false false) := by
  refine returnsInHanded_of_change (C := Try.checked) own started (by kernel_rfl) Try.func6
    (ChangeSpec.witness6 (enc := enc) (C := Try.checked) false ⟨#[], #[.int .u8 0, .int .i8 0], []⟩ 8 (by kernel_rfl) (by kernel_rfl) (by kernel_rfl) (by kernel_rfl)) ?_
  intro W base args ds gs before hval0 hW hcnd _
  have hval : ∀ (j : Nat) t v, Try.f6.params[j]? = some t → args[j]? = some v → Value.okWide Try.prog W .any base t v := hval0
  have hW' := hW
  obtain ⟨p, q, hA0, hV, rfl, hfz, hnd⟩ := hW
  have hA : DataW.TrodAll enc Try.prog W 0 (fun _ => true) true Try.f6.params.toList args.toList ds p := hA0
  rw [Try.params6] at hA hval
  obtain ⟨v0, vs0, d0, ds0, p0, q0, hargs, rfl, rfl, h0, r0⟩ := trodAll_cons hA
  obtain ⟨v1, vs1, d1, ds1, p1, q1, rfl, rfl, rfl, h1, r1⟩ := trodAll_cons r0
  obtain ⟨rfl, rfl, rfl⟩ := trodAll_nil r1
  obtain rfl : args = #[v0, v1] := by cases args; simp_all
  obtain ⟨rfl, rfl⟩ := trodVars_none hV
  obtain ⟨a0, rfl, rfl, rfl, w0⟩ := open_int Try.underlying5 (hval 0 5 v0 rfl rfl) h0
  obtain ⟨a1, rfl, rfl, rfl, w1⟩ := open_int Try.underlying43 (hval 1 43 v1 rfl rfl) h1
  clear hA0 hval0
  simp only [List.append_nil] at hW'
  have c0 := bounds_u8 w0
  have c1 := bounds_i8 w1
  refine (edges_walk a0 a1 c0.1 c0.2 c1.1 c1.2 W).mono fun e W' ⟨he, bel⟩ => ?_
  subst he
  exact ⟨_, rfl, _, _, _, [], [], [], hW', trodAll_mk1 (shut_bool Try.underlying4 _), (trodAll_cons_mk (shut_int Try.underlying5 w0) (trodAll_cons_mk (shut_int Try.underlying43 w1) trodAll_mk0)), rfl, bel.frame _, fun h => by cases h⟩

theorem arithEdges_over : Rows.arithEdgesRow.holds Try.pinned (OpenSpec.ofChange Rows.arithEdgesSpec) :=
  OpenClaim.holds_of_wide 6 Try.f6 rfl rfl rfl rfl rfl rfl rfl ⟨rfl, rfl, rfl, rfl, rfl⟩ rfl rfl rfl rfl rfl (by kernel_rfl) Try.func6 (by kernel_rfl)
    (of_decide_eq_true (by kernel_rfl)) (by unfold Func.isWrapper; first | (rw [if_pos (by decide +kernel)]; kernel_rfl) | (rw [if_neg (by decide +kernel)]; exact ⟨rfl, rfl⟩))
    (fun os started H enc _ => arithEdges_lifted os started H enc)

/-- The statement. -/
theorem arithEdges_holds : Rows.ArithEdgesSaid := arithEdges_over
#print axioms arithEdges_holds
end Go.Proofs.Ytlgphfchjcpimaa
