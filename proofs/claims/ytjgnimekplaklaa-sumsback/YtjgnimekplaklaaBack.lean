/- For every a, b, k and m the function SumsBack answers true: what is added is taken off again, a product is divided, order says nothing. -/
import Derived.Test.YtjgnimekplaklaaKnown
namespace Go.Proofs.Ytjgnimekplaklaa
open Go.ChangeShapes Go.WideShapes Go.ChangeAt Go.RowKit

set_option maxRecDepth 100000 in
set_option maxHeartbeats 4000000 in
theorem back_walk (a0 a1 a2 a3 : Int) (b0 : -9223372036854775808 ≤ a0) (b1 : a0 ≤ 9223372036854775807) (b2 : -9223372036854775808 ≤ a1) (b3 : a1 ≤ 9223372036854775807) (b4 : 0 ≤ a2) (_b5 : a2 ≤ 255) (b6 : 0 ≤ a3) (_b7 : a3 ≤ 255) (w : World) :
    Calls Try.prog 5 #[.int .i64 a0, .int .i64 a1, .int .u8 a2, .int .u8 a3] w fun e w' => e = .returned (.bool true) ∧ Below w.heap.size w w' := by
  have hx := nearZ_i64 a2 (show I64 a0 from ⟨b0, b1⟩)
  have hy := nearZ_i64 a3 (show I64 a1 from ⟨b2, b3⟩)
  obtain ⟨x, ex⟩ : ∃ x, nearZ a0 a2 = x := ⟨_, rfl⟩
  obtain ⟨y, ey⟩ : ∃ y, nearZ a1 a3 = y := ⟨_, rfl⟩
  rw [ex] at hx
  rw [ey] at hy
  obtain ⟨s, es⟩ : ∃ s, x + y = s := ⟨_, rfl⟩
  obtain ⟨p, ep⟩ : ∃ p, x * y = p := ⟨_, rfl⟩
  have es' : y + x = s := by rw [← es]; omega
  have ep' : y * x = p := by rw [← ep, Int.mul_comm]
  have ed : s - y = x := by omega
  have fx := fitB_yes hx
  have fzx := fitZ_yes hx
  clear b0 b1 b2 b3
  by_cases hs : I64 s
  · have fs := fitB_yes hs
    have fzs := fitZ_yes hs
    by_cases hp : I64 p
    · have fp := fitB_yes hp
      have fzp := fitZ_yes hp
      by_cases y0 : y = 0
      · have g0 : (y == 0) = true := by simp [y0]
        clear y0
        go_enter Try.func5, Try.ntmps5
        go_wp2_with (first
          | (go_at_call 7; refine (known_any _).mono ?_; rintro e w1 ⟨rfl, c1⟩)
          | (go_at_call 8; refine (near_any _ _ (by assumption) _).mono ?_; rintro e w' ⟨rfl, rfl⟩)
          | (go_at_call 17; refine (add_any _ _ (by assumption) (by assumption) _).mono ?_; rintro e w2 ⟨rfl, c2⟩)
          | (go_at_call 18; refine (sub_any _ _ (by assumption) (by assumption) _).mono ?_; rintro e w3 ⟨rfl, c3⟩)
          | (go_at_call 19; refine (mul_any _ _ (by assumption) (by assumption) _).mono ?_; rintro e w4 ⟨rfl, c4⟩))
        go_ret
        exact ⟨rfl, by repeat' (first | assumption | refine sq ?_ (by assumption))⟩
      · have g0 : (y == 0) = false := by simp [y0]
        by_cases y1 : y = -1
        · have g1 : (y == -1) = true := by simp [y1]
          have g2 : IntKind.i64.wrap (-x) = p := by rw [← ep, y1] at hp; rw [← ep, y1, IntKind.wrap_i64]; unfold I64 at hp; omega
          clear y1 y0
          go_enter Try.func5, Try.ntmps5
          go_wp2_with (first
            | (go_at_call 7; refine (known_any _).mono ?_; rintro e w1 ⟨rfl, c1⟩)
            | (go_at_call 8; refine (near_any _ _ (by assumption) _).mono ?_; rintro e w' ⟨rfl, rfl⟩)
            | (go_at_call 17; refine (add_any _ _ (by assumption) (by assumption) _).mono ?_; rintro e w2 ⟨rfl, c2⟩)
            | (go_at_call 18; refine (sub_any _ _ (by assumption) (by assumption) _).mono ?_; rintro e w3 ⟨rfl, c3⟩)
            | (go_at_call 19; refine (mul_any _ _ (by assumption) (by assumption) _).mono ?_; rintro e w4 ⟨rfl, c4⟩))
          go_ret
          exact ⟨rfl, by repeat' (first | assumption | refine sq ?_ (by assumption))⟩
        · have g1 : (y == -1) = false := by simp [y1]
          have g4 : (y != -1) = true := by simp [y1]
          have g5 : wrap64 x = x := by unfold I64 at hx; unfold wrap64; omega
          have g6 : IntKind.i64.wrap x = x := by unfold I64 at hx; rw [IntKind.wrap_i64]; omega
          have g2 : p.tdiv y = x := by rw [← ep]; exact Int.mul_tdiv_cancel x y0
          have g3 : p.tmod y = 0 := by rw [← ep]; exact Int.mul_tmod_left x y
          go_enter Try.func5, Try.ntmps5
          go_wp2_with (first
            | (go_at_call 7; refine (known_any _).mono ?_; rintro e w1 ⟨rfl, c1⟩)
            | (go_at_call 8; refine (near_any _ _ (by assumption) _).mono ?_; rintro e w' ⟨rfl, rfl⟩)
            | (go_at_call 17; refine (add_any _ _ (by assumption) (by assumption) _).mono ?_; rintro e w2 ⟨rfl, c2⟩)
            | (go_at_call 18; refine (sub_any _ _ (by assumption) (by assumption) _).mono ?_; rintro e w3 ⟨rfl, c3⟩)
            | (go_at_call 19; refine (mul_any _ _ (by assumption) (by assumption) _).mono ?_; rintro e w4 ⟨rfl, c4⟩))
          go_ret
          exact ⟨rfl, by repeat' (first | assumption | refine sq ?_ (by assumption))⟩
    · have fp := fitB_no hp
      have fzp := fitZ_no hp
      go_enter Try.func5, Try.ntmps5
      go_wp2_with (first
        | (go_at_call 7; refine (known_any _).mono ?_; rintro e w1 ⟨rfl, c1⟩)
        | (go_at_call 8; refine (near_any _ _ (by assumption) _).mono ?_; rintro e w' ⟨rfl, rfl⟩)
        | (go_at_call 17; refine (add_any _ _ (by assumption) (by assumption) _).mono ?_; rintro e w2 ⟨rfl, c2⟩)
        | (go_at_call 18; refine (sub_any _ _ (by assumption) (by assumption) _).mono ?_; rintro e w3 ⟨rfl, c3⟩)
        | (go_at_call 19; refine (mul_any _ _ (by assumption) (by assumption) _).mono ?_; rintro e w4 ⟨rfl, c4⟩))
      go_ret
      exact ⟨rfl, by repeat' (first | assumption | refine sq ?_ (by assumption))⟩
  · have fs := fitB_no hs
    have fzs := fitZ_no hs
    by_cases hp : I64 p
    · have fp := fitB_yes hp
      have fzp := fitZ_yes hp
      by_cases y0 : y = 0
      · have g0 : (y == 0) = true := by simp [y0]
        clear y0
        go_enter Try.func5, Try.ntmps5
        go_wp2_with (first
          | (go_at_call 7; refine (known_any _).mono ?_; rintro e w1 ⟨rfl, c1⟩)
          | (go_at_call 8; refine (near_any _ _ (by assumption) _).mono ?_; rintro e w' ⟨rfl, rfl⟩)
          | (go_at_call 17; refine (add_any _ _ (by assumption) (by assumption) _).mono ?_; rintro e w2 ⟨rfl, c2⟩)
          | (go_at_call 18; refine (sub_any _ _ (by assumption) (by assumption) _).mono ?_; rintro e w3 ⟨rfl, c3⟩)
          | (go_at_call 19; refine (mul_any _ _ (by assumption) (by assumption) _).mono ?_; rintro e w4 ⟨rfl, c4⟩))
        go_ret
        exact ⟨rfl, by repeat' (first | assumption | refine sq ?_ (by assumption))⟩
      · have g0 : (y == 0) = false := by simp [y0]
        by_cases y1 : y = -1
        · have g1 : (y == -1) = true := by simp [y1]
          have g2 : IntKind.i64.wrap (-x) = p := by rw [← ep, y1] at hp; rw [← ep, y1, IntKind.wrap_i64]; unfold I64 at hp; omega
          clear y1 y0
          go_enter Try.func5, Try.ntmps5
          go_wp2_with (first
            | (go_at_call 7; refine (known_any _).mono ?_; rintro e w1 ⟨rfl, c1⟩)
            | (go_at_call 8; refine (near_any _ _ (by assumption) _).mono ?_; rintro e w' ⟨rfl, rfl⟩)
            | (go_at_call 17; refine (add_any _ _ (by assumption) (by assumption) _).mono ?_; rintro e w2 ⟨rfl, c2⟩)
            | (go_at_call 18; refine (sub_any _ _ (by assumption) (by assumption) _).mono ?_; rintro e w3 ⟨rfl, c3⟩)
            | (go_at_call 19; refine (mul_any _ _ (by assumption) (by assumption) _).mono ?_; rintro e w4 ⟨rfl, c4⟩))
          go_ret
          exact ⟨rfl, by repeat' (first | assumption | refine sq ?_ (by assumption))⟩
        · have g1 : (y == -1) = false := by simp [y1]
          have g4 : (y != -1) = true := by simp [y1]
          have g5 : wrap64 x = x := by unfold I64 at hx; unfold wrap64; omega
          have g6 : IntKind.i64.wrap x = x := by unfold I64 at hx; rw [IntKind.wrap_i64]; omega
          have g2 : p.tdiv y = x := by rw [← ep]; exact Int.mul_tdiv_cancel x y0
          have g3 : p.tmod y = 0 := by rw [← ep]; exact Int.mul_tmod_left x y
          go_enter Try.func5, Try.ntmps5
          go_wp2_with (first
            | (go_at_call 7; refine (known_any _).mono ?_; rintro e w1 ⟨rfl, c1⟩)
            | (go_at_call 8; refine (near_any _ _ (by assumption) _).mono ?_; rintro e w' ⟨rfl, rfl⟩)
            | (go_at_call 17; refine (add_any _ _ (by assumption) (by assumption) _).mono ?_; rintro e w2 ⟨rfl, c2⟩)
            | (go_at_call 18; refine (sub_any _ _ (by assumption) (by assumption) _).mono ?_; rintro e w3 ⟨rfl, c3⟩)
            | (go_at_call 19; refine (mul_any _ _ (by assumption) (by assumption) _).mono ?_; rintro e w4 ⟨rfl, c4⟩))
          go_ret
          exact ⟨rfl, by repeat' (first | assumption | refine sq ?_ (by assumption))⟩
    · have fp := fitB_no hp
      have fzp := fitZ_no hp
      go_enter Try.func5, Try.ntmps5
      go_wp2_with (first
        | (go_at_call 7; refine (known_any _).mono ?_; rintro e w1 ⟨rfl, c1⟩)
        | (go_at_call 8; refine (near_any _ _ (by assumption) _).mono ?_; rintro e w' ⟨rfl, rfl⟩)
        | (go_at_call 17; refine (add_any _ _ (by assumption) (by assumption) _).mono ?_; rintro e w2 ⟨rfl, c2⟩)
        | (go_at_call 18; refine (sub_any _ _ (by assumption) (by assumption) _).mono ?_; rintro e w3 ⟨rfl, c3⟩)
        | (go_at_call 19; refine (mul_any _ _ (by assumption) (by assumption) _).mono ?_; rintro e w4 ⟨rfl, c4⟩))
      go_ret
      exact ⟨rfl, by repeat' (first | assumption | refine sq ?_ (by assumption))⟩
theorem sumsBack_own : ownKnob Try.prog.godebug = none := by kernel_rfl

set_option maxRecDepth 100000 in
theorem sumsBack_lifted (os : Os) (started : os.Started) (H : Type) (enc : TypeId × Value → H) :
    ReturnsInHanded {} Try.checked os 5 .any (Rows.sumsBackSpec.pre6 enc Try.prog Try.f5 Rows.sumsBackRow.domain false) (Rows.sumsBackSpec.post enc Try.prog Try.f5 false true false false) := by
  refine returnsInHanded_of_change (C := Try.checked) sumsBack_own started (by kernel_rfl) Try.func5
    (ChangeSpec.witness6 (enc := enc) (C := Try.checked) false ⟨#[], #[.int .i64 0, .int .i64 0, .int .u8 0, .int .u8 0], []⟩ 8 (by kernel_rfl) (by kernel_rfl) (by kernel_rfl) (by kernel_rfl)) ?_
  intro W base args ds gs before hval0 hW hcnd _
  have hval : ∀ (j : Nat) t v, Try.f5.params[j]? = some t → args[j]? = some v → Value.okWide Try.prog W .any base t v := hval0
  have hW' := hW
  obtain ⟨p, q, hA0, hV, rfl, hfz, hnd⟩ := hW
  have hA : DataW.TrodAll enc Try.prog W 0 (fun _ => true) true Try.f5.params.toList args.toList ds p := hA0
  rw [Try.params5] at hA hval
  obtain ⟨v0, vs0, d0, ds0, p0, q0, hargs, rfl, rfl, h0, r0⟩ := trodAll_cons hA
  obtain ⟨v1, vs1, d1, ds1, p1, q1, rfl, rfl, rfl, h1, r1⟩ := trodAll_cons r0
  obtain ⟨v2, vs2, d2, ds2, p2, q2, rfl, rfl, rfl, h2, r2⟩ := trodAll_cons r1
  obtain ⟨v3, vs3, d3, ds3, p3, q3, rfl, rfl, rfl, h3, r3⟩ := trodAll_cons r2
  obtain ⟨rfl, rfl, rfl⟩ := trodAll_nil r3
  obtain rfl : args = #[v0, v1, v2, v3] := by cases args; simp_all
  obtain ⟨rfl, rfl⟩ := trodVars_none hV
  obtain ⟨a0, rfl, rfl, rfl, w0⟩ := open_int Try.underlying2 (hval 0 2 v0 rfl rfl) h0
  obtain ⟨a1, rfl, rfl, rfl, w1⟩ := open_int Try.underlying2 (hval 1 2 v1 rfl rfl) h1
  obtain ⟨a2, rfl, rfl, rfl, w2⟩ := open_int Try.underlying5 (hval 2 5 v2 rfl rfl) h2
  obtain ⟨a3, rfl, rfl, rfl, w3⟩ := open_int Try.underlying5 (hval 3 5 v3 rfl rfl) h3
  clear hA0 hval0
  simp only [List.append_nil] at hW'
  have c0 := bounds_i64 w0
  have c1 := bounds_i64 w1
  have c2 := bounds_u8 w2
  have c3 := bounds_u8 w3
  refine (back_walk a0 a1 a2 a3 c0.1 c0.2 c1.1 c1.2 c2.1 c2.2 c3.1 c3.2 W).mono fun e W' ⟨he, bel⟩ => ?_
  subst he
  exact ⟨_, rfl, _, _, _, [], [], [], hW', trodAll_mk1 (shut_bool Try.underlying4 _), (trodAll_cons_mk (shut_int Try.underlying2 w0) (trodAll_cons_mk (shut_int Try.underlying2 w1) (trodAll_cons_mk (shut_int Try.underlying5 w2) (trodAll_cons_mk (shut_int Try.underlying5 w3) trodAll_mk0)))), rfl, bel.frame _, fun h => by cases h⟩

theorem sumsBack_over : Rows.sumsBackRow.holds Try.pinned (OpenSpec.ofChange Rows.sumsBackSpec) :=
  OpenClaim.holds_of_wide 5 Try.f5 rfl rfl rfl rfl rfl rfl rfl ⟨rfl, rfl, rfl, rfl, rfl⟩ rfl rfl rfl rfl rfl (by kernel_rfl) Try.func5 (by kernel_rfl)
    (of_decide_eq_true (by kernel_rfl)) (by unfold Func.isWrapper; first | (rw [if_pos (by decide +kernel)]; kernel_rfl) | (rw [if_neg (by decide +kernel)]; exact ⟨rfl, rfl⟩))
    (fun os started H enc _ => sumsBack_lifted os started H enc)

/-- The statement. -/
theorem sumsBack_holds : Rows.SumsBackSaid := sumsBack_over
#print axioms sumsBack_holds
end Go.Proofs.Ytjgnimekplaklaa
