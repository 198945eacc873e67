/- For every v, w and n the function ArithBack answers true: what a width has is the same there and back, and turning all the way round is nothing. -/
import Derived.Test.YtlgphfchjcpimaaKnown
namespace Go.Proofs.Ytlgphfchjcpimaa
open Go.ChangeShapes Go.WideShapes Go.ChangeAt Go.RowKit

theorem wrapZ_congr {a b : Int} {m : Nat} (h : m < 63) (e : a % 2 ^ (m + 1) = b % 2 ^ (m + 1)) : wrapZ a (m + 1) = wrapZ b (m + 1) := by
  rw [wrapZ_mid a m h, wrapZ_mid b m h, Int.add_emod a, e, ← Int.add_emod b]

theorem wrapZ_idem (v n : Int) : wrapZ (wrapZ v n) n = wrapZ v n := by
  by_cases h1 : n < 1
  · rw [wrapZ_low _ n h1, wrapZ_low _ n h1]
  · by_cases h2 : 64 ≤ n
    · rw [wrapZ_high _ n h2]
    · obtain ⟨m, rfl⟩ : ∃ m : Nat, n = m + 1 := ⟨(n - 1).toNat, by omega⟩
      have hm : m < 63 := by omega
      rw [wrapZ_eq_iff _ m hm, wrapZ_mid v m hm]
      have hp := two_pow_pos m
      have hs : (2 : Int) ^ (m + 1) = 2 ^ m * 2 := by rw [Int.pow_succ]
      rw [hs]
      generalize (2 : Int) ^ m = t at *
      have := Int.emod_nonneg (v + t) (show t * 2 ≠ 0 by omega)
      have := Int.emod_lt_of_pos (v + t) (show 0 < t * 2 by omega)
      omega

theorem numB_short (zs : List Int) (hb : Byt zs) (h : zs.length ≤ 8) : numB zs = true := by
  have h1 := (num_bd zs hb).2
  have h2 : (2 : Int) ^ (8 * zs.length) ≤ 18446744073709551616 := by
    have h3 : (2 : Nat) ^ (8 * zs.length) ≤ 2 ^ 64 := Nat.pow_le_pow_right (by decide) (by omega)
    have e64 : (18446744073709551616 : Int) = ((2 ^ 64 : Nat) : Int) := by kernel_rfl
    rw [e64]; exact_mod_cast h3
  unfold numB; simp; omega

theorem sgn_back (x : Int) (k : Nat) (h1 : 1 ≤ k) (h8 : k ≤ 8) (hx : wrapZ x (8 * k) = x) (b1 : -9223372036854775808 ≤ x) (b2 : x ≤ 9223372036854775807) :
    sgnB (bytesL (IntKind.u64.wrap x) k) = true ∧ sgnZ (bytesL (IntKind.u64.wrap x) k) = x := by
  have hB : sgnB (bytesL (IntKind.u64.wrap x) k) = true := by unfold sgnB; rw [bytesL_length]; simp; omega
  refine ⟨hB, ?_⟩
  unfold sgnZ
  rw [if_pos hB, bytesL_length]
  have hn : num (bytesL (IntKind.u64.wrap x) k) = x % 18446744073709551616 % 2 ^ (8 * k) := by rw [num_bytesL, IntKind.wrap_u64]
  have hz : numZ (bytesL (IntKind.u64.wrap x) k) = x % 18446744073709551616 % 2 ^ (8 * k) := by
    unfold numZ
    rw [numB_short _ (bytesL_byt _ _) (by rw [bytesL_length]; exact h8), if_pos rfl, hn]
  rw [hz]
  by_cases hk : k = 8
  · subst hk
    rw [wrapZ_high _ _ (by omega)]
    unfold wrap64
    rw [show (2 : Int) ^ (8 * 8) = 18446744073709551616 from rfl]
    omega
  · obtain ⟨m, hm⟩ : ∃ m : Nat, 8 * k = m + 1 := ⟨8 * k - 1, by omega⟩
    have hm63 : m < 63 := by omega
    have e8 : (8 : Int) * k = m + 1 := by omega
    rw [e8] at hx ⊢
    rw [hm]
    have ed : (18446744073709551616 : Int) = 2 ^ (m + 1) * 2 ^ (63 - m) := by
      rw [← Int.pow_add, show m + 1 + (63 - m) = 64 by omega]; rfl
    have hdvd : (2 : Int) ^ (m + 1) ∣ 18446744073709551616 := ⟨_, ed⟩
    have e1 : wrap64 (x % 18446744073709551616 % 2 ^ (m + 1)) % 2 ^ (m + 1) = x % 2 ^ (m + 1) := by
      unfold wrap64
      have hq : ∀ y : Int, ((y + 9223372036854775808) % 18446744073709551616 - 9223372036854775808) % 2 ^ (m + 1) = y % 2 ^ (m + 1) := by
        intro y
        have e2 := Int.mul_ediv_add_emod (y + 9223372036854775808) 18446744073709551616
        have e3 : (y + 9223372036854775808) % 18446744073709551616 - 9223372036854775808 = y + 2 ^ (m + 1) * (-(2 ^ (63 - m) * ((y + 9223372036854775808) / 18446744073709551616))) := by
          rw [Int.mul_neg, ← Int.mul_assoc, ← ed]; omega
        rw [e3, Int.add_mul_emod_self_left]
      rw [hq, Int.emod_emod_of_dvd _ (Int.dvd_refl _), Int.emod_emod_of_dvd _ hdvd]
    rw [wrapZ_congr hm63 e1, hx]

theorem signed_at (ao : Option Addr) (len cap : Nat) (zs : List Int) (w : World) (hlen : zs.length = len) (hr : RowAt w ao zs) (hb : Byt zs) (hl : len ≤ maxLen) :
    Calls Try.prog 23 #[.slice ao len cap] w fun e w' => e = .returned (.tuple #[.int .i64 (sgnZ zs), .bool (sgnB zs)]) ∧ w' = w := by
  subst hlen; exact signed_any ao cap zs w hr hb hl

theorem back_walk (a0 : Int) (a1 : Int) (a2 : Int) (b0 : -9223372036854775808 ≤ a0) (b1 : a0 ≤ 9223372036854775807) (b2 : 0 ≤ a1) (b3 : a1 ≤ 4294967295) (b4 : 0 ≤ a2) (b5 : a2 ≤ 255) (w : World) :
    Calls Try.prog 5 #[.int .i64 a0, .int .u32 a1, .int .u8 a2] w fun e w' => e = .returned (.bool true) ∧ Below w.heap.size w w' := by
  obtain ⟨k, hk⟩ : ∃ k : Nat, a2 % 8 + 1 = (k : Int) := ⟨(a2 % 8 + 1).toNat, by omega⟩
  have k1 : 1 ≤ k := by omega
  have k2 : k ≤ 8 := by omega
  obtain ⟨x, hx⟩ : ∃ x : Int, wrapZ a0 (8 * k) = x := ⟨_, rfl⟩
  have hxb := wrapZ_wf a0 (8 * k) ⟨b0, b1⟩
  rw [hx] at hxb
  have hxi : wrapZ x (8 * k) = x := by rw [← hx]; exact wrapZ_idem _ _
  obtain ⟨sB, sZ⟩ := sgn_back x k k1 k2 hxi hxb.1 hxb.2
  have nB : narB x (8 * k) = true := narB_yes ⟨by omega, by omega, hxi⟩
  have nZ : narZ x (8 * k) = x := by simp [narZ, nB]
  have hrb := rotZ_bd a1 a2 b2 (by omega)
  have hr0 := hrb.1
  have hr1 := hrb.2.1
  clear hrb
  have b3' : a1 < 4294967296 := by omega
  have hrr := rotZ_back a1 a2 (32 - a2 % 32) b2 (by omega) rfl
  have hu : 0 ≤ IntKind.u64.wrap x ∧ IntKind.u64.wrap x < 18446744073709551616 := by rw [IntKind.wrap_u64]; omega
  have hlow : lowZ (IntKind.u64.wrap a0) 64 = IntKind.u64.wrap a0 := by simp [lowZ]
  clear hxi
  go_enter Try.func5, Try.ntmps5
  go_wp2_with (first
    | (go_at_call 8; refine (known_any _).mono ?_; rintro e w1 ⟨rfl, hb1⟩)
    | (go_at_call 13; refine (wrap_any _ _ _).mono ?_; rintro e w' ⟨rfl, rfl⟩)
    | (go_at_call 9; refine (narrow_any _ _ _).mono ?_; rintro e w' ⟨rfl, rfl⟩)
    | (go_at_call 15; refine (low_any _ _ _).mono ?_; rintro e w' ⟨rfl, rfl⟩)
    | (go_at_call 17; refine (rotate_any _ _ _ (by assumption) (by assumption)).mono ?_; rintro e w' ⟨rfl, rfl⟩)
    | (go_at_call 19; refine (bytes_fit _ k _ k1 (by omega) hu.1 hu.2).mono ?_; rintro e w' ⟨rfl, rfl⟩)
    | (go_at_call 23; refine (signed_at _ _ _ _ _ (bytesL_length _ _) (row_new _ _) (bytesL_byt _ _) (by unfold maxLen; omega)).mono ?_; rintro e w' ⟨rfl, rfl⟩))
  go_ret
  exact ⟨rfl, hb1.alloc hb1.size _⟩
theorem arithBack_own : ownKnob Try.prog.godebug = none := by kernel_rfl

set_option maxRecDepth 100000 in
theorem arithBack_lifted (os : Os) (started : os.Started) (H : Type) (enc : TypeId × Value → H) :
    ReturnsInHanded {} Try.checked os 5 .any (Rows.arithBackSpec.pre6 enc Try.prog Try.f5 Rows.arithBackRow.domain false) (Rows.arithBackSpec.post enc Try.prog Try.f5 false true false false) := by
  refine returnsInHanded_of_change (C := Try.checked) arithBack_own started (by kernel_rfl) Try.func5
    (ChangeSpec.witness6 (enc := enc) (C := Try.checked) false ⟨#[], #[.int .i64 0, .int .u32 0, .int .u8 0], []⟩ 8 (by kernel_rfl) (by kernel_rfl) (by kernel_rfl) (by kernel_rfl)) ?_
  intro W base args ds gs before hval0 hW hcnd _
  have hval : ∀ (j : Nat) t v, Try.f5.params[j]? = some t → args[j]? = some v → Value.okWide Try.prog W .any base t v := hval0
  have hW' := hW
  obtain ⟨p, q, hA0, hV, rfl, hfz, hnd⟩ := hW
  have hA : DataW.TrodAll enc Try.prog W 0 (fun _ => true) true Try.f5.params.toList args.toList ds p := hA0
  rw [Try.params5] at hA hval
  obtain ⟨v0, vs0, d0, ds0, p0, q0, hargs, rfl, rfl, h0, r0⟩ := trodAll_cons hA
  obtain ⟨v1, vs1, d1, ds1, p1, q1, rfl, rfl, rfl, h1, r1⟩ := trodAll_cons r0
  obtain ⟨v2, vs2, d2, ds2, p2, q2, rfl, rfl, rfl, h2, r2⟩ := trodAll_cons r1
  obtain ⟨rfl, rfl, rfl⟩ := trodAll_nil r2
  obtain rfl : args = #[v0, v1, v2] := by cases args; simp_all
  obtain ⟨rfl, rfl⟩ := trodVars_none hV
  obtain ⟨a0, rfl, rfl, rfl, w0⟩ := open_int Try.underlying2 (hval 0 2 v0 rfl rfl) h0
  obtain ⟨a1, rfl, rfl, rfl, w1⟩ := open_int Try.underlying23 (hval 1 23 v1 rfl rfl) h1
  obtain ⟨a2, rfl, rfl, rfl, w2⟩ := open_int Try.underlying5 (hval 2 5 v2 rfl rfl) h2
  clear hA0 hval0
  simp only [List.append_nil] at hW'
  have c0 := bounds_i64 w0
  have c1 := bounds_u32 w1
  have c2 := bounds_u8 w2
  refine (back_walk a0 a1 a2 c0.1 c0.2 c1.1 c1.2 c2.1 c2.2 W).mono fun e W' ⟨he, bel⟩ => ?_
  subst he
  exact ⟨_, rfl, _, _, _, [], [], [], hW', trodAll_mk1 (shut_bool Try.underlying4 _), (trodAll_cons_mk (shut_int Try.underlying2 w0) (trodAll_cons_mk (shut_int Try.underlying23 w1) (trodAll_cons_mk (shut_int Try.underlying5 w2) trodAll_mk0))), rfl, bel.frame _, fun h => by cases h⟩

theorem arithBack_over : Rows.arithBackRow.holds Try.pinned (OpenSpec.ofChange Rows.arithBackSpec) :=
  OpenClaim.holds_of_wide 5 Try.f5 rfl rfl rfl rfl rfl rfl rfl ⟨rfl, rfl, rfl, rfl, rfl⟩ rfl rfl rfl rfl rfl (by kernel_rfl) Try.func5 (by kernel_rfl)
    (of_decide_eq_true (by kernel_rfl)) (by unfold Func.isWrapper; first | (rw [if_pos (by decide +kernel)]; kernel_rfl) | (rw [if_neg (by decide +kernel)]; exact ⟨rfl, rfl⟩))
    (fun os started H enc _ => arithBack_lifted os started H enc)

/-- The statement. -/
theorem arithBack_holds : Rows.ArithBackSaid := arithBack_over
#print axioms arithBack_holds
end Go.Proofs.Ytlgphfchjcpimaa
