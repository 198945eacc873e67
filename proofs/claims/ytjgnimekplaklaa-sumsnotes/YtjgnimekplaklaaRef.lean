/- What the document's sums answer: the same plain functions. -/
import Derived.Test.YtjgnimekplaklaaTot
namespace Go.Proofs.Ytjgnimekplaklaa
open Go.ChangeShapes Go.WideShapes Go.ChangeAt Go.RowKit

theorem hiS_wrap {s v c : Int} (hv : I64 v) (hc : c = (loU s + loU v) / 18446744073709551616) : IntKind.i64.wrap (IntKind.i64.wrap (hiS s + v / 9223372036854775808) + c) = hiS (s + v) := by
  rw [← hiS_add hv, ← hc, IntKind.wrap_i64, IntKind.wrap_i64]
  omega

theorem addR_any (s v : Int) (hv : I64 v) (w : World) :
    Calls Try.prog 23 #[.agg #[.int .i64 (hiS s), .int .u64 (loU s)], .int .i64 v] w fun e w' => e = .returned (.agg #[.int .i64 (hiS (s + v)), .int .u64 (loU (s + v))]) ∧ Below w.heap.size w w' := by
  have e2 := lo_add s v
  have uv := u64_lo v
  have a3 := (loU_word s).1
  have a4 := (loU_word v).1
  obtain ⟨c, hc⟩ : ∃ c, (loU s + loU v) / 18446744073709551616 = c := ⟨_, rfl⟩
  have k0 : 0 ≤ c := by omega
  have k1 : c ≤ 1 := by have := loU_word s; have := loU_word v; omega
  have HW : Hid (IntKind.i64.wrap (IntKind.i64.wrap (hiS s + v / 9223372036854775808) + c) = hiS (s + v)) := hiS_wrap hv hc.symm
  go_enter Try.func23, Try.ntmps23
  go_wp2_with (simp only [add64_0 (loU s) (loU v) a3 a4])
  simp [bodyPost, results, Try.results23, go_sem]
  exact ⟨by have := HW.out; rw [IntKind.wrap_i64, IntKind.wrap_i64] at this; unfold wrap64; exact this, bel_more (bel1 _ _) (Nat.le_refl _) _⟩

theorem narrowR_any (s : Int) (hs : Big s) (w : World) :
    Calls Try.prog 24 #[.agg #[.int .i64 (hiS s), .int .u64 (loU s)]] w fun e w' => e = .returned (.tuple #[.int .i64 (fitZ s), .bool (fitB s)]) ∧ Below w.heap.size w w' := by
  have e := low_wrap s
  by_cases h : I64 s
  · rw [lowZ_of h] at e
    have HB : Hid (fitB s = true) := fitB_yes h
    have HZ : Hid (fitZ s = s) := fitZ_yes h
    have hh := hiS_of h
    go_enter Try.func24, Try.ntmps24
    go_wp2
    go_ret2
    exact ⟨ret_int_bool HZ.out.symm HB.out.symm, bel1 _ _⟩
  · have HB : Hid (fitB s = false) := fitB_no h
    have HZ : Hid (fitZ s = 0) := fitZ_no h
    have hl := lowZ_lo s
    have hn : ¬ hiS s = lowZ s / 9223372036854775808 := fun g => h ((hiS_same hs (lowZ_i64 s) hl g) ▸ lowZ_i64 s)
    go_enter Try.func24, Try.ntmps24
    go_wp2
    go_ret2
    exact ⟨ret_int_bool HZ.out.symm HB.out.symm, bel1 _ _⟩

theorem totalR_any (ao : Option Addr) (cap : Nat) (zs : List Int) (w : World) (hr : RowAt w ao zs) (hb : AllI zs) (hl : zs.length ≤ maxLen) :
    Calls Try.prog 10 #[.slice ao zs.length cap] w fun e w' => e = .returned (.tuple #[.int .i64 (fitZ (tot zs)), .bool (fitB (tot zs))]) ∧ Below w.heap.size w w' := by
  unfold maxLen at hl
  have hbig := tot_big zs hb (by omega)
  go_enter Try.func10, Try.ntmps10
  go_wp2
  go_loopw [5] (fun i wr => ∃ k : Nat, k ≤ zs.length ∧ i = .int .i64 k ∧ wr.cell? ⟨w.heap.size, 0, none⟩ = some (.int .i64 (hiS (tot (zs.take k)))) ∧ wr.cell? ⟨w.heap.size, 1, none⟩ = some (.int .u64 (loU (tot (zs.take k)))) ∧ wr.frozen? ⟨w.heap.size, 0, none⟩ = false ∧ wr.frozen? ⟨w.heap.size, 1, none⟩ = false ∧ Below w.heap.size w wr) (fun i _ => zs.length - (intOf i).toNat)
  case atStart => exact ⟨0, Nat.zero_le _, rfl, by simp [go_sem]; rfl, by simp [go_sem]; rfl, by simp, by simp, bel1 _ _⟩
  case round =>
    obtain ⟨k, hk, rfl, c0, c1, f0, f1, hbel⟩ := hrel
    by_cases hlt : k < zs.length
    · have hsn : Hid (tot (zs.take (k + 1)) = tot (zs.take k) + zs.getD k 0) := tot_next zs k hlt
      have hi := alli_getD hb k
      rcases hr with h | ⟨b, off, rfl, hcell⟩
      · subst h; simp at hlt
      have hc : wr.cell? ⟨b, off + k, none⟩ = some (.int .i64 (zs.getD k 0)) := (hbel.cell (World.block_lt_of_cell? w ⟨b, off + k, none⟩ (hcell k hlt))).trans (hcell k hlt)
      clear hcell
      generalize tot (zs.take k) = s at *
      generalize zs.getD k 0 = x at *
      go_wp2
      go_region_with ((
        (go_at_call 23; refine (addR_any _ _ hi _).mono ?_; rintro e w2 ⟨rfl, b2⟩; have d0 := cellK b2 c0; have d1 := cellK b2 c1; have h0 := frozK b2 c0 f0; have h1 := frozK b2 c1 f1; clear c0 c1 f0 f1)))
      all_goals (
        go_wp2
        go_roundw
        case rel =>
          refine ⟨k + 1, by omega, by go_num, ?_, ?_, ?_, ?_, ((sq hbel.drew b2)).setCell (Nat.le_refl _) _ |>.setCell (Nat.le_refl _) _⟩
          · rw [hsn.out]; simp [go_sem, d0]
          · rw [hsn.out]; simp [go_sem, d1]
          · simp [h0]
          · simp [h1]
        case measure => simp [intOf]; omega)
    · have e : zs.take k = zs := List.take_of_length_le (by omega)
      rw [e] at c0 c1
      go_wp2_with (go_at_call 24; refine (narrowR_any _ hbig _).mono ?_; rintro e w2 ⟨rfl, b2⟩)
      go_ret2
      exact ⟨rfl, (sq hbel b2)⟩

def absZ (v : Int) : Int := if v < 0 then -v else v
theorem absR_any (v : Int) (hv : I64 v) (w : World) :
    Calls Try.prog 32 #[.int .i64 v] w fun e w' => e = .returned (.int .u64 (absZ v)) ∧ w' = w := by
  unfold I64 at hv
  by_cases h : v < 0
  · have HA : Hid (absZ v = -v) := by show absZ v = -v; unfold absZ; rw [if_pos h]
    go_enter Try.func32, Try.ntmps32
    go_wp2
    go_ret
    exact ⟨ret_int (by rw [HA.out]; omega), rfl⟩
  · have HA : Hid (absZ v = v) := by show absZ v = v; unfold absZ; rw [if_neg h]
    go_enter Try.func32, Try.ntmps32
    go_wp2
    go_ret
    exact ⟨ret_int HA.out.symm, rfl⟩

theorem absZ_word {v : Int} (hv : I64 v) : 0 ≤ absZ v ∧ absZ v < 18446744073709551616 := by unfold I64 at hv; unfold absZ; split <;> omega
theorem abs_diff {a b : Int} (h1 : a < 0) (h2 : ¬ b < 0) : a * b = -(absZ a * absZ b) ∧ b * a = -(absZ a * absZ b) := by
  unfold absZ; rw [if_pos h1, if_neg h2, Int.neg_mul, Int.neg_neg, Int.mul_comm b a]; exact ⟨rfl, rfl⟩
theorem abs_same {a b : Int} (h : a < 0 ↔ b < 0) : a * b = absZ a * absZ b := by
  unfold absZ
  by_cases h1 : a < 0
  · rw [if_pos h1, if_pos (h.1 h1), Int.neg_mul_neg]
  · rw [if_neg h1, if_neg (fun g => h1 (h.2 g))]

set_option maxHeartbeats 400000 in
/-- The document's product. -/
theorem mulR_any (a b : Int) (ha : I64 a) (hb : I64 b) (w : World) :
    Calls Try.prog 25 #[.int .i64 a, .int .i64 b] w fun e w' => e = .returned (.tuple #[.int .i64 (fitZ (a * b)), .bool (fitB (a * b))]) ∧ w' = w := by
  obtain ⟨la, la'⟩ := absZ_word ha
  obtain ⟨lb, lb'⟩ := absZ_word hb
  obtain ⟨p, hp⟩ : ∃ p, absZ a * absZ b = p := ⟨_, rfl⟩
  obtain ⟨q, hq⟩ : ∃ q, a * b = q := ⟨_, rfl⟩
  have p0 : 0 ≤ p := hp ▸ Int.mul_nonneg la lb
  rw [hq]
  by_cases h1 : a < 0
  · by_cases h2 : b < 0
    · have e : Hid (q = p) := by show q = p; rw [← hq, ← hp]; exact abs_same (by simp [h1, h2])
      clear hq
      have d1 : decide (a < 0) = true := decide_eq_true h1
      have d2 : decide (b < 0) = true := decide_eq_true h2
      by_cases h3 : p / 18446744073709551616 = 0
      · have h3' : p % 18446744073709551616 = p := by omega
        by_cases h4 : p < 9223372036854775808
        · have h5 : ¬ 9223372036854775808 ≤ p := by omega
          have HR : Hid (fitZ q = p ∧ fitB q = true) := by rw [e.out]; exact ⟨fitZ_yes (by unfold I64; omega), fitB_yes (by unfold I64; omega)⟩
          go_enter Try.func25, Try.ntmps25
          go_wp2_with (first
            | (go_at_call 31; refine (mul64_any _ _ la la' lb lb' _).mono ?_; rintro e w' ⟨rfl, rfl⟩)
            | (go_at_call 32; refine (absR_any _ (by assumption) _).mono ?_; rintro e w' ⟨rfl, rfl⟩))
          go_ret2
          exact ⟨ret_int_bool (by rw [HR.out.1]) HR.out.2.symm, rfl⟩
        · have h5 : 9223372036854775808 ≤ p := by omega
          have HR : Hid (fitZ q = 0 ∧ fitB q = false) := by rw [e.out]; exact ⟨fitZ_no (by unfold I64; omega), fitB_no (by unfold I64; omega)⟩
          go_enter Try.func25, Try.ntmps25
          go_wp2_with (first
            | (go_at_call 31; refine (mul64_any _ _ la la' lb lb' _).mono ?_; rintro e w' ⟨rfl, rfl⟩)
            | (go_at_call 32; refine (absR_any _ (by assumption) _).mono ?_; rintro e w' ⟨rfl, rfl⟩))
          go_ret2
          exact ⟨ret_int_bool (by rw [HR.out.1]) HR.out.2.symm, rfl⟩
      · have h3' : ¬ p < 18446744073709551616 := by omega
        have HR : Hid (fitZ q = 0 ∧ fitB q = false) := by rw [e.out]; exact ⟨fitZ_no (by unfold I64; omega), fitB_no (by unfold I64; omega)⟩
        go_enter Try.func25, Try.ntmps25
        go_wp2_with (first
          | (go_at_call 31; refine (mul64_any _ _ la la' lb lb' _).mono ?_; rintro e w' ⟨rfl, rfl⟩)
          | (go_at_call 32; refine (absR_any _ (by assumption) _).mono ?_; rintro e w' ⟨rfl, rfl⟩))
        go_ret2
        exact ⟨ret_int_bool (by rw [HR.out.1]) HR.out.2.symm, rfl⟩
    · have e : Hid (q = -p) := by show q = -p; rw [← hq, ← hp]; exact (abs_diff h1 h2).1
      clear hq
      have d1 : decide (a < 0) = true := decide_eq_true h1
      have d2 : decide (b < 0) = false := decide_eq_false h2
      by_cases h3 : p / 18446744073709551616 = 0
      · have h3' : p % 18446744073709551616 = p := by omega
        by_cases h4 : 9223372036854775808 < p
        · have h5 : ¬ p ≤ 9223372036854775808 := by omega
          have HR : Hid (fitZ q = 0 ∧ fitB q = false) := by rw [e.out]; exact ⟨fitZ_no (by unfold I64; omega), fitB_no (by unfold I64; omega)⟩
          go_enter Try.func25, Try.ntmps25
          go_wp2_with (first
            | (go_at_call 31; refine (mul64_any _ _ la la' lb lb' _).mono ?_; rintro e w' ⟨rfl, rfl⟩)
            | (go_at_call 32; refine (absR_any _ (by assumption) _).mono ?_; rintro e w' ⟨rfl, rfl⟩))
          go_ret2
          exact ⟨ret_int_bool (by rw [HR.out.1]) HR.out.2.symm, rfl⟩
        · have h5 : p ≤ 9223372036854775808 := by omega
          have HR : Hid (fitZ q = -p ∧ fitB q = true) := by rw [e.out]; exact ⟨fitZ_yes (by unfold I64; omega), fitB_yes (by unfold I64; omega)⟩
          go_enter Try.func25, Try.ntmps25
          go_wp2_with (first
            | (go_at_call 31; refine (mul64_any _ _ la la' lb lb' _).mono ?_; rintro e w' ⟨rfl, rfl⟩)
            | (go_at_call 32; refine (absR_any _ (by assumption) _).mono ?_; rintro e w' ⟨rfl, rfl⟩))
          go_ret2
          exact ⟨ret_int_bool (by rw [HR.out.1]; unfold wrap64; omega) HR.out.2.symm, rfl⟩
      · have h3' : ¬ p < 18446744073709551616 := by omega
        have HR : Hid (fitZ q = 0 ∧ fitB q = false) := by rw [e.out]; exact ⟨fitZ_no (by unfold I64; omega), fitB_no (by unfold I64; omega)⟩
        go_enter Try.func25, Try.ntmps25
        go_wp2_with (first
          | (go_at_call 31; refine (mul64_any _ _ la la' lb lb' _).mono ?_; rintro e w' ⟨rfl, rfl⟩)
          | (go_at_call 32; refine (absR_any _ (by assumption) _).mono ?_; rintro e w' ⟨rfl, rfl⟩))
        go_ret2
        exact ⟨ret_int_bool (by rw [HR.out.1]) HR.out.2.symm, rfl⟩
  · by_cases h2 : b < 0
    · have e : Hid (q = -p) := by show q = -p; rw [← hq, ← hp, Int.mul_comm (absZ a)]; exact (abs_diff h2 h1).2
      clear hq
      have d1 : decide (a < 0) = false := decide_eq_false h1
      have d2 : decide (b < 0) = true := decide_eq_true h2
      by_cases h3 : p / 18446744073709551616 = 0
      · have h3' : p % 18446744073709551616 = p := by omega
        by_cases h4 : 9223372036854775808 < p
        · have h5 : ¬ p ≤ 9223372036854775808 := by omega
          have HR : Hid (fitZ q = 0 ∧ fitB q = false) := by rw [e.out]; exact ⟨fitZ_no (by unfold I64; omega), fitB_no (by unfold I64; omega)⟩
          go_enter Try.func25, Try.ntmps25
          go_wp2_with (first
            | (go_at_call 31; refine (mul64_any _ _ la la' lb lb' _).mono ?_; rintro e w' ⟨rfl, rfl⟩)
            | (go_at_call 32; refine (absR_any _ (by assumption) _).mono ?_; rintro e w' ⟨rfl, rfl⟩))
          go_ret2
          exact ⟨ret_int_bool (by rw [HR.out.1]) HR.out.2.symm, rfl⟩
        · have h5 : p ≤ 9223372036854775808 := by omega
          have HR : Hid (fitZ q = -p ∧ fitB q = true) := by rw [e.out]; exact ⟨fitZ_yes (by unfold I64; omega), fitB_yes (by unfold I64; omega)⟩
          go_enter Try.func25, Try.ntmps25
          go_wp2_with (first
            | (go_at_call 31; refine (mul64_any _ _ la la' lb lb' _).mono ?_; rintro e w' ⟨rfl, rfl⟩)
            | (go_at_call 32; refine (absR_any _ (by assumption) _).mono ?_; rintro e w' ⟨rfl, rfl⟩))
          go_ret2
          exact ⟨ret_int_bool (by rw [HR.out.1]; unfold wrap64; omega) HR.out.2.symm, rfl⟩
      · have h3' : ¬ p < 18446744073709551616 := by omega
        have HR : Hid (fitZ q = 0 ∧ fitB q = false) := by rw [e.out]; exact ⟨fitZ_no (by unfold I64; omega), fitB_no (by unfold I64; omega)⟩
        go_enter Try.func25, Try.ntmps25
        go_wp2_with (first
          | (go_at_call 31; refine (mul64_any _ _ la la' lb lb' _).mono ?_; rintro e w' ⟨rfl, rfl⟩)
          | (go_at_call 32; refine (absR_any _ (by assumption) _).mono ?_; rintro e w' ⟨rfl, rfl⟩))
        go_ret2
        exact ⟨ret_int_bool (by rw [HR.out.1]) HR.out.2.symm, rfl⟩
    · have e : Hid (q = p) := by show q = p; rw [← hq, ← hp]; exact abs_same (by simp [h1, h2])
      clear hq
      have d1 : decide (a < 0) = false := decide_eq_false h1
      have d2 : decide (b < 0) = false := decide_eq_false h2
      by_cases h3 : p / 18446744073709551616 = 0
      · have h3' : p % 18446744073709551616 = p := by omega
        by_cases h4 : p < 9223372036854775808
        · have h5 : ¬ 9223372036854775808 ≤ p := by omega
          have HR : Hid (fitZ q = p ∧ fitB q = true) := by rw [e.out]; exact ⟨fitZ_yes (by unfold I64; omega), fitB_yes (by unfold I64; omega)⟩
          go_enter Try.func25, Try.ntmps25
          go_wp2_with (first
            | (go_at_call 31; refine (mul64_any _ _ la la' lb lb' _).mono ?_; rintro e w' ⟨rfl, rfl⟩)
            | (go_at_call 32; refine (absR_any _ (by assumption) _).mono ?_; rintro e w' ⟨rfl, rfl⟩))
          go_ret2
          exact ⟨ret_int_bool (by rw [HR.out.1]) HR.out.2.symm, rfl⟩
        · have h5 : 9223372036854775808 ≤ p := by omega
          have HR : Hid (fitZ q = 0 ∧ fitB q = false) := by rw [e.out]; exact ⟨fitZ_no (by unfold I64; omega), fitB_no (by unfold I64; omega)⟩
          go_enter Try.func25, Try.ntmps25
          go_wp2_with (first
            | (go_at_call 31; refine (mul64_any _ _ la la' lb lb' _).mono ?_; rintro e w' ⟨rfl, rfl⟩)
            | (go_at_call 32; refine (absR_any _ (by assumption) _).mono ?_; rintro e w' ⟨rfl, rfl⟩))
          go_ret2
          exact ⟨ret_int_bool (by rw [HR.out.1]) HR.out.2.symm, rfl⟩
      · have h3' : ¬ p < 18446744073709551616 := by omega
        have HR : Hid (fitZ q = 0 ∧ fitB q = false) := by rw [e.out]; exact ⟨fitZ_no (by unfold I64; omega), fitB_no (by unfold I64; omega)⟩
        go_enter Try.func25, Try.ntmps25
        go_wp2_with (first
          | (go_at_call 31; refine (mul64_any _ _ la la' lb lb' _).mono ?_; rintro e w' ⟨rfl, rfl⟩)
          | (go_at_call 32; refine (absR_any _ (by assumption) _).mono ?_; rintro e w' ⟨rfl, rfl⟩))
        go_ret2
        exact ⟨ret_int_bool (by rw [HR.out.1]) HR.out.2.symm, rfl⟩
end Go.Proofs.Ytjgnimekplaklaa
