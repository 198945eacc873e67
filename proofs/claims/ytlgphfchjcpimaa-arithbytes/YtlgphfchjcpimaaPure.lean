/- What the functions of numbers alone answer, the program's and the document's: each by one plain function of integers. -/
import Derived.Test.YtlgphfchjcpimaaRows
import Derived.Test.YtlgphfchjcpimaaMath
import Derived.WalkKit
import Derived.ProofKit
import Derived.OpenShut
import Derived.WalkSpells
import Derived.WalkLawsBesides
namespace Go.Proofs.Ytlgphfchjcpimaa
open Go.ChangeShapes Go.WideShapes Go.ChangeAt Go.RowKit

theorem ret_int {k : IntKind} {a b : Int} (h : a = b) : Ending.returned (.int k a) = .returned (.int k b) := by rw [h]
theorem ret_int_bool {k : IntKind} {a b : Int} {c d : Bool} (h : a = b) (g : c = d) : Ending.returned (.tuple #[.int k a, .bool c]) = .returned (.tuple #[.int k b, .bool d]) := by rw [h, g]

theorem wrap_any (v n : Int) (w : World) :
    Calls Try.prog 13 #[.int .i64 v, .int .i64 n] w fun e w' => e = .returned (.int .i64 (wrapZ v n)) ∧ w' = w := by
  by_cases h1 : n < 1
  · go_enter Try.func13, Try.ntmps13
    go_wp2
    go_ret
    exact ⟨ret_int (wrapZ_low v n h1).symm, rfl⟩
  · by_cases h2 : 64 ≤ n
    · go_enter Try.func13, Try.ntmps13
      go_wp2
      go_ret
      exact ⟨ret_int (wrapZ_high v n h2).symm, rfl⟩
    · go_enter Try.func13, Try.ntmps13
      go_wp2
      go_ret
      exact ⟨ret_int (by unfold wrapZ; rw [if_neg (by omega), if_neg (by omega)]), rfl⟩

theorem wrapR_any (v n : Int) (w : World) :
    Calls Try.prog 14 #[.int .i64 v, .int .i64 n] w fun e w' => e = .returned (.int .i64 (wrapZ v n)) ∧ w' = w := by
  by_cases h1 : n < 1
  · go_enter Try.func14, Try.ntmps14
    go_wp2
    go_ret
    exact ⟨ret_int (wrapZ_low v n h1).symm, rfl⟩
  · by_cases h2 : 64 ≤ n
    · have h3 : 63 < n := by omega
      go_enter Try.func14, Try.ntmps14
      go_wp2
      go_ret
      exact ⟨ret_int (wrapZ_high v n h2).symm, rfl⟩
    · have h3 : ¬ 63 < n := by omega
      go_enter Try.func14, Try.ntmps14
      go_wp2
      go_ret
      exact ⟨ret_int (by unfold wrapZ; rw [if_neg (by omega), if_neg (by omega)]), rfl⟩

/-- Has a signed number of n bits v? -/
def narB (v n : Int) : Bool := decide (1 ≤ n) && decide (n ≤ 64) && (wrapZ v n == v)
def narZ (v n : Int) : Int := if narB v n = true then v else 0
theorem narB_no {v n : Int} (h : ¬ (1 ≤ n ∧ n ≤ 64 ∧ wrapZ v n = v)) : narB v n = false := by
  cases e : narB v n
  · rfl
  · simp [narB] at e; exact absurd ⟨e.1.1, e.1.2, e.2⟩ h
theorem narB_yes {v n : Int} (h : 1 ≤ n ∧ n ≤ 64 ∧ wrapZ v n = v) : narB v n = true := by simp [narB, h]

theorem narrow_any (v n : Int) (w : World) :
    Calls Try.prog 9 #[.int .i64 v, .int .i64 n] w fun e w' => e = .returned (.tuple #[.int .i64 (narZ v n), .bool (narB v n)]) ∧ w' = w := by
  by_cases h1 : n < 1
  · have HB : Hid (narB v n = false) := @narB_no v n (by omega)
    go_enter Try.func9, Try.ntmps9
    go_wp2
    go_ret2
    exact ⟨ret_int_bool (by simp [narZ, HB.out]) HB.out.symm, rfl⟩
  · by_cases h2 : 64 < n
    · have HB : Hid (narB v n = false) := @narB_no v n (by omega)
      go_enter Try.func9, Try.ntmps9
      go_wp2
      go_ret2
      exact ⟨ret_int_bool (by simp [narZ, HB.out]) HB.out.symm, rfl⟩
    · by_cases h3 : wrapZ v n = v
      · have HB : Hid (narB v n = true) := @narB_yes v n ⟨by omega, by omega, h3⟩
        have h4 : (wrapZ v n == v) = true := by simp [h3]
        clear h3
        go_enter Try.func9, Try.ntmps9
        go_wp2_with (go_at_call 13; refine (wrap_any _ _ _).mono ?_; rintro e w' ⟨rfl, rfl⟩)
        go_ret2
        exact ⟨ret_int_bool (by simp [narZ, HB.out]) HB.out.symm, rfl⟩
      · have HB : Hid (narB v n = false) := @narB_no v n (by simp [h3])
        have h4 : (wrapZ v n == v) = false := by simp [h3]
        clear h3
        go_enter Try.func9, Try.ntmps9
        go_wp2_with (go_at_call 13; refine (wrap_any _ _ _).mono ?_; rintro e w' ⟨rfl, rfl⟩)
        go_ret2
        exact ⟨ret_int_bool (by simp [narZ, HB.out]) HB.out.symm, rfl⟩

theorem narrowR_any (v n : Int) (w : World) :
    Calls Try.prog 10 #[.int .i64 v, .int .i64 n] w fun e w' => e = .returned (.tuple #[.int .i64 (narZ v n), .bool (narB v n)]) ∧ w' = w := by
  by_cases h1 : n < 1
  · have HB : Hid (narB v n = false) := @narB_no v n (by omega)
    go_enter Try.func10, Try.ntmps10
    go_wp2
    go_ret2
    exact ⟨ret_int_bool (by simp [narZ, HB.out]) HB.out.symm, rfl⟩
  · by_cases h2 : 64 < n
    · have HB : Hid (narB v n = false) := @narB_no v n (by omega)
      go_enter Try.func10, Try.ntmps10
      go_wp2
      go_ret2
      exact ⟨ret_int_bool (by simp [narZ, HB.out]) HB.out.symm, rfl⟩
    · by_cases h3 : wrapZ v n = v
      · have HB : Hid (narB v n = true) := @narB_yes v n ⟨by omega, by omega, h3⟩
        have h4 : (wrapZ v n == v) = true := by simp [h3]
        clear h3
        go_enter Try.func10, Try.ntmps10
        go_wp2_with (go_at_call 14; refine (wrapR_any _ _ _).mono ?_; rintro e w' ⟨rfl, rfl⟩)
        go_ret2
        exact ⟨ret_int_bool (by simp [narZ, HB.out]) HB.out.symm, rfl⟩
      · have HB : Hid (narB v n = false) := @narB_no v n (by simp [h3])
        have h4 : (wrapZ v n == v) = false := by simp [h3]
        clear h3
        go_enter Try.func10, Try.ntmps10
        go_wp2_with (go_at_call 14; refine (wrapR_any _ _ _).mono ?_; rintro e w' ⟨rfl, rfl⟩)
        go_ret2
        exact ⟨ret_int_bool (by simp [narZ, HB.out]) HB.out.symm, rfl⟩

/-- Is v not below 0, and has at most n bits? -/
def unsB (v n : Int) : Bool := decide (0 ≤ n) && decide (n ≤ 63) && decide (0 ≤ v) && (v / 2 ^ n.toNat == 0)
def unsZ (v n : Int) : Int := if unsB v n = true then v else 0
theorem unsB_no {v n : Int} (h : ¬ (0 ≤ n ∧ n ≤ 63 ∧ 0 ≤ v ∧ v / 2 ^ n.toNat = 0)) : unsB v n = false := by
  cases e : unsB v n
  · rfl
  · simp [unsB] at e; exact absurd ⟨e.1.1.1, e.1.1.2, e.1.2, e.2⟩ h
theorem unsB_yes {v n : Int} (h : 0 ≤ n ∧ n ≤ 63 ∧ 0 ≤ v ∧ v / 2 ^ n.toNat = 0) : unsB v n = true := by simp [unsB, h]

theorem unsigned_any (v n : Int) (w : World) (hv : v ≤ 9223372036854775807) :
    Calls Try.prog 11 #[.int .i64 v, .int .i64 n] w fun e w' => e = .returned (.tuple #[.int .u64 (unsZ v n), .bool (unsB v n)]) ∧ w' = w := by
  by_cases h1 : n < 0
  · have HB : Hid (unsB v n = false) := @unsB_no v n (by omega)
    go_enter Try.func11, Try.ntmps11
    go_wp2
    go_ret2
    exact ⟨ret_int_bool (by simp [unsZ, HB.out]) HB.out.symm, rfl⟩
  · by_cases h2 : 64 ≤ n
    · have HB : Hid (unsB v n = false) := @unsB_no v n (by omega)
      go_enter Try.func11, Try.ntmps11
      go_wp2
      go_ret2
      exact ⟨ret_int_bool (by simp [unsZ, HB.out]) HB.out.symm, rfl⟩
    · by_cases h3 : v < 0
      · have HB : Hid (unsB v n = false) := @unsB_no v n (by omega)
        go_enter Try.func11, Try.ntmps11
        go_wp2
        go_ret2
        exact ⟨ret_int_bool (by simp [unsZ, HB.out]) HB.out.symm, rfl⟩
      · by_cases h4 : v / 2 ^ n.toNat = 0
        · have HB : Hid (unsB v n = true) := @unsB_yes v n ⟨by omega, by omega, by omega, h4⟩
          have h5 : (v / 2 ^ n.toNat == 0) = true := by simp [h4]
          clear h4
          go_enter Try.func11, Try.ntmps11
          go_wp2
          go_ret2
          exact ⟨ret_int_bool (by simp [unsZ, HB.out]) HB.out.symm, rfl⟩
        · have HB : Hid (unsB v n = false) := @unsB_no v n (by simp [h4])
          have h5 : (v / 2 ^ n.toNat == 0) = false := by simp [h4]
          clear h4
          go_enter Try.func11, Try.ntmps11
          go_wp2
          go_ret2
          exact ⟨ret_int_bool (by simp [unsZ, HB.out]) HB.out.symm, rfl⟩
theorem unsignedR_any (v n : Int) (w : World) (hv : v ≤ 9223372036854775807) :
    Calls Try.prog 12 #[.int .i64 v, .int .i64 n] w fun e w' => e = .returned (.tuple #[.int .u64 (unsZ v n), .bool (unsB v n)]) ∧ w' = w := by
  by_cases h1 : n < 0
  · have HB : Hid (unsB v n = false) := @unsB_no v n (by omega)
    go_enter Try.func12, Try.ntmps12
    go_wp2
    go_ret2
    exact ⟨ret_int_bool (by simp [unsZ, HB.out]) HB.out.symm, rfl⟩
  · by_cases h2 : 63 < n
    · have HB : Hid (unsB v n = false) := @unsB_no v n (by omega)
      go_enter Try.func12, Try.ntmps12
      go_wp2
      go_ret2
      exact ⟨ret_int_bool (by simp [unsZ, HB.out]) HB.out.symm, rfl⟩
    · by_cases h3 : v < 0
      · have HB : Hid (unsB v n = false) := @unsB_no v n (by omega)
        go_enter Try.func12, Try.ntmps12
        go_wp2
        go_ret2
        exact ⟨ret_int_bool (by simp [unsZ, HB.out]) HB.out.symm, rfl⟩
      · by_cases h4 : v / 2 ^ n.toNat = 0
        · have HB : Hid (unsB v n = true) := @unsB_yes v n ⟨by omega, by omega, by omega, h4⟩
          have h5 : (v / 2 ^ n.toNat == 0) = true := by simp [h4]
          clear h4
          go_enter Try.func12, Try.ntmps12
          go_wp2
          go_ret2
          exact ⟨ret_int_bool (by simp [unsZ, HB.out]) HB.out.symm, rfl⟩
        · have HB : Hid (unsB v n = false) := @unsB_no v n (by simp [h4])
          have h5 : (v / 2 ^ n.toNat == 0) = false := by simp [h4]
          clear h4
          go_enter Try.func12, Try.ntmps12
          go_wp2
          go_ret2
          exact ⟨ret_int_bool (by simp [unsZ, HB.out]) HB.out.symm, rfl⟩

theorem low_any (v n : Int) (w : World) :
    Calls Try.prog 15 #[.int .u64 v, .int .i64 n] w fun e w' => e = .returned (.int .u64 (lowZ v n)) ∧ w' = w := by
  by_cases h1 : n < 1
  · go_enter Try.func15, Try.ntmps15
    go_wp2
    go_ret
    exact ⟨ret_int (by simp [lowZ, h1]), rfl⟩
  · by_cases h2 : 64 ≤ n
    · go_enter Try.func15, Try.ntmps15
      go_wp2
      go_ret
      exact ⟨ret_int (by unfold lowZ; rw [if_neg (by omega), if_pos h2]), rfl⟩
    · go_enter Try.func15, Try.ntmps15
      go_wp2
      go_ret
      exact ⟨ret_int (by unfold lowZ; rw [if_neg (by omega), if_neg (by omega), IntKind.wrap_u64, low_shift v n (by omega) (by omega)]), rfl⟩

theorem and_low (v n : Int) (h0 : 0 ≤ v) (h1 : v < 18446744073709551616) (hn : 1 ≤ n) (hn' : n < 64) :
    bits .and .u64 v (IntKind.u64.wrap (IntKind.u64.wrap (2 ^ n.toNat) - 1)) = v % 2 ^ n.toNat := by
  have hp := two_pow_pos n.toNat
  have hl : (2 : Int) ^ n.toNat < 18446744073709551616 := by
    have h64 : (2 : Nat) ^ n.toNat < 2 ^ 64 := Nat.pow_lt_pow_right (by decide) (by omega)
    have e64 : (18446744073709551616 : Int) = ((2 ^ 64 : Nat) : Int) := by decide
    rw [e64]; exact_mod_cast h64
  have e : IntKind.u64.wrap (IntKind.u64.wrap (2 ^ n.toNat) - 1) = 2 ^ n.toNat - 1 := by
    rw [IntKind.wrap_u64, IntKind.wrap_u64]
    generalize (2 : Int) ^ n.toNat = t at *
    omega
  rw [e]
  exact bits_mask .u64 64 (by decide) (fun n a b => by rw [IntKind.wrap_u64]; omega) n.toNat (by omega) v h0 (by omega)

theorem lowR_any (v n : Int) (w : World) (hv : 0 ≤ v) (hv' : v < 18446744073709551616) :
    Calls Try.prog 16 #[.int .u64 v, .int .i64 n] w fun e w' => e = .returned (.int .u64 (lowZ v n)) ∧ w' = w := by
  by_cases h1 : n < 1
  · go_enter Try.func16, Try.ntmps16
    go_wp2
    go_ret
    exact ⟨ret_int (by simp [lowZ, h1]), rfl⟩
  · by_cases h2 : 64 ≤ n
    · have h3 : 63 < n := by omega
      go_enter Try.func16, Try.ntmps16
      go_wp2
      go_ret
      exact ⟨ret_int (by unfold lowZ; rw [if_neg (by omega), if_pos h2]), rfl⟩
    · have h3 : ¬ 63 < n := by omega
      go_enter Try.func16, Try.ntmps16
      go_wp2
      go_ret
      exact ⟨ret_int (by unfold lowZ; rw [if_neg (by omega), if_neg (by omega), and_low v n hv hv' (by omega) (by omega)]), rfl⟩

theorem and31_u32 (x : Int) (h0 : 0 ≤ x) (h1 : x < 4294967296) : bits .and .u32 x 31 = x % 32 :=
  bits_mask .u32 32 (by decide) (fun n a b => by rw [IntKind.wrap_u32]; omega) 5 (by decide) x h0 (by omega)
theorem and31_u64 (x : Int) (h0 : 0 ≤ x) (h1 : x < 18446744073709551616) : bits .and .u64 x 31 = x % 32 :=
  bits_mask .u64 64 (by decide) (fun n a b => by rw [IntKind.wrap_u64]; omega) 5 (by decide) x h0 (by omega)
theorem or_rot (v n : Int) (h0 : 0 ≤ v) (h1 : v < 4294967296) : bits .or .u32 (v * 2 ^ (n % 32).toNat % 4294967296) (v / 2 ^ (32 - n % 32).toNat) = rotZ v n := by
  obtain ⟨a, b, c, d, e⟩ := rotZ_bd v n h0 h1
  have f : v * 2 ^ (n % 32).toNat % 4294967296 < 4294967296 := Int.emod_lt_of_pos _ (by decide)
  have g : (2 : Int) ^ (n % 32).toNat ≤ 2 ^ 32 := by
    have : (2 : Nat) ^ (n % 32).toNat ≤ 2 ^ 32 := Nat.pow_le_pow_right (by decide) (by omega)
    exact_mod_cast this
  exact bits_join .u32 32 (by decide) (fun n a b => by rw [IntKind.wrap_u32]; omega) (n % 32).toNat _ _ (Int.emod_nonneg _ (by decide)) c (by omega) e d (by omega)

theorem rotate_any (v n : Int) (w : World) (hv : 0 ≤ v) (hv' : v < 4294967296) :
    Calls Try.prog 17 #[.int .u32 v, .int .i64 n] w fun e w' => e = .returned (.int .u32 (rotZ v n)) ∧ w' = w := by
  have e1 : bits .and .u32 (n % 4294967296) 31 = n % 32 := by rw [and31_u32 _ (by omega) (by omega)]; omega
  go_enter Try.func17, Try.ntmps17
  go_wp2
  go_ret
  exact ⟨ret_int (or_rot v n hv hv'), rfl⟩
theorem rotateR_any (v n : Int) (w : World) (hv : 0 ≤ v) (hv' : v < 4294967296) :
    Calls Try.prog 18 #[.int .u32 v, .int .i64 n] w fun e w' => e = .returned (.int .u32 (rotZ v n)) ∧ w' = w := by
  have e1 : bits .and .u64 (IntKind.u64.wrap n) 31 = n % 32 := by rw [IntKind.wrap_u64, and31_u64 _ (by omega) (by omega)]; omega
  go_enter Try.func18, Try.ntmps18
  go_wp2
  go_ret
  exact ⟨ret_int (or_rot v n hv hv'), rfl⟩
end Go.Proofs.Ytlgphfchjcpimaa
