/- Plain mathematics on integers and lists of bytes, no program in sight: what a width keeps of a number, turning, bytes of a number and back. -/
import Derived.WalkKit
namespace Go.Proofs.Ytlgphfchjcpimaa
open Go.RowKit

theorem two_pow_pos (n : Nat) : (0 : Int) < 2 ^ n := by
  have := Nat.two_pow_pos n
  exact_mod_cast this

theorem mul_emod_mul_right (a b : Int) {c : Int} (h : 0 < c) : a * c % (b * c) = a % b * c := by
  rw [Int.mul_comm a, Int.mul_comm b, Int.mul_emod_mul_of_pos _ _ h, Int.mul_comm]

theorem two_pow_add (a b : Nat) : (2 : Int) ^ (a + b) = 2 ^ a * 2 ^ b := by rw [Int.pow_add]

/-- The lowest n bits of v as a signed number. -/
def wrapZ (v n : Int) : Int :=
  if n < 1 then 0 else if 64 ≤ n then v else wrap64 (v * 2 ^ (64 - n).toNat) / 2 ^ (64 - n).toNat

theorem wrapZ_low (v n : Int) (h : n < 1) : wrapZ v n = 0 := by simp [wrapZ, h]
theorem wrapZ_high (v n : Int) (h : 64 ≤ n) : wrapZ v n = v := by
  unfold wrapZ; rw [if_neg (by omega), if_pos h]

/-- The signed number of m + 1 bits, by division. -/
theorem wrapZ_mid (v : Int) (m : Nat) (h : m < 63) : wrapZ v (m + 1) = (v + 2 ^ m) % (2 ^ (m + 1)) - 2 ^ m := by
  unfold wrapZ wrap64
  rw [if_neg (by omega), if_neg (by omega)]
  have e : ((64 : Int) - (m + 1)).toNat = 63 - m := by omega
  rw [e]
  have e63 : (9223372036854775808 : Int) = 2 ^ m * 2 ^ (63 - m) := by
    rw [← Int.pow_add, show m + (63 - m) = 63 by omega]; rfl
  have e64 : (18446744073709551616 : Int) = 2 ^ (m + 1) * 2 ^ (63 - m) := by
    rw [← Int.pow_add, show m + 1 + (63 - m) = 64 by omega]; rfl
  rw [e63, e64, ← Int.add_mul, mul_emod_mul_right _ _ (two_pow_pos _), ← Int.sub_mul]
  exact Int.mul_ediv_cancel _ (Int.ne_of_gt (two_pow_pos _))

theorem wrapZ_eq_iff (v : Int) (m : Nat) (h : m < 63) : wrapZ v (m + 1) = v ↔ -2 ^ m ≤ v ∧ v < 2 ^ m := by
  rw [wrapZ_mid v m h]
  have hp := two_pow_pos m
  have hs : (2 : Int) ^ (m + 1) = 2 ^ m * 2 := by rw [Int.pow_succ]
  rw [hs]
  generalize (2 : Int) ^ m = t at hp
  constructor
  · intro e
    have := Int.emod_nonneg (v + t) (show t * 2 ≠ 0 by omega)
    have := Int.emod_lt_of_pos (v + t) (show 0 < t * 2 by omega)
    omega
  · intro ⟨a, b⟩
    rw [Int.emod_eq_of_lt (by omega) (by omega)]; omega

theorem wrapZ_wf (v n : Int) (hv : -9223372036854775808 ≤ v ∧ v ≤ 9223372036854775807) : -9223372036854775808 ≤ wrapZ v n ∧ wrapZ v n ≤ 9223372036854775807 := by
  by_cases h1 : n < 1
  · rw [wrapZ_low v n h1]; omega
  · by_cases h2 : 64 ≤ n
    · rw [wrapZ_high v n h2]; exact hv
    · obtain ⟨m, rfl⟩ : ∃ m : Nat, n = m + 1 := ⟨(n - 1).toNat, by omega⟩
      have hm : m < 63 := by omega
      rw [wrapZ_mid v m hm]
      have hp := two_pow_pos m
      have hs : (2 : Int) ^ (m + 1) = 2 ^ m * 2 := by rw [Int.pow_succ]
      have hl : (2 : Int) ^ m ≤ 4611686018427387904 := by
        have h62 : (2 : Nat) ^ m ≤ 2 ^ 62 := Nat.pow_le_pow_right (by decide) (by omega)
        have e62 : (4611686018427387904 : Int) = ((2 ^ 62 : Nat) : Int) := by decide
        rw [e62]; exact_mod_cast h62
      rw [hs]
      generalize (2 : Int) ^ m = t at *
      have := Int.emod_nonneg (v + t) (show t * 2 ≠ 0 by omega)
      have := Int.emod_lt_of_pos (v + t) (show 0 < t * 2 by omega)
      omega

/-- v's lowest n bits. -/
def lowZ (v n : Int) : Int :=
  if n < 1 then 0 else if 64 ≤ n then v else v % 2 ^ n.toNat

theorem low_shift (v n : Int) (h1 : 1 ≤ n) (h2 : n < 64) : v * 2 ^ (64 - n).toNat % 18446744073709551616 / 2 ^ (64 - n).toNat = v % 2 ^ n.toNat := by
  have e64 : (18446744073709551616 : Int) = 2 ^ n.toNat * 2 ^ (64 - n).toNat := by
    rw [← Int.pow_add, show n.toNat + (64 - n).toNat = 64 by omega]; rfl
  rw [e64, mul_emod_mul_right _ _ (two_pow_pos _)]
  exact Int.mul_ediv_cancel _ (Int.ne_of_gt (two_pow_pos _))

/-- v turned to the left by n, 32 bits. -/
def rotZ (v n : Int) : Int := v * 2 ^ (n % 32).toNat % 4294967296 + v / 2 ^ (32 - n % 32).toNat

theorem rotZ_bd (v n : Int) (h0 : 0 ≤ v) (h1 : v < 4294967296) : 0 ≤ rotZ v n ∧ rotZ v n < 4294967296 ∧
    (v * 2 ^ (n % 32).toNat % 4294967296) % 2 ^ (n % 32).toNat = 0 ∧ v / 2 ^ (32 - n % 32).toNat < 2 ^ (n % 32).toNat ∧ 0 ≤ v / 2 ^ (32 - n % 32).toNat := by
  unfold rotZ
  generalize hk : (n % 32).toNat = k
  have hk32 : k ≤ 31 := by omega
  have e : (32 - n % 32).toNat = 32 - k := by omega
  rw [e]
  have ep : (4294967296 : Int) = 2 ^ (32 - k) * 2 ^ k := by
    rw [← Int.pow_add, show 32 - k + k = 32 by omega]; rfl
  have hp := two_pow_pos k
  have hq := two_pow_pos (32 - k)
  rw [ep, mul_emod_mul_right _ _ hp]
  have hb0 := Int.emod_nonneg v (show (2 : Int) ^ (32 - k) ≠ 0 by omega)
  have hb1 := Int.emod_lt_of_pos v hq
  have ha0 : 0 ≤ v / 2 ^ (32 - k) := Int.ediv_nonneg h0 (by omega)
  have ha1 : v / 2 ^ (32 - k) < 2 ^ k := by
    apply Int.ediv_lt_of_lt_mul hq
    rw [Int.mul_comm, ← ep]; exact h1
  generalize hA : v / 2 ^ (32 - k) = a at *
  generalize hB : v % 2 ^ (32 - k) = b at *
  generalize (2 : Int) ^ k = p at *
  generalize (2 : Int) ^ (32 - k) = q at *
  refine ⟨?_, ?_, Int.mul_emod_left _ _, ha1, ha0⟩
  · have := Int.mul_nonneg hb0 (Int.le_of_lt hp); omega
  · have h2 : b * p ≤ (q - 1) * p := Int.mul_le_mul_of_nonneg_right (by omega) (by omega)
    rw [Int.sub_mul] at h2; omega

theorem rotZ_back (v n m : Int) (h0 : 0 ≤ v) (h1 : v < 4294967296) (hm : m = 32 - n % 32) : rotZ (rotZ v n) m = v := by
  subst hm
  unfold rotZ
  by_cases hz : n % 32 = 0
  · rw [hz]; simp; omega
  · have em : ((32 : Int) - n % 32) % 32 = 32 - n % 32 := by omega
    rw [em]
    obtain ⟨k, hk⟩ : ∃ k : Nat, n % 32 = k := ⟨(n % 32).toNat, by omega⟩
    rw [hk]
    have e1 : ((k : Int)).toNat = k := by omega
    have e2 : (32 - (k : Int)).toNat = 32 - k := by omega
    have e3 : (32 - (32 - (k : Int))).toNat = k := by omega
    rw [e1, e2, e3]
    have ep : (4294967296 : Int) = 2 ^ (32 - k) * 2 ^ k := by
      rw [← Int.pow_add, show 32 - k + k = 32 by omega]; rfl
    have hp := two_pow_pos k
    have hq := two_pow_pos (32 - k)
    rw [ep, mul_emod_mul_right _ _ hp]
    have hdm := Int.mul_ediv_add_emod v (2 ^ (32 - k))
    have hb0 := Int.emod_nonneg v (show (2 : Int) ^ (32 - k) ≠ 0 by omega)
    have hb1 := Int.emod_lt_of_pos v hq
    have ha0 : 0 ≤ v / 2 ^ (32 - k) := Int.ediv_nonneg h0 (by omega)
    have ha1 : v / 2 ^ (32 - k) < 2 ^ k := by
      apply Int.ediv_lt_of_lt_mul hq
      rw [Int.mul_comm, ← ep]; exact h1
    generalize hA : v / 2 ^ (32 - k) = a at *
    generalize hB : v % 2 ^ (32 - k) = b at *
    generalize (2 : Int) ^ k = p at *
    generalize (2 : Int) ^ (32 - k) = q at *
    have x1 : (b * p + a) / p = b := by
      rw [Int.add_comm, Int.add_mul_ediv_right _ _ (by omega), Int.ediv_eq_zero_of_lt ha0 ha1]; omega
    have x2 : (b * p + a) * q % (q * p) = a * q := by
      rw [Int.mul_comm q p, mul_emod_mul_right _ _ hq, Int.add_comm, Int.add_mul_emod_self_right, Int.emod_eq_of_lt ha0 ha1]
    rw [x1, x2, Int.mul_comm]; omega

/-- The number of a row of bytes, the highest first. -/
def num (l : List Int) : Int := l.foldl (fun v x => v * 256 + x) 0

theorem num_snoc (l : List Int) (x : Int) : num (l ++ [x]) = num l * 256 + x := by simp [num]

/-- Each is a byte. -/
def Byt (l : List Int) : Prop := ∀ x ∈ l, 0 ≤ x ∧ x < 256

theorem fold_bd (m : List Int) (h : Byt m) (v : Int) : v * 2 ^ (8 * m.length) ≤ m.foldl (fun v x => v * 256 + x) v ∧ m.foldl (fun v x => v * 256 + x) v < (v + 1) * 2 ^ (8 * m.length) := by
  induction m generalizing v with
  | nil => simp; omega
  | cons x m ih =>
    have h1 := ih (fun y hy => h y (by simp [hy])) (v * 256 + x)
    have h2 := h x (by simp)
    have e : 8 * (x :: m).length = 8 + 8 * m.length := by simp; omega
    rw [e, Int.pow_add, show (2 : Int) ^ 8 = 256 from rfl, List.foldl_cons]
    have hp := two_pow_pos (8 * m.length)
    generalize (2 : Int) ^ (8 * m.length) = t at *
    have a1 : v * (256 * t) ≤ (v * 256 + x) * t := by
      rw [← Int.mul_assoc]; exact Int.mul_le_mul_of_nonneg_right (by omega) (by omega)
    have a2 : (v * 256 + x + 1) * t ≤ (v + 1) * (256 * t) := by
      rw [← Int.mul_assoc]; exact Int.mul_le_mul_of_nonneg_right (by omega) (by omega)
    exact ⟨Int.le_trans a1 h1.1, Int.lt_of_lt_of_le h1.2 a2⟩

theorem num_bd (l : List Int) (h : Byt l) : 0 ≤ num l ∧ num l < 2 ^ (8 * l.length) := by
  have := fold_bd l h 0
  simp only [Int.zero_mul, Int.zero_add, Int.one_mul] at this
  exact this

/-- Behind one byte more, whatever follows, the number is at least 256 times as great. -/
theorem num_more (l : List Int) (x : Int) (m : List Int) (hl : Byt l) (hx : 0 ≤ x) (h : Byt m) : num l * 256 ≤ num (l ++ x :: m) := by
  have e : num (l ++ x :: m) = m.foldl (fun v x => v * 256 + x) (num l * 256 + x) := by simp [num]
  have hb := fold_bd m h (num l * 256 + x)
  have h0 := num_bd l hl
  rw [e]
  have hp := two_pow_pos (8 * m.length)
  generalize (2 : Int) ^ (8 * m.length) = t at *
  have : (num l * 256 + x) * 1 ≤ (num l * 256 + x) * t := Int.mul_le_mul_of_nonneg_left (by omega) (by omega)
  omega

/-- The lowest m bytes of v, the highest first. -/
def bytesL (v : Int) : Nat → List Int
  | 0 => []
  | m + 1 => bytesL (v / 256) m ++ [v % 256]

theorem bytesL_length (v : Int) (m : Nat) : (bytesL v m).length = m := by
  induction m generalizing v with
  | zero => rfl
  | succ m ih => simp [bytesL, ih]

theorem bytesL_byt (v : Int) (m : Nat) : Byt (bytesL v m) := by
  induction m generalizing v with
  | zero => intro x hx; simp [bytesL] at hx
  | succ m ih =>
    intro x hx
    simp [bytesL] at hx
    rcases hx with hx | hx
    · exact ih _ x hx
    · subst hx; omega

theorem num_bytesL (v : Int) (m : Nat) : num (bytesL v m) = v % 2 ^ (8 * m) := by
  induction m generalizing v with
  | zero => simp [bytesL, num]
  | succ m ih =>
    rw [bytesL, num_snoc, ih, show 8 * (m + 1) = 8 + 8 * m by omega, Int.pow_add, show (2 : Int) ^ 8 = 256 from rfl]
    have hp := two_pow_pos (8 * m)
    generalize (2 : Int) ^ (8 * m) = t at *
    have e1 := Int.mul_ediv_add_emod v 256
    have e2 := Int.mul_ediv_add_emod (v / 256) t
    have e3 := Int.mul_ediv_add_emod v (256 * t)
    rw [← Int.ediv_ediv_of_nonneg (show (0 : Int) ≤ 256 by decide)] at e3
    rw [Int.mul_assoc] at e3
    generalize v / 256 / t = q at *
    generalize t * q = r at *
    omega
end Go.Proofs.Ytlgphfchjcpimaa
