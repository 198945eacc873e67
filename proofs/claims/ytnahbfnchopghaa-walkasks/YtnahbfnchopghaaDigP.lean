/- Digits, the program's and the document's: by the same plain function. -/
import Derived.Test.YtnahbfnchopghaaNums
namespace Go.Proofs.Ytnahbfnchopghaa
open Go.ChangeShapes Go.WideShapes Go.ChangeAt Go.RowKit

/-- The lowest m digits of v, the highest first, as signs. -/
def decL (v : Int) : Nat → List Int
  | 0 => []
  | m + 1 => decL (v / 10) m ++ [48 + v % 10]
theorem decL_length (v : Int) (m : Nat) : (decL v m).length = m := by
  induction m generalizing v with
  | zero => rfl
  | succ m ih => simp [decL, ih]
theorem decL_bd (v : Int) (m : Nat) : ∀ x ∈ decL v m, 48 ≤ x ∧ x ≤ 57 := by
  induction m generalizing v with
  | zero => intro x hx; simp [decL] at hx
  | succ m ih =>
    intro x hx
    simp [decL] at hx
    rcases hx with hx | hx
    · exact ih _ x hx
    · subst hx; omega
theorem decL_byt (v : Int) (m : Nat) : Byt (decL v m) := fun x hx => by have := decL_bd v m x hx; omega
theorem decL_more (v : Int) (k : Nat) : decL v (k + 1) = (48 + v / 10 ^ k % 10) :: decL v k := by
  induction k generalizing v with
  | zero => simp [decL]
  | succ k ih =>
    rw [decL, ih (v / 10), decL, List.cons_append, Int.ediv_ediv_of_nonneg (by decide), Int.pow_succ, Int.mul_comm]
theorem div10 (v : Int) (k : Nat) : v / 10 ^ k / 10 = v / 10 ^ (k + 1) := by
  rw [Int.ediv_ediv_of_nonneg (Int.pow_nonneg (by decide)), Int.pow_succ]
/-- m bytes of which the last k are written. -/
def fillD (v : Int) (m k : Nat) : List Int := List.replicate (m - k) 0 ++ decL v k
theorem fillD_store (v : Int) (m k : Nat) (h : k < m) : (cellsOf (fillD v m k)).setIfInBounds (m - 1 - k) (.int .u8 (48 + v / 10 ^ k % 10)) = cellsOf (fillD v m (k + 1)) := by
  unfold cellsOf fillD
  rw [decL_more]
  have e : m - k = (m - 1 - k) + 1 := by omega
  have e' : m - (k + 1) = m - 1 - k := by omega
  rw [e, e', List.replicate_succ', List.append_assoc]
  simp
theorem fillD_none (v : Int) (m : Nat) : cellsOf (fillD v m 0) = madeCells #[Value.int .u8 0] m := by
  apply Array.toList_inj.1
  rw [toList_madeCells_one]
  simp [cellsOf, fillD, decL]
theorem fillD_all (v : Int) (m : Nat) : fillD v m m = decL v m := by simp [fillD]
theorem fillD_length (v : Int) (m k : Nat) (h : k ≤ m) : (fillD v m k).length = m := by simp [fillD, decL_length]; omega
theorem strN_app (a b : List Int) : strOfNums (a ++ b) = strOfNums a ++ strOfNums b := by
  apply ByteArray.ext
  simp [strOfNums]
theorem digit_cut (z : Int) (h0 : 0 ≤ z) (h1 : z < 10) : (ByteArray.mk #[48, 49, 50, 51, 52, 53, 54, 55, 56, 57]).extract z.toNat (z + 1).toNat = strOfNums [48 + z] := by
  have h : z = 0 ∨ z = 1 ∨ z = 2 ∨ z = 3 ∨ z = 4 ∨ z = 5 ∨ z = 6 ∨ z = 7 ∨ z = 8 ∨ z = 9 := by omega
  rcases h with rfl | rfl | rfl | rfl | rfl | rfl | rfl | rfl | rfl | rfl <;> decide
theorem ofNat_toNat (x : Int) (h0 : 0 ≤ x) (h1 : x < 256) : ((UInt8.ofNat x.toNat).toNat : Int) = x := by
  rw [UInt8.toNat_ofNat']; omega
theorem decL_dig (v : Int) (m : Nat) : digB (strOfNums (decL v m)).data.toList = true := by
  rw [strOfNums_data, digB, List.all_eq_true]
  intro c hc
  simp at hc
  obtain ⟨x, hx, rfl⟩ := hc
  have := decL_bd v m x hx
  rw [decide_eq_true_eq, ofNat_toNat x (by omega) (by omega)]
  exact this
theorem decL_num (v : Int) (m : Nat) : numD (strOfNums (decL v m)).data.toList = v % 10 ^ m := by
  rw [strOfNums_data]
  induction m generalizing v with
  | zero => simp [decL, numD]
  | succ m ih =>
    rw [decL, List.map_append, List.map_cons, List.map_nil, numD_snoc, ih, ofNat_toNat _ (by omega) (by omega), Int.pow_succ, Int.mul_comm (10 ^ m) 10]
    have hp : (0 : Int) < 10 ^ m := Int.pow_pos (by decide)
    generalize (10 : Int) ^ m = t at *
    have e1 := Int.mul_ediv_add_emod v 10
    have e2 := Int.mul_ediv_add_emod (v / 10) t
    have e3 := Int.mul_ediv_add_emod v (10 * t)
    rw [← Int.ediv_ediv_of_nonneg (show (0 : Int) ≤ 10 by decide)] at e3
    rw [Int.mul_assoc] at e3
    generalize v / 10 / t = q at *
    generalize t * q = r at *
    omega
def digOk (v n : Int) : Bool := decide (0 ≤ v) && decide (1 ≤ n) && decide (n ≤ 18) && decide (v < 10 ^ n.toNat)
def digS (v n : Int) : ByteArray := if digOk v n = true then strOfNums (decL v n.toNat) else ⟨#[]⟩
theorem digOk_no {v n : Int} (h : v < 0 ∨ n < 1 ∨ 18 < n) : digOk v n = false ∧ digS v n = ⟨#[]⟩ := by
  have h1 : digOk v n = false := by unfold digOk; rcases h with h | h | h <;> simp <;> omega
  exact ⟨h1, by unfold digS; rw [h1]; rfl⟩
theorem div_pow (v : Int) (k : Nat) (h : 0 ≤ v) : v / 10 ^ k = 0 ↔ v < 10 ^ k := by
  have hp : (0 : Int) < 10 ^ k := Int.pow_pos (by decide)
  constructor
  · intro e
    by_cases hl : v < 10 ^ k
    · exact hl
    · exfalso
      have : 1 ≤ v / 10 ^ k := by rw [Int.le_ediv_iff_mul_le hp]; omega
      omega
  · intro hl; exact Int.ediv_eq_zero_of_lt h hl
theorem digOk_big {v : Int} {m : Nat} (h : 0 ≤ v) (hn : ¬ v / 10 ^ m = 0) : digOk v m = false ∧ digS v m = ⟨#[]⟩ := by
  rw [div_pow v m h] at hn
  have h1 : digOk v m = false := by unfold digOk; rw [Int.toNat_natCast, decide_eq_false hn]; simp
  exact ⟨h1, by unfold digS; rw [h1]; rfl⟩
theorem digOk_yes {v : Int} {m : Nat} (h : 0 ≤ v) (h1 : 1 ≤ m) (h2 : m ≤ 18) (hn : v / 10 ^ m = 0) : digOk v m = true ∧ digS v m = strOfNums (decL v m) := by
  rw [div_pow v m h] at hn
  have h1 : digOk v m = true := by unfold digOk; rw [Int.toNat_natCast, decide_eq_true hn]; simp; omega
  exact ⟨h1, by unfold digS; rw [h1]; rfl⟩
/-- What Digits makes is read back. -/
theorem digS_back {v n : Int} (h : digOk v n = true) : numOk (digS v n) = true ∧ numV (digS v n) = v := by
  have e : digS v n = strOfNums (decL v n.toNat) := by unfold digS; rw [if_pos h]
  simp [digOk] at h
  obtain ⟨⟨⟨h0, h1⟩, h2⟩, h3⟩ := h
  have := numOk_yes (s := strOfNums (decL v n.toNat)) (by rw [strOfNums_size, decL_length]; omega) (by rw [strOfNums_size, decL_length]; omega) (decL_dig _ _)
  rw [e, this.1, this.2, decL_num]
  exact ⟨rfl, Int.emod_eq_of_lt h0 h3⟩
theorem ret_str_bool {a b : ByteArray} {c d : Bool} (h : a = b) (g : c = d) : Ending.returned (.tuple #[.string a, .bool c]) = .returned (.tuple #[.string b, .bool d]) := by rw [h, g]

end Go.Proofs.Ytnahbfnchopghaa
