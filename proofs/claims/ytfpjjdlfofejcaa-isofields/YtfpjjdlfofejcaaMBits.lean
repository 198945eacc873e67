/- Bitmaps as lists of bytes: which byte a set of numbers makes, and which numbers bytes hold. No function is walked. -/
import Derived.Test.YtfpjjdlfofejcaaBase
namespace Go.Proofs.Ytfpjjdlfofejcaa.Map
open Go.ChangeShapes Go.WideShapes Go.ChangeAt Go.RowKit

def b01 (b : Bool) : Int := if b then 1 else 0
theorem b01_or (b : Bool) : (b = true ∧ b01 b = 1) ∨ (b = false ∧ b01 b = 0) := by cases b <;> simp [b01]
theorem b01_range (b : Bool) : 0 ≤ b01 b ∧ b01 b ≤ 1 := by cases b <;> simp [b01]
/-- Byte j of the bitmap of the numbers P (they count from 1). -/
def byteP (P : Nat → Bool) (j : Nat) : Int :=
  128 * b01 (P (8 * j + 1)) + 64 * b01 (P (8 * j + 2)) + 32 * b01 (P (8 * j + 3)) + 16 * b01 (P (8 * j + 4)) + 8 * b01 (P (8 * j + 5)) + 4 * b01 (P (8 * j + 6)) + 2 * b01 (P (8 * j + 7)) + b01 (P (8 * j + 8))
theorem byteP_range (P : Nat → Bool) (j : Nat) : 0 ≤ byteP P j ∧ byteP P j < 256 := by
  have h1 := b01_range (P (8 * j + 1))
  have h2 := b01_range (P (8 * j + 2))
  have h3 := b01_range (P (8 * j + 3))
  have h4 := b01_range (P (8 * j + 4))
  have h5 := b01_range (P (8 * j + 5))
  have h6 := b01_range (P (8 * j + 6))
  have h7 := b01_range (P (8 * j + 7))
  have h8 := b01_range (P (8 * j + 8))
  unfold byteP; omega
theorem byteP_bit (P : Nat → Bool) (j r : Nat) (h : r < 8) : byteP P j / 2 ^ (7 - r) % 2 = b01 (P (8 * j + r + 1)) := by
  have h1 := b01_range (P (8 * j + 1))
  have h2 := b01_range (P (8 * j + 2))
  have h3 := b01_range (P (8 * j + 3))
  have h4 := b01_range (P (8 * j + 4))
  have h5 := b01_range (P (8 * j + 5))
  have h6 := b01_range (P (8 * j + 6))
  have h7 := b01_range (P (8 * j + 7))
  have h8 := b01_range (P (8 * j + 8))
  have hr : r = 0 ∨ r = 1 ∨ r = 2 ∨ r = 3 ∨ r = 4 ∨ r = 5 ∨ r = 6 ∨ r = 7 := by omega
  unfold byteP
  rcases hr with rfl | rfl | rfl | rfl | rfl | rfl | rfl | rfl
  · rw [show 8 * j + 0 + 1 = 8 * j + 1 from rfl, show (2 : Int) ^ (7 - 0) = 128 by decide]; omega
  · rw [show 8 * j + 1 + 1 = 8 * j + 2 from rfl, show (2 : Int) ^ (7 - 1) = 64 by decide]; omega
  · rw [show 8 * j + 2 + 1 = 8 * j + 3 from rfl, show (2 : Int) ^ (7 - 2) = 32 by decide]; omega
  · rw [show 8 * j + 3 + 1 = 8 * j + 4 from rfl, show (2 : Int) ^ (7 - 3) = 16 by decide]; omega
  · rw [show 8 * j + 4 + 1 = 8 * j + 5 from rfl, show (2 : Int) ^ (7 - 4) = 8 by decide]; omega
  · rw [show 8 * j + 5 + 1 = 8 * j + 6 from rfl, show (2 : Int) ^ (7 - 5) = 4 by decide]; omega
  · rw [show 8 * j + 6 + 1 = 8 * j + 7 from rfl, show (2 : Int) ^ (7 - 6) = 2 by decide]; omega
  · rw [show 8 * j + 7 + 1 = 8 * j + 8 from rfl, show (2 : Int) ^ (7 - 7) = 1 by decide]; omega
theorem byteP_congr {P Q : Nat → Bool} {j : Nat} (h : ∀ r, r < 8 → P (8 * j + r + 1) = Q (8 * j + r + 1)) : byteP P j = byteP Q j := by
  have h1 := h 0 (by omega)
  have h2 := h 1 (by omega)
  have h3 := h 2 (by omega)
  have h4 := h 3 (by omega)
  have h5 := h 4 (by omega)
  have h6 := h 5 (by omega)
  have h7 := h 6 (by omega)
  have h8 := h 7 (by omega)
  simp only [Nat.add_zero, Nat.add_assoc, Nat.reduceAdd] at *
  unfold byteP
  rw [h1, h2, h3, h4, h5, h6, h7, h8]
/-- P, and x. -/
def ins (x : Nat) (P : Nat → Bool) : Nat → Bool := fun y => decide (y = x) || P y
theorem ins_same (x : Nat) (P : Nat → Bool) : ins x P x = true := by simp [ins]
theorem ins_ne {x y : Nat} (P : Nat → Bool) (h : y ≠ x) : ins x P y = P y := by simp [ins, h]
theorem byteP_ins (P : Nat → Bool) (j r : Nat) (h : r < 8) : byteP (ins (8 * j + r + 1) P) j = if byteP P j / 2 ^ (7 - r) % 2 = 1 then byteP P j else byteP P j + 2 ^ (7 - r) := by
  rw [byteP_bit P j r h]
  have hr : r = 0 ∨ r = 1 ∨ r = 2 ∨ r = 3 ∨ r = 4 ∨ r = 5 ∨ r = 6 ∨ r = 7 := by omega
  have ht : b01 true = 1 := rfl
  rcases hr with rfl | rfl | rfl | rfl | rfl | rfl | rfl | rfl
  · have hb := b01_or (P (8 * j + 0 + 1))
    simp only [byteP, Nat.add_zero] at *
    rw [ins_same, ins_ne P (y := 8 * j + 2) (by omega), ins_ne P (y := 8 * j + 3) (by omega), ins_ne P (y := 8 * j + 4) (by omega), ins_ne P (y := 8 * j + 5) (by omega), ins_ne P (y := 8 * j + 6) (by omega), ins_ne P (y := 8 * j + 7) (by omega), ins_ne P (y := 8 * j + 8) (by omega), ht, show (2 : Int) ^ (7 - 0) = 128 by decide]
    split <;> omega
  · have hb := b01_or (P (8 * j + 1 + 1))
    simp only [byteP, Nat.add_assoc, Nat.reduceAdd] at *
    rw [ins_same, ins_ne P (y := 8 * j + 1) (by omega), ins_ne P (y := 8 * j + 3) (by omega), ins_ne P (y := 8 * j + 4) (by omega), ins_ne P (y := 8 * j + 5) (by omega), ins_ne P (y := 8 * j + 6) (by omega), ins_ne P (y := 8 * j + 7) (by omega), ins_ne P (y := 8 * j + 8) (by omega), ht, show (2 : Int) ^ (7 - 1) = 64 by decide]
    split <;> omega
  · have hb := b01_or (P (8 * j + 2 + 1))
    simp only [byteP, Nat.add_assoc, Nat.reduceAdd] at *
    rw [ins_same, ins_ne P (y := 8 * j + 1) (by omega), ins_ne P (y := 8 * j + 2) (by omega), ins_ne P (y := 8 * j + 4) (by omega), ins_ne P (y := 8 * j + 5) (by omega), ins_ne P (y := 8 * j + 6) (by omega), ins_ne P (y := 8 * j + 7) (by omega), ins_ne P (y := 8 * j + 8) (by omega), ht, show (2 : Int) ^ (7 - 2) = 32 by decide]
    split <;> omega
  · have hb := b01_or (P (8 * j + 3 + 1))
    simp only [byteP, Nat.add_assoc, Nat.reduceAdd] at *
    rw [ins_same, ins_ne P (y := 8 * j + 1) (by omega), ins_ne P (y := 8 * j + 2) (by omega), ins_ne P (y := 8 * j + 3) (by omega), ins_ne P (y := 8 * j + 5) (by omega), ins_ne P (y := 8 * j + 6) (by omega), ins_ne P (y := 8 * j + 7) (by omega), ins_ne P (y := 8 * j + 8) (by omega), ht, show (2 : Int) ^ (7 - 3) = 16 by decide]
    split <;> omega
  · have hb := b01_or (P (8 * j + 4 + 1))
    simp only [byteP, Nat.add_assoc, Nat.reduceAdd] at *
    rw [ins_same, ins_ne P (y := 8 * j + 1) (by omega), ins_ne P (y := 8 * j + 2) (by omega), ins_ne P (y := 8 * j + 3) (by omega), ins_ne P (y := 8 * j + 4) (by omega), ins_ne P (y := 8 * j + 6) (by omega), ins_ne P (y := 8 * j + 7) (by omega), ins_ne P (y := 8 * j + 8) (by omega), ht, show (2 : Int) ^ (7 - 4) = 8 by decide]
    split <;> omega
  · have hb := b01_or (P (8 * j + 5 + 1))
    simp only [byteP, Nat.add_assoc, Nat.reduceAdd] at *
    rw [ins_same, ins_ne P (y := 8 * j + 1) (by omega), ins_ne P (y := 8 * j + 2) (by omega), ins_ne P (y := 8 * j + 3) (by omega), ins_ne P (y := 8 * j + 4) (by omega), ins_ne P (y := 8 * j + 5) (by omega), ins_ne P (y := 8 * j + 7) (by omega), ins_ne P (y := 8 * j + 8) (by omega), ht, show (2 : Int) ^ (7 - 5) = 4 by decide]
    split <;> omega
  · have hb := b01_or (P (8 * j + 6 + 1))
    simp only [byteP, Nat.add_assoc, Nat.reduceAdd] at *
    rw [ins_same, ins_ne P (y := 8 * j + 1) (by omega), ins_ne P (y := 8 * j + 2) (by omega), ins_ne P (y := 8 * j + 3) (by omega), ins_ne P (y := 8 * j + 4) (by omega), ins_ne P (y := 8 * j + 5) (by omega), ins_ne P (y := 8 * j + 6) (by omega), ins_ne P (y := 8 * j + 8) (by omega), ht, show (2 : Int) ^ (7 - 6) = 2 by decide]
    split <;> omega
  · have hb := b01_or (P (8 * j + 7 + 1))
    simp only [byteP, Nat.add_assoc, Nat.reduceAdd] at *
    rw [ins_same, ins_ne P (y := 8 * j + 1) (by omega), ins_ne P (y := 8 * j + 2) (by omega), ins_ne P (y := 8 * j + 3) (by omega), ins_ne P (y := 8 * j + 4) (by omega), ins_ne P (y := 8 * j + 5) (by omega), ins_ne P (y := 8 * j + 6) (by omega), ins_ne P (y := 8 * j + 7) (by omega), ht, show (2 : Int) ^ (7 - 7) = 1 by decide]
    split <;> omega
theorem or_nat : ∀ a, a < 256 → ∀ k, k < 8 → a ||| 2 ^ k = if a / 2 ^ k % 2 = 1 then a else a + 2 ^ k := by decide +kernel
theorem or_bit (a : Int) (k : Nat) (h0 : 0 ≤ a) (h1 : a < 256) (hk : k < 8) : bits .or .u8 a (2 ^ k) = if a / 2 ^ k % 2 = 1 then a else a + 2 ^ k := by
  obtain ⟨n, rfl⟩ : ∃ n : Nat, a = n := ⟨a.toNat, by omega⟩
  have h2 : (2 : Nat) ^ k < 2 ^ 8 := Nat.pow_lt_pow_right (by decide) hk
  have h3 := (bits_nat .u8 8 (by decide) wraps_u8 n (2 ^ k) (by omega) h2)
  have h4 := or_nat n (by omega) k hk
  have h5 : ((2 ^ k : Nat) : Int) = 2 ^ k := by rw [Int.natCast_pow]; rfl
  rw [h5] at h3
  rw [h3.2, h4]
  by_cases h : n / 2 ^ k % 2 = 1
  · rw [if_pos h, if_pos (by exact_mod_cast h)]
  · rw [if_neg h, if_neg (by exact_mod_cast h), Int.natCast_add, h5]
def bm (P : Nat → Bool) (m : Nat) : List Int := (List.range m).map (byteP P)
theorem bm_len (P : Nat → Bool) (m : Nat) : (bm P m).length = m := by simp [bm]
theorem bm_byt (P : Nat → Bool) (m : Nat) : Byt (bm P m) := by
  intro x hx; simp [bm] at hx; obtain ⟨j, _, rfl⟩ := hx; exact byteP_range P j
theorem bm_getD (P : Nat → Bool) {m j : Nat} (h : j < m) : (bm P m).getD j 0 = byteP P j := by simp [bm, h]
theorem bm_congr {P Q : Nat → Bool} {m : Nat} (h : ∀ x, 1 ≤ x → x ≤ 8 * m → P x = Q x) : bm P m = bm Q m := by
  unfold bm
  refine List.map_congr_left fun j hj => byteP_congr fun r hr => h _ (by omega) ?_
  have := List.mem_range.1 hj; omega
theorem bm_take (P : Nat → Bool) {m k : Nat} (h : k ≤ m) : (bm P m).take k = bm P k := by
  unfold bm; rw [← List.map_take, List.take_range, Nat.min_eq_left h]
theorem bm_cell (P : Nat → Bool) {m j : Nat} (h : j < m) : (cellsOf (bm P m))[j]? = some (.int .u8 (byteP P j)) := by simp [cellsOf, bm, h]
theorem byteP_insNe {P : Nat → Bool} {x j : Nat} (hx : 1 ≤ x) (h : ¬ (x - 1) / 8 = j) : byteP (ins x P) j = byteP P j :=
  byteP_congr fun r hr => ins_ne P (by omega)
theorem bm_set (P : Nat → Bool) (m x : Nat) (hx : 1 ≤ x) : (cellsOf (bm P m)).setIfInBounds ((x - 1) / 8) (.int .u8 (byteP (ins x P) ((x - 1) / 8))) = cellsOf (bm (ins x P) m) := by
  apply Array.ext_getElem?
  intro j
  rw [Array.getElem?_setIfInBounds]
  by_cases hj : j < m
  · by_cases e : (x - 1) / 8 = j
    · rw [if_pos e, if_pos (by rw [cells_size, bm_len]; omega), bm_cell _ hj, e]
    · rw [if_neg e, bm_cell _ hj, bm_cell _ hj, byteP_insNe hx e]
  · rw [Array.getElem?_eq_none (xs := cellsOf (bm (ins x P) m)) (by rw [cells_size, bm_len]; omega), Array.getElem?_eq_none (xs := cellsOf (bm P m)) (by rw [cells_size, bm_len]; omega)]
    split
    · rw [if_neg (by rw [cells_size, bm_len]; omega)]
    · rfl
end Go.Proofs.Ytfpjjdlfofejcaa.Map
