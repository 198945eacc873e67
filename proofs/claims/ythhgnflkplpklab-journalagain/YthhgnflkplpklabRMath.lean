/- Plain mathematics, no program in sight: numbers and rows of bytes, the sum CRC-32C, records and their bytes, there and back. -/
import Derived.WalkKit
import Derived.Laws.BytesArg
import Derived.Laws.BitsLemmas
import Derived.Laws.Bits64
import Derived.Deep.OwnRows
namespace Go.Proofs.Ythhgnflkplpklab.Frm
open Go.RowKit

theorem two_pow_pos (n : Nat) : (0 : Int) < 2 ^ n := by
  have := Nat.two_pow_pos n
  exact_mod_cast this

/-- The number of a row of bytes, the highest first. -/
def num (l : List Int) : Int := l.foldl (fun v x => v * 256 + x) 0

theorem num_snoc (l : List Int) (x : Int) : num (l ++ [x]) = num l * 256 + x := by simp [num]

/-- Each is a byte. -/
def Byt (l : List Int) : Prop := ∀ x ∈ l, 0 ≤ x ∧ x < 256

theorem fold_bd (m : List Int) (h : Byt m) (v : Int) : v * 2 ^ (8 * m.length) ≤ m.foldl (fun v x => v * 256 + x) v ∧ m.foldl (fun v x => v * 256 + x) v < (v + 1) * 2 ^ (8 * m.length) := by
  induction m generalizing v with
  | nil => simp; omega
  | cons x m ih =>
    have h1 := ih (fun y hy => h y (by simp [hy])) (v * 256 + x)
    have h2 := h x (by simp)
    have e : 8 * (x :: m).length = 8 + 8 * m.length := by simp; omega
    rw [e, Int.pow_add, show (2 : Int) ^ 8 = 256 from rfl, List.foldl_cons]
    have hp := two_pow_pos (8 * m.length)
    generalize (2 : Int) ^ (8 * m.length) = t at *
    have a1 : v * (256 * t) ≤ (v * 256 + x) * t := by
      rw [← Int.mul_assoc]; exact Int.mul_le_mul_of_nonneg_right (by omega) (by omega)
    have a2 : (v * 256 + x + 1) * t ≤ (v + 1) * (256 * t) := by
      rw [← Int.mul_assoc]; exact Int.mul_le_mul_of_nonneg_right (by omega) (by omega)
    exact ⟨Int.le_trans a1 h1.1, Int.lt_of_lt_of_le h1.2 a2⟩

theorem num_bd (l : List Int) (h : Byt l) : 0 ≤ num l ∧ num l < 2 ^ (8 * l.length) := by
  have := fold_bd l h 0
  simp only [Int.zero_mul, Int.zero_add, Int.one_mul] at this
  exact this

/-- Behind one byte more, whatever follows, the number is at least 256 times as great. -/
theorem num_more (l : List Int) (x : Int) (m : List Int) (hl : Byt l) (hx : 0 ≤ x) (h : Byt m) : num l * 256 ≤ num (l ++ x :: m) := by
  have e : num (l ++ x :: m) = m.foldl (fun v x => v * 256 + x) (num l * 256 + x) := by simp [num]
  have hb := fold_bd m h (num l * 256 + x)
  have h0 := num_bd l hl
  rw [e]
  have hp := two_pow_pos (8 * m.length)
  generalize (2 : Int) ^ (8 * m.length) = t at *
  have : (num l * 256 + x) * 1 ≤ (num l * 256 + x) * t := Int.mul_le_mul_of_nonneg_left (by omega) (by omega)
  omega

/-- The lowest m bytes of v, the highest first. -/
def bytesL (v : Int) : Nat → List Int
  | 0 => []
  | m + 1 => bytesL (v / 256) m ++ [v % 256]

theorem bytesL_length (v : Int) (m : Nat) : (bytesL v m).length = m := by
  induction m generalizing v with
  | zero => rfl
  | succ m ih => simp [bytesL, ih]

theorem bytesL_byt (v : Int) (m : Nat) : Byt (bytesL v m) := by
  induction m generalizing v with
  | zero => intro x hx; simp [bytesL] at hx
  | succ m ih =>
    intro x hx
    simp [bytesL] at hx
    rcases hx with hx | hx
    · exact ih _ x hx
    · subst hx; omega

theorem num_bytesL (v : Int) (m : Nat) : num (bytesL v m) = v % 2 ^ (8 * m) := by
  induction m generalizing v with
  | zero => simp [bytesL, num]
  | succ m ih =>
    rw [bytesL, num_snoc, ih, show 8 * (m + 1) = 8 + 8 * m by omega, Int.pow_add, show (2 : Int) ^ 8 = 256 from rfl]
    have hp := two_pow_pos (8 * m)
    generalize (2 : Int) ^ (8 * m) = t at *
    have e1 := Int.mul_ediv_add_emod v 256
    have e2 := Int.mul_ediv_add_emod (v / 256) t
    have e3 := Int.mul_ediv_add_emod v (256 * t)
    rw [← Int.ediv_ediv_of_nonneg (show (0 : Int) ≤ 256 by decide)] at e3
    rw [Int.mul_assoc] at e3
    generalize v / 256 / t = q at *
    generalize t * q = r at *
    omega
def numB (zs : List Int) : Bool := decide (num zs < 18446744073709551616)
def numZ (zs : List Int) : Int := if numB zs = true then num zs else 0

theorem or8 (v x : Int) (h0 : 0 ≤ v) (h1 : v < 72057594037927936) (hx : 0 ≤ x) (hx' : x < 256) :
    bits .or .u64 (v * 256) x = v * 256 + x :=
  bits_join .u64 64 (by decide) (fun n a b => by rw [IntKind.wrap_u64]; omega) 8 _ _ (by omega) (by omega) (by omega) hx (by omega) (by omega)

theorem take_snocI (zs : List Int) (k : Nat) (h : k < zs.length) : zs.take (k + 1) = zs.take k ++ [zs.getD k 0] := by
  rw [List.take_succ_eq_append_getElem h]; simp [h]

theorem byt_take {zs : List Int} (h : Byt zs) (k : Nat) : Byt (zs.take k) := fun x hx => h x (List.mem_of_mem_take hx)
theorem byt_drop {zs : List Int} (h : Byt zs) (k : Nat) : Byt (zs.drop k) := fun x hx => h x (List.mem_of_mem_drop hx)
theorem byt_getD {zs : List Int} (h : Byt zs) (k : Nat) : 0 ≤ zs.getD k 0 ∧ zs.getD k 0 < 256 := by
  by_cases hk : k < zs.length
  · have : zs.getD k 0 = zs[k] := by simp [hk]
    rw [this]; exact h _ (List.getElem_mem hk)
  · simp [hk]

/-- A number that is too great already only grows. -/
theorem num_over {zs : List Int} (h : Byt zs) (k : Nat) (hk : k < zs.length) (ho : 72057594037927936 ≤ num (zs.take k)) : numB zs = false := by
  have e : zs = zs.take k ++ zs.getD k 0 :: zs.drop (k + 1) := by
    have h1 := List.take_append_drop (k + 1) zs
    rw [take_snocI zs k hk] at h1
    simpa using h1.symm
  have := num_more (zs.take k) (zs.getD k 0) (zs.drop (k + 1)) (byt_take h k) (byt_getD h k).1 (byt_drop h _)
  rw [← e] at this
  unfold numB
  simp; omega

/-- m bytes of which the last k are written. -/
def fillL (v : Int) (m k : Nat) : List Int := List.replicate (m - k) 0 ++ bytesL v k
def cellsOf (l : List Int) : Array Value := (l.map (Value.int .u8)).toArray

theorem bytesL_more (v : Int) (k : Nat) : bytesL v (k + 1) = v / 256 ^ k % 256 :: bytesL v k := by
  induction k generalizing v with
  | zero => simp [bytesL]
  | succ k ih =>
    rw [bytesL, ih (v / 256), bytesL, List.cons_append, Int.ediv_ediv_of_nonneg (by decide), Int.pow_succ, Int.mul_comm]

theorem fill_store (v : Int) (m k : Nat) (h : k < m) : (cellsOf (fillL v m k)).setIfInBounds (m - 1 - k) (.int .u8 (v / 256 ^ k % 256)) = cellsOf (fillL v m (k + 1)) := by
  unfold cellsOf fillL
  rw [bytesL_more]
  have e : m - k = (m - 1 - k) + 1 := by omega
  have e' : m - (k + 1) = m - 1 - k := by omega
  rw [e, e', List.replicate_succ', List.append_assoc]
  simp

theorem fill_none (v : Int) (m : Nat) : cellsOf (fillL v m 0) = madeCells #[Value.int .u8 0] m := by
  apply Array.toList_inj.1
  rw [toList_madeCells_one]
  simp [cellsOf, fillL, bytesL]

theorem fill_all (v : Int) (m : Nat) : fillL v m m = bytesL v m := by simp [fillL]

theorem cells_size (l : List Int) : (cellsOf l).size = l.length := by simp [cellsOf]
theorem fill_length (v : Int) (m k : Nat) (h : k ≤ m) : (fillL v m k).length = m := by simp [fillL, bytesL_length]; omega

theorem shr8 (v : Int) (k : Nat) : v / 256 ^ k / 256 = v / 256 ^ (k + 1) := by
  rw [Int.ediv_ediv_of_nonneg (Int.pow_nonneg (by decide)), Int.pow_succ]

theorem bytesL_zeros (v : Int) (m : Nat) (h : v = 0) : bytesL v m = List.replicate m 0 := by
  subst h
  induction m with
  | zero => rfl
  | succ m ih => rw [bytesL, List.replicate_succ']; simp [ih]

theorem bytesL_long (v : Int) (m j : Nat) (hv : 0 ≤ v) (h : v < 256 ^ j) : bytesL v (m + j) = List.replicate m 0 ++ bytesL v j := by
  induction j generalizing v with
  | zero =>
    have : v = 0 := by simp at h; omega
    rw [bytesL_zeros v _ this]; simp [bytesL]
  | succ j ih =>
    have h' : v / 256 < 256 ^ j := by
      apply Int.ediv_lt_of_lt_mul (by decide); rw [← Int.pow_succ]; exact h
    rw [← Nat.add_assoc, bytesL, ih (v / 256) (by omega) h', bytesL, List.append_assoc]

theorem fill_eight (v : Int) (m k : Nat) (hv : 0 ≤ v) (hv' : v < 18446744073709551616) (hk : k ≤ m) (h : k = m ∨ 8 ≤ k) : fillL v m k = bytesL v m := by
  rcases h with h | h
  · subst h; exact fill_all v k
  · obtain ⟨j, rfl⟩ : ∃ j, m = j + k := ⟨m - k, by omega⟩
    have hp : (18446744073709551616 : Int) ≤ 256 ^ k := by
      have e8 : (256 : Int) ^ k = 18446744073709551616 * 256 ^ (k - 8) := by
        rw [show (18446744073709551616 : Int) = 256 ^ 8 from rfl, ← Int.pow_add, show 8 + (k - 8) = k by omega]
      have hp := Int.pow_pos (n := 256) (m := k - 8) (by decide)
      rw [e8]; omega
    rw [bytesL_long v j k hv (by omega), fillL, show j + k - k = j by omega]

theorem shr_mul (v : Int) (k : Nat) : v / 2 ^ (8 * k) = v / 256 ^ k := by
  rw [Int.pow_mul]; rfl

end Go.Proofs.Ythhgnflkplpklab.Frm
