/- Pack: two digits a byte. -/
import Derived.Test.YtnahbfnchopghaaPan
namespace Go.Proofs.Ytnahbfnchopghaa
open Go.ChangeShapes Go.WideShapes Go.ChangeAt Go.RowKit

/-- The j-th byte of which the first p halves are laid. -/
def bt (D : List Int) (p j : Nat) : Int := if 2 * j + 1 < p then D.getD (2 * j) 0 * 16 + D.getD (2 * j + 1) 0 else if 2 * j < p then D.getD (2 * j) 0 else 0
def stL (D : List Int) (m p : Nat) : List Int := (List.range m).map (bt D p)
theorem stL_length (D : List Int) (m p : Nat) : (stL D m p).length = m := by simp [stL]
theorem stL_get (D : List Int) (m p j : Nat) (h : j < m) : (stL D m p).getD j 0 = bt D p j := by simp [stL, h]
theorem bt_next (D : List Int) (p : Nat) : bt D p (p / 2) * 16 + D.getD p 0 = bt D (p + 1) (p / 2) := by
  rcases Nat.mod_two_eq_zero_or_one p with h | h
  · obtain ⟨j, rfl⟩ : ∃ j, p = 2 * j := ⟨p / 2, by omega⟩
    have e : 2 * j / 2 = j := by omega
    rw [e]; unfold bt
    rw [if_neg (by omega), if_neg (by omega), if_neg (by omega), if_pos (by omega)]; omega
  · obtain ⟨j, rfl⟩ : ∃ j, p = 2 * j + 1 := ⟨p / 2, by omega⟩
    have e : (2 * j + 1) / 2 = j := by omega
    rw [e]; unfold bt
    rw [if_neg (by omega), if_pos (by omega), if_pos (by omega)]
theorem bt_else (D : List Int) (p j : Nat) (h : ¬ j = p / 2) : bt D p j = bt D (p + 1) j := by
  unfold bt
  by_cases h1 : 2 * j + 1 < p
  · rw [if_pos h1, if_pos (show 2 * j + 1 < p + 1 by omega)]
  · rw [if_neg h1, if_neg (show ¬ 2 * j + 1 < p + 1 by omega), if_neg (show ¬ 2 * j < p by omega), if_neg (show ¬ 2 * j < p + 1 by omega)]
theorem stL_store (D : List Int) (m p : Nat) (v : Int) (hv : v = bt D p (p / 2) * 16 + D.getD p 0) : (cellsOf (stL D m p)).setIfInBounds (p / 2) (.int .u8 v) = cellsOf (stL D m (p + 1)) := by
  subst hv
  rw [bt_next]
  apply Array.ext
  · simp [cellsOf, stL]
  · intro i h1 h2
    simp only [cellsOf, stL, List.setIfInBounds_toArray, List.getElem_toArray, List.map_map]
    rw [List.getElem_set]
    by_cases e : p / 2 = i
    · subst e; simp
    · rw [if_neg e]; simp [bt_else D p i (fun h => e h.symm)]
theorem stL_none (D : List Int) (m p : Nat) (h : ∀ j, j < m → bt D p j = 0) : cellsOf (stL D m p) = madeCells #[Value.int .u8 0] m := by
  apply Array.toList_inj.1
  rw [toList_madeCells_one]
  apply List.ext_getElem
  · simp [cellsOf, stL]
  · intro i h1 h2
    have hi : i < m := by simpa using h2
    simp [cellsOf, stL, h i hi]
/-- The digits of a text, a nought ahead where they are odd. -/
def valsL (s : ByteArray) : List Int := s.data.toList.map fun c => (c.toNat : Int) - 48
def padL (s : ByteArray) : List Int := if s.size % 2 = 1 then 0 :: valsL s else valsL s
def packL (s : ByteArray) : List Int := stL (padL s) ((s.size + 1) / 2) (s.size + s.size % 2)
theorem packL_length (s : ByteArray) : (packL s).length = (s.size + 1) / 2 := stL_length _ _ _
theorem vals_get (s : ByteArray) (i : Nat) (h : i < s.size) : (valsL s).getD i 0 = (s[i].toNat : Int) - 48 := by
  have : i < s.data.toList.length := by simpa using h
  simp [valsL, ByteArray.getElem_eq_getElem_data, h]
theorem pad_get (s : ByteArray) (i : Nat) (h : i < s.size) : (padL s).getD (s.size % 2 + i) 0 = (s[i].toNat : Int) - 48 := by
  unfold padL
  rcases Nat.mod_two_eq_zero_or_one s.size with e | e
  · rw [e, if_neg (by omega), Nat.zero_add]; exact vals_get s i h
  · rw [e, if_pos rfl, Nat.add_comm]; exact vals_get s i h
theorem pad_zero (s : ByteArray) (h : s.size % 2 = 1) : (padL s).getD 0 0 = 0 := by
  unfold padL; rw [if_pos h]; rfl
theorem or4 (v x : Int) (h0 : 0 ≤ v) (h1 : v < 16) (hx : 0 ≤ x) (hx' : x < 16) :
    bits .or .u8 (v * 16) x = v * 16 + x :=
  bits_join .u8 8 (by decide) (fun n a b => by rw [IntKind.wrap_u8]; omega) 4 _ _ (by omega) (by omega) (by omega) hx (by omega) (by omega)
/-- Halfway laid, a byte is a digit or nought. -/
theorem bt_small (s : ByteArray) (i : Nat) (hi : i < s.size) (hd : digB (s.data.toList.take i) = true) : 0 ≤ bt (padL s) (s.size % 2 + i) ((s.size % 2 + i) / 2) ∧ bt (padL s) (s.size % 2 + i) ((s.size % 2 + i) / 2) < 10 := by
  unfold bt
  rw [if_neg (by omega)]
  by_cases h : 2 * ((s.size % 2 + i) / 2) < s.size % 2 + i
  · rw [if_pos h]
    by_cases h0 : 2 * ((s.size % 2 + i) / 2) = 0 ∧ s.size % 2 = 1
    · rw [h0.1, pad_zero s h0.2]; omega
    · obtain ⟨j, hj⟩ : ∃ j, 2 * ((s.size % 2 + i) / 2) = s.size % 2 + j := ⟨2 * ((s.size % 2 + i) / 2) - s.size % 2, by omega⟩
      have hji : j < i := by omega
      have hjs : j < s.size := by omega
      rw [hj, pad_get s j hjs]
      unfold digB at hd
      have hmem : s[j] ∈ s.data.toList.take i := by
        have hl : j < (s.data.toList.take i).length := by rw [take_len s i (by omega)]; exact hji
        have : (s.data.toList.take i)[j] = s[j] := by rw [List.getElem_take, ByteArray.getElem_eq_getElem_data]; simp
        rw [← this]; exact List.getElem_mem hl
      have := List.all_eq_true.1 hd (s[j]) hmem
      have := of_decide_eq_true this
      omega
  · rw [if_neg h]; omega

def BC (s : ByteArray) (k : Nat) : Array Value := cellsOf (stL (padL s) ((s.size + 1) / 2) (s.size % 2 + k))
theorem BC_zero (s : ByteArray) : BC s 0 = madeCells #[Value.int .u8 0] ((s.size + 1) / 2) := by
  refine stL_none _ _ _ fun j hj => ?_
  unfold bt
  rw [if_neg (by omega)]
  by_cases h : 2 * j < s.size % 2 + 0
  · rw [if_pos h, show 2 * j = 0 by omega, pad_zero s (by omega)]
  · rw [if_neg h]
theorem BC_size (s : ByteArray) (k : Nat) : (BC s k).size = (s.size + 1) / 2 := by unfold BC; rw [cells_size, stL_length]
theorem BC_get (s : ByteArray) (k j : Nat) (h : j < (s.size + 1) / 2) : (BC s k)[j]? = some (.int .u8 (bt (padL s) (s.size % 2 + k) j)) := by
  unfold BC cellsOf stL
  simp [h]
theorem BC_store (s : ByteArray) (k : Nat) (h : k < s.size) (v : Int) (hv : v = bt (padL s) (s.size % 2 + k) ((s.size % 2 + k) / 2) * 16 + ((s[k].toNat : Int) - 48)) :
    (BC s k).setIfInBounds ((s.size % 2 + k) / 2) (.int .u8 v) = BC s (k + 1) := by
  unfold BC
  refine stL_store _ _ _ _ ?_
  rw [pad_get s k h]; exact hv
theorem BC_all (s : ByteArray) : BC s s.size = cellsOf (packL s) := by unfold BC packL; rw [Nat.add_comm s.size (s.size % 2)]
end Go.Proofs.Ytnahbfnchopghaa
