/- Digits that are packed come back: plain mathematics. -/
import Derived.Test.YtfpjjdlfofejcaaUn
namespace Go.Proofs.Ytfpjjdlfofejcaa
open Go.ChangeShapes Go.WideShapes Go.ChangeAt Go.RowKit

theorem bt_tail (a b : Int) (D : List Int) (m j : Nat) : bt (a :: b :: D) (2 * (m + 1)) (j + 1) = bt D (2 * m) j := by
  unfold bt
  rw [show 2 * (j + 1) + 1 = (2 * j + 1) + 1 + 1 by omega, show 2 * (j + 1) = 2 * j + 1 + 1 by omega, show 2 * (m + 1) = 2 * m + 1 + 1 by omega]
  simp only [List.getD_cons_succ, Nat.add_lt_add_iff_right]
theorem stL_cons (a b : Int) (D : List Int) (m : Nat) : stL (a :: b :: D) (m + 1) (2 * (m + 1)) = (a * 16 + b) :: stL D m (2 * m) := by
  unfold stL
  rw [List.range_succ_eq_map, List.map_cons, List.map_map]
  have h0 : bt (a :: b :: D) (2 * (m + 1)) 0 = a * 16 + b := by unfold bt; rw [if_pos (by omega)]; rfl
  rw [h0]
  congr 1
  apply List.map_congr_left
  intro j _
  exact bt_tail a b D m j
theorem un_st (m : Nat) (D : List Int) (hl : D.length = 2 * m) (hd : ∀ x ∈ D, 0 ≤ x ∧ x < 10) : unL (stL D m (2 * m)) = D.map (48 + ·) ∧ nibB (stL D m (2 * m)) = true := by
  induction m generalizing D with
  | zero => have : D = [] := List.length_eq_zero_iff.1 (by omega); subst this; exact ⟨rfl, rfl⟩
  | succ m ih =>
    match D, hl, hd with
    | a :: b :: D, hl, hd =>
      obtain ⟨h1, h2⟩ := ih D (by simp at hl; omega) (fun x hx => hd x (by simp [hx]))
      have ha := hd a (by simp)
      have hb := hd b (by simp)
      rw [stL_cons]
      constructor
      · rw [unL, List.flatMap_cons, ← unL, h1, two, show (a * 16 + b) / 16 = a by omega, show (a * 16 + b) % 16 = b by omega]
        rfl
      · rw [nibB, List.all_cons, ← nibB, h2, nib, show (a * 16 + b) / 16 = a by omega, show (a * 16 + b) % 16 = b by omega, decide_eq_true ha.2, decide_eq_true hb.2]
        rfl
    | [], hl, _ => simp at hl
    | [_], hl, _ => simp at hl; omega
theorem vals_bd {s : ByteArray} (h : digB s.data.toList = true) : ∀ x ∈ valsL s, 0 ≤ x ∧ x < 10 := by
  intro x hx
  simp [valsL] at hx
  obtain ⟨c, hc, rfl⟩ := hx
  unfold digB at h
  have := of_decide_eq_true (List.all_eq_true.1 h c (by simpa using hc))
  omega
theorem vals_len (s : ByteArray) : (valsL s).length = s.size := by simp [valsL]
theorem vals_map (s : ByteArray) : (valsL s).map (48 + ·) = panL s := by
  unfold valsL panL
  rw [List.map_map]
  apply List.map_congr_left
  intro c _
  show 48 + ((c.toNat : Int) - 48) = _
  omega
/-- What is packed comes back. -/
theorem pack_back (s : ByteArray) (h : digB s.data.toList = true) : unOk (packL s) s.size = true ∧ unS (packL s) s.size = s := by
  rcases Nat.mod_two_eq_zero_or_one s.size with e | e
  · have hD : padL s = valsL s := by unfold padL; rw [if_neg (by omega)]
    have hp : packL s = stL (valsL s) ((s.size + 1) / 2) (2 * ((s.size + 1) / 2)) := by unfold packL; rw [hD]; congr 1; omega
    obtain ⟨h1, h2⟩ := un_st ((s.size + 1) / 2) (valsL s) (by rw [vals_len]; omega) (vals_bd h)
    rw [← hp] at h1 h2
    obtain ⟨y1, y2⟩ := un_yes (n := s.size) (packL_length s) h2 (.inl (by rw [packL_length]; omega))
    refine ⟨y1, ?_⟩
    rw [y2, h1, vals_map, packL_length, show 2 * ((s.size + 1) / 2) - s.size = 0 by omega, List.drop_zero, str_panL]
  · have hD : padL s = 0 :: valsL s := by unfold padL; rw [if_pos e]
    have hp : packL s = stL (0 :: valsL s) ((s.size + 1) / 2) (2 * ((s.size + 1) / 2)) := by unfold packL; rw [hD]; congr 1; omega
    obtain ⟨h1, h2⟩ := un_st ((s.size + 1) / 2) (0 :: valsL s) (by rw [List.length_cons, vals_len]; omega) (fun x hx => by
      rcases List.mem_cons.1 hx with rfl | hx
      · omega
      · exact vals_bd h x hx)
    rw [← hp] at h1 h2
    have hz : (packL s).getD 0 0 / 16 = 0 := by
      have h3 := unL_head (zs := packL s) (by rw [packL_length]; omega)
      rw [h1] at h3
      have h4 : 48 + (0 : Int) = 48 + (packL s).getD 0 0 / 16 := h3
      omega
    obtain ⟨y1, y2⟩ := un_yes (n := s.size) (packL_length s) h2 (.inr hz)
    refine ⟨y1, ?_⟩
    rw [y2, h1, packL_length, show 2 * ((s.size + 1) / 2) - s.size = 1 by omega, List.map_cons, List.drop_one, List.tail_cons, vals_map, str_panL]
theorem packL_byt (s : ByteArray) (h : digB s.data.toList = true) : Byt (packL s) := by
  have hb : ∀ i, 0 ≤ (padL s).getD i 0 ∧ (padL s).getD i 0 < 10 := by
    intro i
    have hm : ∀ x ∈ padL s, 0 ≤ x ∧ x < 10 := by
      intro x hx
      unfold padL at hx
      split at hx
      · rcases List.mem_cons.1 hx with rfl | hx
        · omega
        · exact vals_bd h x hx
      · exact vals_bd h x hx
    by_cases hi : i < (padL s).length
    · have : (padL s).getD i 0 = (padL s)[i] := by simp [hi]
      rw [this]; exact hm _ (List.getElem_mem hi)
    · simp [hi]
  intro x hx
  simp only [packL, stL, List.mem_map] at hx
  obtain ⟨j, _, rfl⟩ := hx
  unfold bt
  have h1 := hb (2 * j)
  have h2 := hb (2 * j + 1)
  split
  · omega
  · split
    · omega
    · omega
end Go.Proofs.Ytfpjjdlfofejcaa
