/- What a disk holds is what is read: the head, the bytes, the records. No function is walked. -/
import Derived.Test.YthhgnflkplpklabJRead
import Derived.Test.YthhgnflkplpklabJLay
namespace Go.Proofs.Ythhgnflkplpklab
open Dsc (Dk Sec padS layAll reopD stepD writeD writeZ syncD errZ reachZ)
open Frm (Rc putL rightB bytesL num)

theorem hdOf_ok {zs : List Int} (hb : Frm.Byt zs) : (hdOf zs).Ok := by
  have h1 := nW_bd hb 1
  have h5 := nW_bd hb 5
  refine ⟨?_, ?_, ?_, ?_, ?_⟩ <;> (unfold hdOf; simp only; omega)
theorem sec_byt {x : List Int} (h : Sec x) : Frm.Byt x := by
  intro z hz
  have := h.2 z hz
  unfold Dsc.Byt at this; omega
theorem sec_at {s : List (List Int)} (hs : ∀ x ∈ s, Sec x) {n : Nat} (h : n < s.length) : Sec (s.getD n []) := by
  rw [List.getD_eq_getElem?_getD, List.getElem?_eq_getElem h]; exact hs _ (List.getElem_mem _)
theorem list_ext {a b : List Int} (hl : a.length = b.length) (h : ∀ i, i < a.length → a.getD i 0 = b.getD i 0) : a = b := by
  apply List.ext_getElem?
  intro i
  by_cases hi : i < a.length
  · have := h i hi
    rw [List.getD_eq_getElem?_getD, List.getD_eq_getElem?_getD, List.getElem?_eq_getElem hi, List.getElem?_eq_getElem (by omega)] at this
    rw [List.getElem?_eq_getElem hi, List.getElem?_eq_getElem (by omega)]
    exact congrArg some this
  · rw [List.getElem?_eq_none (by omega), List.getElem?_eq_none (by omega)]
theorem getD_take {b : List Int} {k j : Nat} (h : j < k) : (b.take k).getD j 0 = b.getD j 0 := by
  rw [List.getD_eq_getElem?_getD, List.getElem?_take, if_pos h, ← List.getD_eq_getElem?_getD]
section
variable {s : List (List Int)} {c a b : Nat} {l : List Rc}
theorem held_word (h : Holds s c a b l) (hs : ∀ x ∈ s, Sec x) (hn : s.length ≤ 4096) : nW (s.getD 0 []) (1 + 4 * c) = 2 * (b : Int) + a := by
  have h8 := h.n8
  have hc := h.c1
  have ha := h.a1
  have hf := h.fit
  have hx := sec_at hs (n := 0) (by omega)
  have hlen := hx.1
  have e : ((s.getD 0 []).drop (1 + 4 * c)).take 4 = bytesL (2 * (b : Int) + a) 4 := by
    apply list_ext
    · rw [List.length_take, List.length_drop, Frm.bytesL_length]; omega
    · intro i hi
      rw [List.length_take] at hi
      rw [getD_take (by omega), getD_drop]
      exact h.word i (by omega)
  unfold nW
  rw [e, Frm.num4 _ (by omega)]
theorem held_head (h : Holds s c a b l) (hs : ∀ x ∈ s, Sec x) (hn : s.length ≤ 4096) : (hdOf (s.getD 0 [])).Ok ∧ (hdOf (s.getD 0 [])).c = c ∧ (hdOf (s.getD 0 [])).a = a ∧ (hdOf (s.getD 0 [])).b = b := by
  have h8 := h.n8
  have hc := h.c1
  have ha := h.a1
  have hw := held_word h hs hn
  have ht : (s.getD 0 []).getD 0 0 = (c : Int) := h.top
  have ec : (hdOf (s.getD 0 [])).c = c := by unfold hdOf; simp only; rw [ht]; omega
  refine ⟨hdOf_ok (sec_byt (sec_at hs (by omega))), ec, ?_, ?_⟩
  · unfold Hd.a
    rw [ec]
    split
    · rename_i h0; subst h0; unfold hdOf; simp only; simp only [Nat.mul_zero, Nat.add_zero] at hw; rw [hw]; omega
    · have : c = 1 := by omega
      subst this; unfold hdOf; simp only; simp only [Nat.mul_one] at hw; rw [hw]; omega
  · unfold Hd.b
    rw [ec]
    split
    · rename_i h0; subst h0; unfold hdOf; simp only; simp only [Nat.mul_zero, Nat.add_zero] at hw; rw [hw]; omega
    · have : c = 1 := by omega
      subst this; unfold hdOf; simp only; simp only [Nat.mul_one] at hw; rw [hw]; omega
theorem held_bytes (h : Holds s c a b l) (hs : ∀ x ∈ s, Sec x) : (secsL s (1 + a * ((s.length - 1) / 2)) ((s.length - 1) / 2)).take b = frs l := by
  have h8 := h.n8
  have ha := h.a1
  have hb := h.len
  have hf := h.fit
  have hA : 1 + a * ((s.length - 1) / 2) + (s.length - 1) / 2 ≤ s.length := by
    have e : a = 0 ∨ a = 1 := by omega
    rcases e with rfl | rfl <;> omega
  have hl := secs_len hs (n := 1 + a * ((s.length - 1) / 2)) (k := (s.length - 1) / 2) hA
  apply list_ext
  · rw [List.length_take, hl]; omega
  · intro t ht
    rw [List.length_take] at ht
    rw [getD_take (by omega), secs_get hs hA (by omega)]
    exact h.data t (by omega)
end
/-- A new disk holds nothing. -/
theorem bt_new (n i j : Nat) : bt (List.replicate n Dsc.zer) i j = 0 := by
  unfold bt
  rw [show (List.replicate n Dsc.zer).getD i [] = if i < n then Dsc.zer else [] by rw [List.getD_eq_getElem?_getD, List.getElem?_replicate]; split <;> rfl]
  split
  · show (List.replicate 64 (0 : Int)).getD j 0 = 0
    rw [List.getD_eq_getElem?_getD, List.getElem?_replicate]; split <;> rfl
  · rfl
theorem held_new (n : Nat) (hn : 8 ≤ n) : Holds (List.replicate n Dsc.zer) 0 0 0 [] := by
  refine ⟨by simpa using hn, by omega, by omega, by rw [bt_new]; rfl, fun i hi => ?_, rfl, Nat.zero_le _, fun t ht => by omega, fun r hr => by cases hr⟩
  rw [bt_new]
  have e : i = 0 ∨ i = 1 ∨ i = 2 ∨ i = 3 := by omega
  rcases e with rfl | rfl | rfl | rfl <;> rfl
/-! ### Records one behind another -/
theorem frs_cons (r : Rc) (l : List Rc) : frs (r :: l) = putL r ++ frs l := rfl
theorem frs_take {l : List Rc} {k : Nat} {r : Rc} (h : l[k]? = some r) : frs (l.take (k + 1)) = frs (l.take k) ++ putL r := by
  rw [List.take_add_one, h, frs_app]; simp [frs]
theorem frs_drop (l : List Rc) (k : Nat) : (frs l).drop (frs (l.take k)).length = frs (l.drop k) := by
  have e : frs l = frs (l.take k) ++ frs (l.drop k) := by rw [← frs_app, List.take_append_drop]
  rw [e, List.drop_left]
theorem drop_at {l : List Rc} {k : Nat} {r : Rc} (h : l[k]? = some r) : l.drop k = r :: l.drop (k + 1) := by
  obtain ⟨hk, e⟩ := List.getElem?_eq_some_iff.1 h
  rw [List.drop_eq_getElem_cons hk, e]
theorem Good.at {l : List Rc} (h : Good l) {k : Nat} {r : Rc} (e : l[k]? = some r) : rightB r = true ∧ r.Ok := h r (List.mem_of_getElem? e)
/-- The record that comes next, or none. -/
theorem next_yes {l : List Rc} (hg : Good l) {k : Nat} {r : Rc} (e : l[k]? = some r) : Frm.errX ((frs l).drop (frs (l.take k)).length) = 0 ∧ Frm.recX ((frs l).drop (frs (l.take k)).length) = r ∧ Frm.lenX ((frs l).drop (frs (l.take k)).length) = ((putL r).length : Int) := by
  rw [frs_drop, drop_at e, frs_cons]
  exact Frm.back (hg.at e).1 (hg.at e).2 _
theorem next_no {l : List Rc} : Frm.errX ((frs l).drop (frs l).length) = 23 := by
  rw [List.drop_length]; rfl
end Go.Proofs.Ythhgnflkplpklab
