/- A record's bytes read back; one byte another, or cut off: no record. -/
import Derived.Test.YthhgnflkplpklabRPlain
namespace Go.Proofs.Ythhgnflkplpklab.Frm
open Go.RowKit

theorem put_get1 (r : Rc) (m : List Int) : (putL r ++ m).getD 1 0 = ((bodyL r).length : Int) := rfl
theorem put_get0 (r : Rc) (m : List Int) : (putL r ++ m).getD 0 0 = 165 := rfl
theorem bodyX_mk (x : Int) (B C : List Int) : bodyX (x :: (B.length : Int) :: (B ++ C)) = B := by
  have e : (x :: (B.length : Int) :: (B ++ C)).getD 1 0 = (B.length : Int) := rfl
  unfold bodyX pc
  rw [e, Int.toNat_natCast]
  show (B ++ C).take B.length = B
  exact List.take_left
theorem sumX_mk (x : Int) (B C : List Int) : sumX (x :: (B.length : Int) :: (B ++ C)) = num (C.take 4) := by
  have e : (x :: (B.length : Int) :: (B ++ C)).getD 1 0 = (B.length : Int) := rfl
  unfold sumX pc
  rw [e, Int.toNat_natCast, Nat.add_comm]
  have e2 : (x :: (B.length : Int) :: (B ++ C)).drop (B.length + 2) = C := by
    rw [show B.length + 2 = (B.length + 1) + 1 from rfl, List.drop_succ_cons, List.drop_succ_cons, List.drop_left]
  rw [e2]
theorem put_eq (r : Rc) (m : List Int) : putL r ++ m = 165 :: ((bodyL r).length : Int) :: (bodyL r ++ (bytesL (crcL (bodyL r)) 4 ++ m)) := by
  simp [putL]
theorem put_eq0 (r : Rc) : putL r = 165 :: ((bodyL r).length : Int) :: (bodyL r ++ bytesL (crcL (bodyL r)) 4) := by
  simp [putL]
theorem put_body (r : Rc) (m : List Int) : bodyX (putL r ++ m) = bodyL r := by rw [put_eq, bodyX_mk]
theorem put_sum {r : Rc} (m : List Int) : sumX (putL r ++ m) = crcL (bodyL r) := by
  rw [put_eq, sumX_mk]
  have e4 : (bytesL (crcL (bodyL r)) 4 ++ m).take 4 = bytesL (crcL (bodyL r)) 4 := by
    have := List.take_left (l₁ := bytesL (crcL (bodyL r)) 4) (l₂ := m)
    rwa [bytesL_length] at this
  rw [e4]
  exact num4 _ (crcL_w32 (bodyL_byt r))
theorem back {r : Rc} (h : rightB r = true) (ho : r.Ok) (m : List Int) : errX (putL r ++ m) = 0 ∧ recX (putL r ++ m) = r ∧ lenX (putL r ++ m) = ((putL r).length : Int) := by
  have he : errX (putL r ++ m) = 0 := by
    unfold errX
    rw [put_body, recB_body h ho, put_sum, if_pos, if_pos rfl]
    unfold splB
    rw [put_get0, put_get1, List.length_append, putL_len, bodyL_len]
    simp; omega
  refine ⟨he, ?_, ?_⟩
  · rw [recX, if_pos he, put_body, recL_body (rt_of h) ho]
  · rw [lenX, if_pos he, put_body, putL_len, bodyL_len]; omega
theorem back0 {r : Rc} (h : rightB r = true) (ho : r.Ok) : errX (putL r) = 0 ∧ recX (putL r) = r ∧ lenX (putL r) = ((putL r).length : Int) := by
  have := back h ho []
  rwa [List.append_nil] at this

theorem err_or (b : List Int) : errX b = 0 ∨ errX b = 23 ∨ errX b = 24 := by
  unfold errX; split
  · split
    · exact .inl rfl
    · exact .inr (.inr rfl)
  · exact .inr (.inl rfl)
theorem len_none {b : List Int} (h : ¬ errX b = 0) : lenX b = 0 := by rw [lenX, if_neg h]

/-- Cut off. -/
theorem cut_none {r : Rc} (m : Nat) (hm : m < (putL r).length) : errX ((putL r).take m) = 23 := by
  unfold errX
  rw [if_neg]
  intro h
  simp only [Bool.and_eq_true, splB, decide_eq_true_eq] at h
  obtain ⟨⟨⟨h1, _⟩, h3⟩, _⟩ := h
  rw [List.length_take] at h1 h3
  have e1 : ((putL r).take m).getD 1 0 = ((bodyL r).length : Int) := by
    rw [List.getD_eq_getElem?_getD, List.getElem?_take, if_pos (by omega)]; rfl
  rw [e1, putL_len, bodyL_len] at h3
  rw [putL_len] at hm
  omega

theorem num_inj : ∀ {l l' : List Int}, l.length = l'.length → Byt l → Byt l' → num l = num l' → l = l' := by
  have key : ∀ (n : Nat) (l l' : List Int), l.length = n → l'.length = n → Byt l → Byt l' → num l = num l' → l = l' := by
    intro n
    induction n with
    | zero => intro l l' h h' _ _ _; rw [List.length_eq_zero_iff.1 h, List.length_eq_zero_iff.1 h']
    | succ n ih =>
      intro l l' h h' hb hb' he
      obtain ⟨p, a, rfl⟩ : ∃ p a, l = p ++ [a] := ⟨l.dropLast, l.getLast (by intro e; simp [e] at h), (List.dropLast_concat_getLast _).symm⟩
      obtain ⟨p', a', rfl⟩ : ∃ p a, l' = p ++ [a] := ⟨l'.dropLast, l'.getLast (by intro e; simp [e] at h'), (List.dropLast_concat_getLast _).symm⟩
      rw [num_snoc, num_snoc] at he
      have h1 := hb a (by simp)
      have h2 := hb' a' (by simp)
      have hp := ih p p' (by simpa using h) (by simpa using h') (fun x hx => hb x (by simp [hx])) (fun x hx => hb' x (by simp [hx])) (by omega)
      subst hp
      have : a = a' := by omega
      rw [this]
  intro l l' h hb hb' he
  exact key _ l l' rfl h.symm hb hb' he

/-- The i-th is another one. -/
theorem set_parts {l : List Int} {i : Nat} {y : Int} (hi : i < l.length) : l = l.take i ++ l.getD i 0 :: l.drop (i + 1) ∧ l.set i y = l.take i ++ y :: l.drop (i + 1) := by
  constructor
  · have : l.getD i 0 = l[i] := by simp [hi]
    rw [this, ← List.drop_eq_getElem_cons hi, List.take_append_drop]
  · rw [List.set_eq_take_append_cons_drop, if_pos hi]
theorem crc_set {l : List Int} {i : Nat} {y : Int} (hi : i < l.length) (hl : Byt l) (hy : 0 ≤ y ∧ y < 256) (hne : ¬ y = l.getD i 0) : ¬ crcL l = crcL (l.set i y) := by
  intro h
  obtain ⟨h1, h2⟩ := set_parts (y := y) hi
  rw [h2] at h
  rw [h1] at h
  have hg := byt_getD hl i
  rw [← h1] at h
  have h3 : crcL (l.take i ++ l.getD i 0 :: l.drop (i + 1)) = crcL (l.take i ++ y :: l.drop (i + 1)) := by rw [← h1]; exact h
  exact hne (crcL_turned (byt_take hl i) (byt_drop hl _) hg hy h3).symm
theorem getD_set_ne {l : List Int} {i j : Nat} {y : Int} (h : i ≠ j) : (l.set i y).getD j 0 = l.getD j 0 := by
  simp [List.getElem?_set_ne h]
theorem getD_set_eq {l : List Int} {i : Nat} {y : Int} (h : i < l.length) : (l.set i y).getD i 0 = y := by
  simp [h]
theorem byt_set {l : List Int} {i : Nat} {y : Int} (h : Byt l) (hy : 0 ≤ y ∧ y < 256) : Byt (l.set i y) := by
  intro x hx
  rcases List.mem_or_eq_of_mem_set hx with hx | rfl
  · exact h x hx
  · exact hy

theorem turned {r : Rc} (h : rightB r = true) (i : Nat) (y : Int) (hi : i < (putL r).length) (hy : 0 ≤ y ∧ y < 256) (hne : ¬ y = (putL r).getD i 0) : ¬ errX ((putL r).set i y) = 0 := by
  have hr := rt_of h
  have hsz := hr.size
  have hbl := bodyL_len r
  have hpl := putL_len r
  intro he
  have hs : splB ((putL r).set i y) = true ∧ recB (bodyX ((putL r).set i y)) = true ∧ sumX ((putL r).set i y) = crcL (bodyX ((putL r).set i y)) := by
    unfold errX at he
    split at he
    · rename_i hc
      rw [Bool.and_eq_true] at hc
      split at he
      · rename_i hx; exact ⟨hc.1, hc.2, hx⟩
      · omega
    · omega
  obtain ⟨h1, h2, h3⟩ := hs
  simp only [splB, Bool.and_eq_true, decide_eq_true_eq] at h1
  obtain ⟨⟨_, h12⟩, h13⟩ := h1
  rw [List.length_set] at h13
  by_cases e0 : i = 0
  · subst e0
    rw [getD_set_eq hi] at h12
    exact hne h12
  · by_cases e1 : i = 1
    · subst e1
      rw [getD_set_eq hi] at h13
      have hne' : ¬ y = ((bodyL r).length : Int) := hne
      have hlt : y.toNat < (bodyL r).length := by omega
      have eb : bodyX ((putL r).set 1 y) = (bodyL r).take y.toNat := by
        unfold bodyX
        rw [getD_set_eq hi]
        show ((bodyL r ++ bytesL (crcL (bodyL r)) 4)).take y.toNat = _
        rw [List.take_append_of_le_length (by omega)]
      rw [eb] at h2
      simp only [recB, Bool.and_eq_true, decide_eq_true_eq] at h2
      obtain ⟨⟨g1, g2⟩, _⟩ := h2
      rw [List.length_take] at g1 g2
      have e35 : ((bodyL r).take y.toNat).getD 35 0 = (r.pan.size : Int) := by
        rw [List.getD_eq_getElem?_getD, List.getElem?_take, if_pos (by omega), ← List.getD_eq_getElem?_getD, body_35 hsz]
      rw [e35] at g2
      omega
    · have eg1 : ((putL r).set i y).getD 1 0 = ((bodyL r).length : Int) := getD_set_ne e1
      obtain ⟨k, rfl⟩ : ∃ k, i = k + 2 := ⟨i - 2, by omega⟩
      have ep : (putL r).set (k + 2) y = 165 :: ((bodyL r).length : Int) :: (bodyL r ++ bytesL (crcL (bodyL r)) 4).set k y := by
        rw [put_eq0, List.set_cons_succ, List.set_cons_succ]
      have eg : (putL r).getD (k + 2) 0 = (bodyL r ++ bytesL (crcL (bodyL r)) 4).getD k 0 := by
        rw [put_eq0, List.getD_cons_succ, List.getD_cons_succ]
      rw [ep] at h2 h3
      rw [eg] at hne
      have hcr := crcL_w32 (bodyL_byt r)
      have hB := bodyL_byt r
      have hi' : k + 2 < 42 + r.pan.size := by omega
      clear ep eg eg1 h2 he h12 h13 e0 e1 hi hpl
      generalize hC : crcL (bodyL r) = C at *
      by_cases hk : k < (bodyL r).length
      · rw [List.set_append_left _ _ hk] at h3
        have e2 : ((bodyL r).length : Int) = (((bodyL r).set k y).length : Int) := by rw [List.length_set]
        rw [e2, sumX_mk, bodyX_mk, List.take_of_length_le (by rw [bytesL_length]; omega), num4 _ hcr] at h3
        have hne' : ¬ y = (bodyL r).getD k 0 := by
          intro e; apply hne; rw [e]
          simp [List.getElem?_append_left hk]
        exact crc_set hk hB hy hne' (hC.trans h3)
      · obtain ⟨j, rfl⟩ : ∃ j, k = (bodyL r).length + j := ⟨k - (bodyL r).length, by omega⟩
        have hlen := bytesL_length C 4
        rw [List.set_append_right _ _ (by omega), Nat.add_sub_cancel_left, sumX_mk, bodyX_mk, List.take_of_length_le (by rw [List.length_set, bytesL_length]; omega), hC] at h3
        have hj : j < 4 := by omega
        have hne' : ¬ y = (bytesL C 4).getD j 0 := by
          intro e; apply hne; rw [e]
          simp only [List.getD_eq_getElem?_getD]
          rw [List.getElem?_append_right (by omega), Nat.add_sub_cancel_left]
        have := num_inj (by simp) (byt_set (i := j) (bytesL_byt C 4) hy) (bytesL_byt C 4) (h3.trans (num4 C hcr).symm)
        have h5 := getD_set_eq (l := bytesL C 4) (i := j) (y := y) (by omega)
        rw [this] at h5
        exact hne' h5.symm
end Go.Proofs.Ythhgnflkplpklab.Frm
