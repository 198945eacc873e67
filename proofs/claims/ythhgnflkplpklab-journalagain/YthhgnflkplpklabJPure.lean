/- The journal, plainly: bytes of sectors, what a crash leaves of them, where the records lie. No function is walked. -/
import Derived.Test.YthhgnflkplpklabDReopen
import Derived.Test.YthhgnflkplpklabRTurn
namespace Go.Proofs.Ythhgnflkplpklab
open Dsc (Dk Sec lay padS zer layAll crash crash1 reopD stepD writeD writeZ syncD errZ reachZ tornN lostZ keptB)
open Frm (Rc putL rightB bytesL)

/-- Byte j of sector i. -/
def bt (s : List (List Int)) (i j : Nat) : Int := (s.getD i []).getD j 0
theorem lay_get {t : Nat} {x old : List Int} (ht : t ≤ x.length) (j : Nat) : (lay t x old).getD j 0 = if j < t then x.getD j 0 else old.getD j 0 := by
  have e : (x.take t).length = t := by rw [List.length_take]; omega
  unfold lay
  simp only [List.getD_eq_getElem?_getD]
  split
  · rename_i h; rw [List.getElem?_append_left (by omega), List.getElem?_take, if_pos h]
  · rename_i h
    rw [List.getElem?_append_right (by omega), List.getElem?_drop, e]
    congr 2; omega
theorem pad_get (b : List Int) (j : Nat) (hj : j < 64) : (padS b).getD j 0 = b.getD j 0 := by
  unfold padS
  rw [lay_get (by omega)]
  split
  · rfl
  · rename_i h
    have h2 : b.length ≤ j := by omega
    have e : b.getD j 0 = 0 := by simp [h2]
    rw [e]; show (List.replicate 64 (0 : Int)).getD j 0 = 0
    rw [List.getD_eq_getElem?_getD, List.getElem?_replicate]; split <;> rfl
theorem bt_set (s : List (List Int)) (n : Nat) (v : List Int) (i j : Nat) : bt (s.set n v) i j = if n = i ∧ n < s.length then v.getD j 0 else bt s i j := by
  unfold bt
  simp only [List.getD_eq_getElem?_getD, List.getElem?_set]
  by_cases h : n = i
  · subst h
    by_cases h2 : n < s.length
    · simp [h2]
    · simp [h2]
  · simp [h]

/-- Each byte of s' is that of s, or one that a write of l lays there. -/
def From (l : List (Nat × List Int)) (s s' : List (List Int)) : Prop :=
  s'.length = s.length ∧ ∀ i j, bt s' i j = bt s i j ∨ ∃ x ∈ l, x.1 = i ∧ bt s' i j = x.2.getD j 0
theorem From.refl (l : List (Nat × List Int)) (s : List (List Int)) : From l s s := ⟨rfl, fun _ _ => .inl rfl⟩
theorem From.more {l m : List (Nat × List Int)} {s s' : List (List Int)} (h : From l s s') (k : ∀ x ∈ l, x ∈ m) : From m s s' :=
  ⟨h.1, fun i j => (h.2 i j).imp id fun ⟨x, hx, r⟩ => ⟨x, k x hx, r⟩⟩
theorem From.set {l : List (Nat × List Int)} {s s' : List (List Int)} (h : From l s s') {x : Nat × List Int} (hx : x ∈ l) : From l s (s'.set x.1 x.2) := by
  refine ⟨by simpa using h.1, fun i j => ?_⟩
  rw [bt_set]
  split
  · rename_i k; exact .inr ⟨x, hx, k.1, rfl⟩
  · exact h.2 i j
theorem From.crash {l : List (Nat × List Int)} (hl : ∀ x ∈ l, x.2.length = 64) (bs : List Bool) {t : Nat} (ht : t ≤ 64) (lost : Int) (s : List (List Int)) : ∀ k, k ≤ l.length → From l s (crash bs t lost s l k)
  | 0, _ => From.refl l s
  | k + 1, hk => by
    have ih := From.crash hl bs ht lost s k (by omega)
    obtain ⟨x, hx⟩ : ∃ x, l[k]? = some x := ⟨l[k]'(by omega), by simp⟩
    have hm := List.mem_of_getElem? hx
    rw [Dsc.crash_next hx, crash1]
    split
    · exact ih.set hm
    · split
      · refine ⟨by simpa using ih.1, fun i j => ?_⟩
        rw [bt_set]
        split
        · rename_i k2
          rw [lay_get (by rw [hl x hm]; exact ht)]
          split
          · exact .inr ⟨x, hm, k2.1, rfl⟩
          · have := ih.2 x.1 j
            unfold bt at this ⊢
            rw [← k2.1]; exact this
        · exact ih.2 i j
      · exact ih
theorem From.reop {d : Dk} (h : d.Ok) (bs : List Bool) (torn : Int) : From d.waits d.secs (reopD d bs torn).secs :=
  From.crash (fun x hx => (h.waits x hx).2.1) bs (Dsc.tornN_le torn) _ _ _ (Nat.le_refl _)
theorem From.laid (s : List (List Int)) : ∀ (l m : List (Nat × List Int)) (s' : List (List Int)), From m s s' → (∀ x ∈ l, x ∈ m) → From m s (layAll s' l)
  | [], m, s', h, _ => h
  | x :: r, m, s', h, k => by
    have : layAll s' (x :: r) = layAll (s'.set x.1 x.2) r := rfl
    rw [this]
    exact From.laid s r m _ (h.set (k x (by simp))) (fun y hy => k y (by simp [hy]))
theorem from_sync (s : List (List Int)) (l : List (Nat × List Int)) : From l s (layAll s l) := From.laid s l l s (From.refl l s) (fun _ h => h)

/-- Bytes as writes of one sector after the other. -/
def chw (n : Nat) (b : List Int) : List (Nat × List Int) :=
  if b = [] then [] else (n, padS b) :: chw (n + 1) (b.drop 64)
termination_by b.length
decreasing_by
  rename_i h
  have := List.length_pos_iff.2 h
  rw [List.length_drop]; omega
theorem chw_nil (n : Nat) : chw n [] = [] := by rw [chw]; simp
theorem chw_cons (n : Nat) {b : List Int} (h : b ≠ []) : chw n b = (n, padS b) :: chw (n + 1) (b.drop 64) := by rw [chw, if_neg h]
theorem getD_drop (b : List Int) (k j : Nat) : (b.drop k).getD j 0 = b.getD (k + j) 0 := by simp [List.getElem?_drop]
/-- Which writes these are. -/
theorem chw_mem {m : Nat} : ∀ {b : List Int} {n : Nat}, b.length ≤ m → ∀ x ∈ chw n b, n ≤ x.1 ∧ (x.1 - n) * 64 < b.length ∧ x.2 = padS (b.drop ((x.1 - n) * 64)) := by
  induction m with
  | zero =>
    intro b n hb x hx
    have : b = [] := List.length_eq_zero_iff.1 (by omega)
    subst this; rw [chw_nil] at hx; cases hx
  | succ m ih =>
    intro b n hb x hx
    by_cases h0 : b = []
    · subst h0; rw [chw_nil] at hx; cases hx
    have hp := List.length_pos_iff.2 h0
    rw [chw_cons n h0] at hx
    rcases List.mem_cons.1 hx with rfl | hx
    · simp [hp]
    · obtain ⟨h1, h2, h3⟩ := ih (b := b.drop 64) (n := n + 1) (by rw [List.length_drop]; omega) x hx
      have e : (x.1 - n) * 64 = 64 + (x.1 - (n + 1)) * 64 := by omega
      rw [List.length_drop] at h2
      refine ⟨by omega, by omega, ?_⟩
      rw [h3, List.drop_drop, e]
theorem chw_in {b : List Int} {n : Nat} {x : Nat × List Int} (hx : x ∈ chw n b) : n ≤ x.1 ∧ (x.1 - n) * 64 < b.length ∧ ∀ j, j < 64 → x.2.getD j 0 = b.getD ((x.1 - n) * 64 + j) 0 := by
  obtain ⟨h1, h2, h3⟩ := chw_mem (Nat.le_refl _) x hx
  exact ⟨h1, h2, fun j hj => by rw [h3, pad_get _ _ hj, getD_drop]⟩
theorem layAll_append (s : List (List Int)) (a b : List (Nat × List Int)) : layAll s (a ++ b) = layAll (layAll s a) b := by simp [layAll, List.foldl_append]
/-- What they come to. -/
theorem lay_chw {m : Nat} : ∀ {b : List Int} {n : Nat} {s : List (List Int)}, b.length ≤ m → (∀ k, k * 64 < b.length → n + k < s.length) → ∀ i j, j < 64 →
    bt (layAll s (chw n b)) i j = if n ≤ i ∧ (i - n) * 64 < b.length then b.getD ((i - n) * 64 + j) 0 else bt s i j := by
  induction m with
  | zero =>
    intro b n s hb _ i j _
    have : b = [] := List.length_eq_zero_iff.1 (by omega)
    subst this; rw [chw_nil, if_neg (by simp)]; rfl
  | succ m ih =>
    intro b n s hb hn i j hj
    by_cases h0 : b = []
    · subst h0; rw [chw_nil, if_neg (by simp)]; rfl
    have hp := List.length_pos_iff.2 h0
    rw [chw_cons n h0]
    have e : layAll s ((n, padS b) :: chw (n + 1) (b.drop 64)) = layAll (s.set n (padS b)) (chw (n + 1) (b.drop 64)) := rfl
    have hn0 := hn 0 (by omega)
    rw [e, ih (by rw [List.length_drop]; omega) (by
      intro k hk
      rw [List.length_drop] at hk
      have := hn (k + 1) (by omega)
      rw [List.length_set]; omega) i j hj, List.length_drop, bt_set]
    by_cases h1 : n = i
    · subst h1
      rw [if_neg (by omega), if_pos ⟨rfl, by omega⟩, if_pos ⟨by omega, by omega⟩, pad_get _ _ hj]; congr 1; omega
    · have h1' : ¬ (n = i ∧ n < s.length) := fun h => h1 h.1
      by_cases h2 : n + 1 ≤ i ∧ (i - (n + 1)) * 64 < b.length - 64
      · rw [if_pos h2, if_pos ⟨by omega, by omega⟩, getD_drop]; congr 1; omega
      · rw [if_neg h2, if_neg h1', if_neg (by rintro ⟨h3, h4⟩; exact h2 ⟨by omega, by omega⟩)]

/-! ### Where the records lie -/
def frs (l : List Rc) : List Int := l.flatMap putL
theorem frs_app (a b : List Rc) : frs (a ++ b) = frs a ++ frs b := by simp [frs]
def Good (l : List Rc) : Prop := ∀ r ∈ l, rightB r = true ∧ r.Ok
theorem Good.app {a b : List Rc} (ha : Good a) (hb : Good b) : Good (a ++ b) := by
  intro r hr; rcases List.mem_append.1 hr with h | h
  · exact ha r h
  · exact hb r h
theorem frs_byt {l : List Rc} (h : Good l) : Frm.Byt (frs l) := by
  intro x hx
  obtain ⟨r, hr, hx⟩ := List.mem_flatMap.1 hx
  exact Frm.putL_byt (Frm.rt_of (h r hr).1).size x hx
/-- The head that a sector holds, and the bytes of the mark that counts. -/
structure Holds (s : List (List Int)) (c a b : Nat) (l : List Rc) : Prop where
  n8 : 8 ≤ s.length
  c1 : c ≤ 1
  a1 : a ≤ 1
  top : bt s 0 0 = (c : Int)
  word : ∀ i, i < 4 → bt s 0 (1 + 4 * c + i) = (bytesL (2 * (b : Int) + a) 4).getD i 0
  len : b = (frs l).length
  fit : b ≤ (s.length - 1) / 2 * 64
  data : ∀ t, t < b → bt s (1 + a * ((s.length - 1) / 2) + t / 64) (t % 64) = (frs l).getD t 0
  good : Good l
/-- What is the same where it counts holds the same. -/
theorem Holds.same {s s' : List (List Int)} {c a b : Nat} {l : List Rc} (h : Holds s c a b l) (hl : s'.length = s.length) (h0 : bt s' 0 0 = bt s 0 0) (h1 : ∀ i, i < 4 → bt s' 0 (1 + 4 * c + i) = bt s 0 (1 + 4 * c + i))
    (h2 : ∀ t, t < b → bt s' (1 + a * ((s.length - 1) / 2) + t / 64) (t % 64) = bt s (1 + a * ((s.length - 1) / 2) + t / 64) (t % 64)) : Holds s' c a b l :=
  ⟨by rw [hl]; exact h.n8, h.c1, h.a1, h0.trans h.top, fun i hi => (h1 i hi).trans (h.word i hi), h.len, by rw [hl]; exact h.fit, fun t ht => by rw [hl]; exact (h2 t ht).trans (h.data t ht), h.good⟩

/-- The head as bytes: which mark counts, and both. -/
def headL (c a0 b0 a1 b1 : Nat) : List Int := [(c : Int)] ++ bytesL (2 * (b0 : Int) + a0) 4 ++ bytesL (2 * (b1 : Int) + a1) 4
/-- Of two marks the c-th is (a, b), the other one (a', b'). -/
def headM (c a b a' b' : Nat) (k : Nat) : List Int := if c = 0 then headL k a b a' b' else headL k a' b' a b
theorem headL_0 (c a0 b0 a1 b1 : Nat) : (headL c a0 b0 a1 b1).getD 0 0 = (c : Int) := rfl
theorem headL_len (c a0 b0 a1 b1 : Nat) : (headL c a0 b0 a1 b1).length = 9 := by simp [headL, Frm.bytesL_length]
theorem headL_w0 (c a0 b0 a1 b1 i : Nat) (hi : i < 4) : (headL c a0 b0 a1 b1).getD (1 + i) 0 = (bytesL (2 * (b0 : Int) + a0) 4).getD i 0 := by
  have e : i = 0 ∨ i = 1 ∨ i = 2 ∨ i = 3 := by omega
  rcases e with rfl | rfl | rfl | rfl <;> rfl
theorem headL_w1 (c a0 b0 a1 b1 i : Nat) (hi : i < 4) : (headL c a0 b0 a1 b1).getD (5 + i) 0 = (bytesL (2 * (b1 : Int) + a1) 4).getD i 0 := by
  have e : i = 0 ∨ i = 1 ∨ i = 2 ∨ i = 3 := by omega
  rcases e with rfl | rfl | rfl | rfl <;> rfl
theorem headM_0 (c a b a' b' k : Nat) : (headM c a b a' b' k).getD 0 0 = (k : Int) := by unfold headM; split <;> rfl
theorem headM_c {c : Nat} (hc : c ≤ 1) (a b a' b' k i : Nat) (hi : i < 4) : (headM c a b a' b' k).getD (1 + 4 * c + i) 0 = (bytesL (2 * (b : Int) + a) 4).getD i 0 := by
  unfold headM
  split
  · rename_i h; subst h; exact headL_w0 _ _ _ _ _ i hi
  · have : c = 1 := by omega
    subst this; exact headL_w1 _ _ _ _ _ i hi
theorem headM_o {c : Nat} (hc : c ≤ 1) (a b a' b' k i : Nat) (hi : i < 4) : (headM c a b a' b' k).getD (1 + 4 * (1 - c) + i) 0 = (bytesL (2 * (b' : Int) + a') 4).getD i 0 := by
  unfold headM
  split
  · rename_i h; subst h; exact headL_w1 _ _ _ _ _ i hi
  · have : c = 1 := by omega
    subst this; exact headL_w0 _ _ _ _ _ i hi
theorem headM_rest (c a b a' b' k k' j : Nat) (hj : 0 < j) : (headM c a b a' b' k).getD j 0 = (headM c a b a' b' k').getD j 0 := by
  obtain ⟨j, rfl⟩ : ∃ i, j = i + 1 := ⟨j - 1, by omega⟩
  unfold headM; split <;> rfl
end Go.Proofs.Ythhgnflkplpklab
