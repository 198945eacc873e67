/- The journal, plainly: records are laid, the head is written twice; whatever a crash leaves between, those ahead or those behind are there. No function is walked. -/
import Derived.Test.YthhgnflkplpklabJPure
namespace Go.Proofs.Ythhgnflkplpklab
open Dsc (Dk Sec padS layAll reopD stepD writeD writeZ syncD errZ reachZ)
open Frm (Rc putL rightB bytesL)

/-- Of the writes ws none touches what counts. -/
structure Calm (s : List (List Int)) (a b : Nat) (ws : List (Nat × List Int)) : Prop where
  off : ∀ x ∈ ws, 1 ≤ x.1
  dis : ∀ t, t < b → ∀ x ∈ ws, x.1 = 1 + a * ((s.length - 1) / 2) + t / 64 → x.2.getD (t % 64) 0 = bt s (1 + a * ((s.length - 1) / 2) + t / 64) (t % 64)
section
variable {s s' : List (List Int)} {c a b : Nat} {l nw : List Rc} {ws : List (Nat × List Int)} {a2 b2 : Nat}
theorem hold2 (h : Holds s c a b l) (k : Calm s a b ws) (f : From (ws ++ [(0, padS (headM c a b a2 b2 c))]) s s') : Holds s' c a b l := by
  have hc := h.c1
  have mem : ∀ x, x ∈ ws ++ [(0, padS (headM c a b a2 b2 c))] → x ∈ ws ∨ x = (0, padS (headM c a b a2 b2 c)) := fun x hx => by simpa using hx
  refine h.same f.1 ?_ ?_ ?_
  · rcases f.2 0 0 with e | ⟨x, hx, e1, e2⟩
    · exact e
    · rcases mem x hx with hx | rfl
      · have := k.off x hx; omega
      · rw [e2, pad_get _ _ (by omega), headM_0, h.top]
  · intro i hi
    rcases f.2 0 (1 + 4 * c + i) with e | ⟨x, hx, e1, e2⟩
    · exact e
    · rcases mem x hx with hx | rfl
      · have := k.off x hx; omega
      · rw [e2, pad_get _ _ (by omega), headM_c hc _ _ _ _ _ _ hi, h.word i hi]
  · intro t ht
    rcases f.2 (1 + a * ((s.length - 1) / 2) + t / 64) (t % 64) with e | ⟨x, hx, e1, e2⟩
    · exact e
    · rcases mem x hx with hx | rfl
      · rw [e2]; exact k.dis t ht x hx e1
      · simp at e1; omega
theorem hold1 (h : Holds s c a b l) (k : Calm s a b ws) (f : From ws s s') : Holds s' c a b l :=
  hold2 (a2 := 0) (b2 := 0) h k (f.more fun x hx => by simp [hx])
/-- The new records lie there, and the new mark, behind the first sync. -/
structure New (s : List (List Int)) (ws : List (Nat × List Int)) (a2 b2 : Nat) (nw : List Rc) : Prop where
  a1 : a2 ≤ 1
  len : b2 = (frs nw).length
  fit : b2 ≤ (s.length - 1) / 2 * 64
  data : ∀ t, t < b2 → bt (layAll s ws) (1 + a2 * ((s.length - 1) / 2) + t / 64) (t % 64) = (frs nw).getD t 0
  good : Good nw
theorem first_at (hs : 0 < s.length) (H : List Int) : (∀ j, j < 64 → bt (layAll s (ws ++ [(0, padS H)])) 0 j = H.getD j 0) ∧ ∀ i j, 0 < i → bt (layAll s (ws ++ [(0, padS H)])) i j = bt (layAll s ws) i j := by
  have e : layAll s (ws ++ [(0, padS H)]) = (layAll s ws).set 0 (padS H) := by rw [layAll_append]; rfl
  have hl : (layAll s ws).length = s.length := Dsc.layAll_len s ws
  rw [e]
  refine ⟨fun j hj => ?_, fun i j hi => ?_⟩
  · rw [bt_set, if_pos ⟨rfl, by omega⟩, pad_get _ _ hj]
  · rw [bt_set, if_neg (by omega)]
theorem new_at (h : Holds s c a b l) (k : New s ws a2 b2 nw) (hl : s'.length = s.length) (h0 : bt s' 0 0 = ((1 - c : Nat) : Int)) (h1 : ∀ j, 0 < j → j < 64 → bt s' 0 j = (headM c a b a2 b2 c).getD j 0)
    (h2 : ∀ i j, 0 < i → bt s' i j = bt (layAll s ws) i j) : Holds s' (1 - c) a2 b2 nw := by
  have hc := h.c1
  refine ⟨by rw [hl]; exact h.n8, by omega, k.a1, h0, fun i hi => ?_, k.len, by rw [hl]; exact k.fit, fun t ht => ?_, k.good⟩
  · rw [h1 _ (by omega) (by omega), headM_o hc _ _ _ _ _ _ hi]
  · rw [hl, h2 _ _ (by omega)]; exact k.data t ht
theorem hold4 (h : Holds s c a b l) (k : Calm s a b ws) (n : New s ws a2 b2 nw) (f : From [(0, padS (headM c a b a2 b2 (1 - c)))] (layAll s (ws ++ [(0, padS (headM c a b a2 b2 c))])) s') :
    Holds s' c a b l ∨ Holds s' (1 - c) a2 b2 nw := by
  have hs : 0 < s.length := by have := h.n8; omega
  have hc := h.c1
  obtain ⟨f1, f2⟩ := first_at (ws := ws) hs (headM c a b a2 b2 c)
  have H1 := hold2 h k (from_sync s (ws ++ [(0, padS (headM c a b a2 b2 c))]))
  have hl1 : (layAll s (ws ++ [(0, padS (headM c a b a2 b2 c))])).length = s.length := Dsc.layAll_len _ _
  have hl : s'.length = s.length := f.1.trans hl1
  have g1 : ∀ j, 0 < j → j < 64 → bt s' 0 j = (headM c a b a2 b2 c).getD j 0 := by
    intro j h0 hj
    rcases f.2 0 j with e | ⟨x, hx, e1, e2⟩
    · rw [e, f1 j hj]
    · have : x = (0, padS (headM c a b a2 b2 (1 - c))) := by simpa using hx
      subst this
      rw [e2, pad_get _ _ hj, headM_rest _ _ _ _ _ _ c j h0]
  have g2 : ∀ i j, 0 < i → bt s' i j = bt (layAll s (ws ++ [(0, padS (headM c a b a2 b2 c))])) i j := by
    intro i j h0
    rcases f.2 i j with e | ⟨x, hx, e1, e2⟩
    · exact e
    · have : x = (0, padS (headM c a b a2 b2 (1 - c))) := by simpa using hx
      subst this; simp at e1; omega
  rcases f.2 0 0 with e | ⟨x, hx, e1, e2⟩
  · left
    refine H1.same f.1 e (fun i hi => ?_) (fun t ht => g2 _ _ (by omega))
    rw [g1 _ (by omega) (by omega), f1 _ (by omega)]
  · right
    have : x = (0, padS (headM c a b a2 b2 (1 - c))) := by simpa using hx
    subst this
    refine new_at h n hl ?_ g1 (fun i j h0 => by rw [g2 i j h0, f2 i j h0])
    rw [e2, pad_get _ _ (by omega), headM_0]
theorem hold5 (h : Holds s c a b l) (n : New s ws a2 b2 nw) : Holds (layAll (layAll s (ws ++ [(0, padS (headM c a b a2 b2 c))])) [(0, padS (headM c a b a2 b2 (1 - c)))]) (1 - c) a2 b2 nw := by
  have hs : 0 < s.length := by have := h.n8; omega
  have hl1 : (layAll s (ws ++ [(0, padS (headM c a b a2 b2 c))])).length = s.length := Dsc.layAll_len _ _
  obtain ⟨f1, f2⟩ := first_at (ws := ws) hs (headM c a b a2 b2 c)
  obtain ⟨k1, k2⟩ := first_at (s := layAll s (ws ++ [(0, padS (headM c a b a2 b2 c))])) (ws := []) (by omega) (headM c a b a2 b2 (1 - c))
  rw [List.nil_append] at k1 k2
  refine new_at h n ((Dsc.layAll_len _ _).trans hl1) ?_ ?_ ?_
  · rw [k1 0 (by omega), headM_0]
  · intro j h0 hj; rw [k1 j hj]; exact headM_rest _ _ _ _ _ _ _ _ h0
  · intro i j h0; rw [k2 i j h0]; exact f2 i j h0
end

/-! ### Which writes a call makes -/
/-- Bytes ahead of a mark in its sector. -/
def bgL (s : List (List Int)) (n m : Nat) : List Int := (s.getD n []).take m
theorem area_lt {s : List (List Int)} {a : Nat} (h8 : 8 ≤ s.length) (ha : a ≤ 1) {k : Nat} (hk : k < (s.length - 1) / 2) : 1 + a * ((s.length - 1) / 2) + k < s.length := by
  have e : a = 0 ∨ a = 1 := by omega
  rcases e with rfl | rfl <;> omega
theorem getD_app (a b : List Int) (t : Nat) : (a ++ b).getD t 0 = if t < a.length then a.getD t 0 else b.getD (t - a.length) 0 := by
  simp only [List.getD_eq_getElem?_getD]
  split
  · rename_i h; rw [List.getElem?_append_left h]
  · rename_i h; rw [List.getElem?_append_right (by omega)]
theorem bg_get {s : List (List Int)} {n m j : Nat} (h : j < m) : (bgL s n m).getD j 0 = bt s n j := by
  unfold bgL bt
  rw [List.getD_eq_getElem?_getD, List.getElem?_take, if_pos h, ← List.getD_eq_getElem?_getD]
theorem bg_len {s : List (List Int)} (hs : ∀ x ∈ s, Sec x) {n m : Nat} (hn : n < s.length ∨ m = 0) (hm : m ≤ 64) : (bgL s n m).length = m := by
  unfold bgL
  rcases hn with hn | rfl
  · have e : s[n]? = some s[n] := by simp [hn]
    have := (hs s[n] (List.getElem_mem hn)).1
    rw [List.getD_eq_getElem?_getD, e, List.length_take]; simp [this]; omega
  · simp
theorem add_calm {s : List (List Int)} {c a b : Nat} {l : List Rc} (h : Holds s c a b l) (hs : ∀ x ∈ s, Sec x) (fr : List Int) (hfit : b + fr.length ≤ (s.length - 1) / 2 * 64) :
    Calm s a b (chw (1 + a * ((s.length - 1) / 2) + b / 64) (bgL s (1 + a * ((s.length - 1) / 2) + b / 64) (b % 64) ++ fr)) := by
  have h8 := h.n8
  generalize hA : (s.length - 1) / 2 = A at *
  have hlen : (bgL s (1 + a * A + b / 64) (b % 64)).length = b % 64 := bg_len hs (by
    by_cases h0 : b % 64 = 0
    · exact .inr h0
    · left; rw [← hA]; exact area_lt h8 h.a1 (by rw [hA]; omega)) (by omega)
  refine ⟨fun x hx => ?_, fun t ht x hx e => ?_⟩
  · have := (chw_in hx).1; omega
  · rw [hA] at e ⊢
    obtain ⟨h1, h2, h3⟩ := chw_in hx
    have e3 : t / 64 = b / 64 := by omega
    have e4 : (x.1 - (1 + a * A + b / 64)) * 64 + t % 64 = t % 64 := by omega
    rw [h3 _ (by omega), e4, getD_app, if_pos (by omega), bg_get (by omega), e3]
theorem add_new {s : List (List Int)} {c a b : Nat} {l rs : List Rc} (h : Holds s c a b l) (hs : ∀ x ∈ s, Sec x) (hr : Good rs) (hfit : b + (frs rs).length ≤ (s.length - 1) / 2 * 64) :
    New s (chw (1 + a * ((s.length - 1) / 2) + b / 64) (bgL s (1 + a * ((s.length - 1) / 2) + b / 64) (b % 64) ++ frs rs)) a (b + (frs rs).length) (l ++ rs) := by
  have h8 := h.n8
  have hdat := h.data
  have hbl := h.len
  generalize hA : (s.length - 1) / 2 = A at *
  have hlen : (bgL s (1 + a * A + b / 64) (b % 64)).length = b % 64 := bg_len hs (by
    by_cases h0 : b % 64 = 0
    · exact .inr h0
    · left; rw [← hA]; exact area_lt h8 h.a1 (by rw [hA]; omega)) (by omega)
  have hroom : ∀ k, k * 64 < (bgL s (1 + a * A + b / 64) (b % 64) ++ frs rs).length → 1 + a * A + b / 64 + k < s.length := by
    intro k hk
    rw [List.length_append, hlen] at hk
    have := area_lt (s := s) (k := b / 64 + k) h8 h.a1 (by rw [hA]; omega)
    rw [hA] at this; omega
  refine ⟨h.a1, by rw [frs_app, List.length_append, ← h.len], by rw [hA]; exact hfit, fun t ht => ?_, h.good.app hr⟩
  rw [hA]
  rw [lay_chw (Nat.le_refl _) hroom _ _ (by omega), frs_app, List.length_append, hlen]
  by_cases h1 : t / 64 < b / 64
  · rw [if_neg (by omega), hdat t (by omega), getD_app, if_pos (by omega)]
  · have e : (1 + a * A + t / 64 - (1 + a * A + b / 64)) * 64 + t % 64 = t - b / 64 * 64 := by omega
    rw [if_pos ⟨by omega, by omega⟩, e, getD_app, getD_app, hlen]
    by_cases h2 : t < b
    · have e3 : t / 64 = b / 64 := by omega
      have e4 : t - b / 64 * 64 = t % 64 := by omega
      rw [if_pos (by omega), e4, bg_get (by omega), if_pos (by omega), ← e3]; exact hdat t h2
    · rw [if_neg (by omega), if_neg (by omega)]; congr 1; omega
theorem rep_calm {s : List (List Int)} {c a b : Nat} {l : List Rc} (h : Holds s c a b l) (fr : List Int) (hfit : fr.length ≤ (s.length - 1) / 2 * 64) :
    Calm s a b (chw (1 + (1 - a) * ((s.length - 1) / 2)) fr) := by
  have h8 := h.n8
  have ha := h.a1
  have hb := h.fit
  generalize hA : (s.length - 1) / 2 = A at *
  refine ⟨fun x hx => ?_, fun t ht x hx e => ?_⟩
  · have := (chw_in hx).1; omega
  · rw [hA] at e
    obtain ⟨h1, h2, h3⟩ := chw_in hx
    exfalso
    have ea : a = 0 ∨ a = 1 := by omega
    rcases ea with rfl | rfl
    · simp at e h1 h2; omega
    · simp at e h1 h2; omega
theorem rep_new {s : List (List Int)} {c a b : Nat} {l rs : List Rc} (h : Holds s c a b l) (hr : Good rs) (hfit : (frs rs).length ≤ (s.length - 1) / 2 * 64) :
    New s (chw (1 + (1 - a) * ((s.length - 1) / 2)) (frs rs)) (1 - a) (frs rs).length rs := by
  have h8 := h.n8
  have ha := h.a1
  generalize hA : (s.length - 1) / 2 = A at *
  have hroom : ∀ k, k * 64 < (frs rs).length → 1 + (1 - a) * A + k < s.length := by
    intro k hk
    have := area_lt (s := s) (a := 1 - a) (k := k) h8 (by omega) (by rw [hA]; omega)
    rw [hA] at this; omega
  refine ⟨by omega, rfl, by rw [hA]; exact hfit, fun t ht => ?_, hr⟩
  rw [hA]
  have e : (1 + (1 - a) * A + t / 64 - (1 + (1 - a) * A)) * 64 + t % 64 = t := by omega
  rw [lay_chw (Nat.le_refl _) hroom _ _ (by omega), if_pos ⟨by omega, by omega⟩, e]

/-! ### The steps, plainly -/
/-- Bytes are written from sector n on. -/
def wrP (d : Dk) (n : Nat) (b : List Int) : Int × Dk :=
  if b = [] then (0, d) else if writeZ d n = 0 then wrP (writeD d n b) (n + 1) (b.drop 64) else (writeZ d n, writeD d n b)
termination_by b.length
decreasing_by
  rename_i h _
  have := List.length_pos_iff.2 h
  rw [List.length_drop]; omega
theorem wrP_nil (d : Dk) (n : Nat) : wrP d n [] = (0, d) := by rw [wrP]; simp
theorem wrP_go {d : Dk} {n : Nat} {b : List Int} (h : b ≠ []) (hz : writeZ d n = 0) : wrP d n b = wrP (writeD d n b) (n + 1) (b.drop 64) := by rw [wrP, if_neg h, if_pos hz]
theorem wrP_end {d : Dk} {n : Nat} {b : List Int} (h : b ≠ []) (hz : ¬ writeZ d n = 0) : wrP d n b = (writeZ d n, writeD d n b) := by rw [wrP, if_neg h, if_neg hz]
/-- One write of a disk that is up. -/
theorem write_up {d : Dk} {n : Nat} (hd : d.down = false) (hn : n < d.secs.length) (b : List Int) :
    (writeZ d n = 0 ∧ (writeD d n b).secs = d.secs ∧ (writeD d n b).waits = d.waits ++ [(n, padS b)] ∧ (writeD d n b).down = false ∧ (d.left = 0 → (writeD d n b).left = 0)) ∨
    (writeZ d n = 22 ∧ (writeD d n b).secs = d.secs ∧ (writeD d n b).waits = d.waits ∧ (writeD d n b).down = true ∧ 0 < d.left) := by
  have hr : reachZ d n = 0 := by unfold reachZ; rw [hd]; simp; omega
  unfold writeZ writeD
  rw [if_pos hr, if_pos hr]
  cases hs : (stepD d).down with
  | true =>
    right
    have h0 : 0 < d.left := by
      unfold stepD at hs; simp only at hs
      split at hs
      · assumption
      · rw [hd] at hs; cases hs
    refine ⟨rfl, ?_, ?_, ?_, h0⟩ <;> simp [stepD] at hs ⊢
    · exact hs
  | false =>
    left
    refine ⟨rfl, ?_, ?_, ?_, ?_⟩ <;> simp [stepD] at hs ⊢
    · exact hs
    · intro h; simp [h]
theorem sync_up {d : Dk} (hd : d.down = false) :
    (errZ (stepD d).down = 0 ∧ (syncD d).secs = layAll d.secs d.waits ∧ (syncD d).waits = [] ∧ (syncD d).down = false ∧ (d.left = 0 → (syncD d).left = 0)) ∨
    (errZ (stepD d).down = 22 ∧ (syncD d).secs = d.secs ∧ (syncD d).waits = d.waits ∧ (syncD d).down = true ∧ 0 < d.left) := by
  unfold syncD
  cases hs : (stepD d).down with
  | true =>
    right
    have h0 : 0 < d.left := by
      unfold stepD at hs; simp only at hs
      split at hs
      · assumption
      · rw [hd] at hs; cases hs
    refine ⟨rfl, ?_, ?_, ?_, h0⟩ <;> simp [stepD] at hs ⊢
    · exact hs
  | false =>
    left
    refine ⟨rfl, ?_, ?_, ?_, ?_⟩ <;> simp [stepD] at hs ⊢
    · exact hs
    · intro h; simp [h]
theorem wrP_spec {m : Nat} : ∀ {b : List Int} {n : Nat} {d : Dk}, b.length ≤ m → d.down = false → (∀ k, k * 64 < b.length → n + k < d.secs.length) →
    (wrP d n b).2.secs = d.secs ∧ (d.left = 0 → (wrP d n b).2.left = 0) ∧ (((wrP d n b).1 = 0 ∧ (wrP d n b).2.waits = d.waits ++ chw n b ∧ (wrP d n b).2.down = false) ∨
      ((wrP d n b).1 = 22 ∧ 0 < d.left ∧ (wrP d n b).2.down = true ∧ ∃ j, (wrP d n b).2.waits = d.waits ++ (chw n b).take j)) := by
  induction m with
  | zero =>
    intro b n d hb hd _
    have : b = [] := List.length_eq_zero_iff.1 (by omega)
    subst this; rw [wrP_nil, chw_nil]; exact ⟨rfl, fun h => h, .inl ⟨rfl, by simp, hd⟩⟩
  | succ m ih =>
    intro b n d hb hd hn
    by_cases h0 : b = []
    · subst h0; rw [wrP_nil, chw_nil]; exact ⟨rfl, fun h => h, .inl ⟨rfl, by simp, hd⟩⟩
    have hp := List.length_pos_iff.2 h0
    have hn0 := hn 0 (by omega)
    rw [chw_cons n h0]
    rcases write_up hd (n := n) (by omega) b with ⟨z, s1, w1, d1, l1⟩ | ⟨z, s1, w1, d1, l1⟩
    · rw [wrP_go h0 z]
      obtain ⟨i1, i2, i3⟩ := ih (b := b.drop 64) (n := n + 1) (d := writeD d n b) (by rw [List.length_drop]; omega) d1 (by
        intro k hk
        rw [List.length_drop] at hk
        have := hn (k + 1) (by omega)
        rw [s1]; omega)
      refine ⟨i1.trans s1, fun h => i2 (l1 h), ?_⟩
      rcases i3 with ⟨e, w2, d2⟩ | ⟨e, hl, d2, j, w2⟩
      · left; exact ⟨e, by rw [w2, w1]; simp, d2⟩
      · right
        refine ⟨e, ?_, d2, j + 1, by rw [w2, w1]; simp⟩
        by_cases h : d.left = 0
        · have := l1 h; omega
        · have hge : 0 ≤ d.left ∨ d.left < 0 := by omega
          rcases hge with hge | hlt
          · omega
          · exfalso
            have e2 : (writeD d n b).left = d.left := by
              have hr : reachZ d n = 0 := by unfold reachZ; rw [hd]; simp; omega
              have hs : (stepD d).down = false := by unfold stepD; simp [show ¬ 0 < d.left by omega, hd]
              unfold writeD; rw [if_pos hr, hs]; simp [stepD, show ¬ 0 < d.left by omega]
            omega
    · rw [wrP_end h0 (by rw [z]; decide)]
      refine ⟨s1, fun h => by omega, .inr ⟨z, l1, d1, 0, by rw [w1]; simp⟩⟩
/-- The head is written and synced. -/
def settP (d : Dk) (b : List Int) : Int × Dk := if writeZ d 0 = 0 then (errZ (stepD (writeD d 0 b)).down, syncD (writeD d 0 b)) else (writeZ d 0, writeD d 0 b)
theorem sett_spec {d : Dk} (hd : d.down = false) (hn : 0 < d.secs.length) (hl0 : 0 ≤ d.left) (b : List Int) :
    (d.left = 0 → (settP d b).2.left = 0) ∧ (((settP d b).1 = 0 ∧ (settP d b).2.secs = layAll d.secs (d.waits ++ [(0, padS b)]) ∧ (settP d b).2.waits = [] ∧ (settP d b).2.down = false) ∨
      ((settP d b).1 = 22 ∧ 0 < d.left ∧ (settP d b).2.down = true ∧ (settP d b).2.secs = d.secs ∧ ((settP d b).2.waits = d.waits ∨ (settP d b).2.waits = d.waits ++ [(0, padS b)]))) := by
  unfold settP
  rcases write_up hd (n := 0) hn b with ⟨z, s1, w1, d1, l1⟩ | ⟨z, s1, w1, d1, l1⟩
  · rw [if_pos (by exact z)]
    simp only
    rcases sync_up d1 with ⟨z2, s2, w2, d2, l2⟩ | ⟨z2, s2, w2, d2, l2⟩
    · exact ⟨fun h => l2 (l1 h), .inl ⟨z2, by rw [← w1, ← s1]; exact s2, w2, d2⟩⟩
    · refine ⟨fun h => ?_, .inr ⟨z2, ?_, d2, s2.trans s1, .inr (w2.trans w1)⟩⟩
      · have := l1 h; simp at this; simp at l2; omega
      · by_cases h : d.left = 0
        · have := l1 h; simp at this; simp at l2; omega
        · omega
  · have zz : ¬ writeZ d 0 = 0 := by have := z; simp at this; rw [this]; decide
    rw [if_neg zz]
    exact ⟨fun h => by omega, .inr ⟨z, l1, d1, s1, .inl w1⟩⟩
/-- Both heads, one behind the other. -/
def chP (d : Dk) (h1 h2 : List Int) : Int × Dk := if (settP d h1).1 = 0 then settP (settP d h1).2 h2 else settP d h1
/-- All of it. -/
def layP (d : Dk) (n : Nat) (b h1 h2 : List Int) : Int × Dk := if (wrP d n b).1 = 0 then chP (wrP d n b).2 h1 h2 else wrP d n b
/-- Records are laid: they are there, or the power is gone, and whatever is kept, those ahead or those behind are. -/
theorem lay_ends {d : Dk} {c a b a2 b2 n : Nat} {l nw : List Rc} {fb : List Int} (h : Holds d.secs c a b l) (hd : d.down = false) (hw : d.waits = []) (hl0 : 0 ≤ d.left)
    (hn : ∀ k, k * 64 < fb.length → n + k < d.secs.length) (hc : Calm d.secs a b (chw n fb)) (hN : New d.secs (chw n fb) a2 b2 nw)
    (hok : ∀ e d', layP d n fb (headM c a b a2 b2 c) (headM c a b a2 b2 (1 - c)) = (e, d') → 0 ≤ (wrP d n fb).2.left ∧ 0 ≤ (settP (wrP d n fb).2 (headM c a b a2 b2 c)).2.left) :
    ∀ e d', layP d n fb (headM c a b a2 b2 c) (headM c a b a2 b2 (1 - c)) = (e, d') → d'.secs.length = d.secs.length ∧ (d.left = 0 → d'.left = 0) ∧
      ((e = 0 ∧ d'.waits = [] ∧ d'.down = false ∧ Holds d'.secs (1 - c) a2 b2 nw) ∨
       (e = 22 ∧ 0 < d.left ∧ d'.down = true ∧ ∀ s', From d'.waits d'.secs s' → Holds s' c a b l ∨ Holds s' (1 - c) a2 b2 nw)) := by
  intro e d' he
  obtain ⟨ok1, ok2⟩ := hok e d' he
  obtain ⟨w1, w2, w3⟩ := wrP_spec (m := fb.length) (b := fb) (n := n) (d := d) (Nat.le_refl _) hd hn
  unfold layP at he
  rcases w3 with ⟨e1, x1, y1⟩ | ⟨e1, x1, y1, j, z1⟩
  · rw [if_pos e1] at he
    generalize (wrP d n fb).2 = d1 at *
    rw [hw, List.nil_append] at x1
    have hn1 : 0 < d1.secs.length := by rw [w1]; have := h.n8; omega
    obtain ⟨p1, p2⟩ := sett_spec y1 hn1 ok1 (headM c a b a2 b2 c)
    unfold chP at he
    rcases p2 with ⟨e2, s2, x2, y2⟩ | ⟨e2, l2, y2, s2, x2⟩
    · rw [if_pos e2] at he
      generalize (settP d1 (headM c a b a2 b2 c)).2 = d2 at *
      rw [x1, w1] at s2
      have hlen2 : d2.secs.length = d.secs.length := by rw [s2]; exact Dsc.layAll_len _ _
      obtain ⟨q1, q2⟩ := sett_spec y2 (by have := h.n8; omega) ok2 (headM c a b a2 b2 (1 - c))
      rw [he] at q1 q2
      simp only at q1 q2
      rcases q2 with ⟨e3, s3, x3, y3⟩ | ⟨e3, l3, y3, s3, x3⟩
      · rw [x2, List.nil_append, s2] at s3
        refine ⟨by rw [s3, Dsc.layAll_len, Dsc.layAll_len], fun h0 => q1 (p1 (w2 h0)), .inl ⟨e3, x3, y3, ?_⟩⟩
        rw [s3]; exact hold5 h hN
      · refine ⟨by rw [s3, hlen2], fun h0 => q1 (p1 (w2 h0)), .inr ⟨e3, ?_, y3, ?_⟩⟩
        · by_cases h0 : d.left = 0
          · have := p1 (w2 h0); omega
          · omega
        · intro s' f
          rw [s3, s2] at f
          refine hold4 h hc hN (f.more ?_)
          intro x hx
          rcases x3 with x3 | x3 <;> rw [x3, x2] at hx
          · cases hx
          · simpa using hx
    · rw [if_neg (by rw [e2]; decide)] at he
      rw [he] at e2 y2 s2 x2 p1
      simp only at e2 y2 s2 x2 p1
      refine ⟨by rw [s2, w1], fun h0 => p1 (w2 h0), .inr ⟨e2, ?_, y2, ?_⟩⟩
      · by_cases h0 : d.left = 0
        · have := w2 h0; omega
        · omega
      · intro s' f
        rw [s2, w1] at f
        left
        refine hold2 (a2 := a2) (b2 := b2) h hc (f.more ?_)
        intro x hx
        rcases x2 with x2 | x2 <;> rw [x2, x1] at hx
        · simp [hx]
        · exact hx
  · rw [if_neg (by rw [e1]; decide)] at he
    rw [he] at w1 w2 e1 y1 z1
    simp only at w1 w2 e1 y1 z1
    refine ⟨by rw [w1], w2, .inr ⟨e1, x1, y1, ?_⟩⟩
    intro s' f
    rw [w1, z1, hw, List.nil_append] at f
    left
    exact hold1 h hc (f.more fun x hx => List.mem_of_mem_take hx)
end Go.Proofs.Ythhgnflkplpklab
