/- Numbers that rise, their bitmap, the numbers that bytes hold. No function is walked. -/
import Derived.Test.YtfpjjdlfofejcaaMBits
namespace Go.Proofs.Ytfpjjdlfofejcaa.Map
open Go.ChangeShapes Go.WideShapes Go.ChangeAt Go.RowKit

def memP (l : List Int) : Nat → Bool := fun x => decide ((x : Int) ∈ l)
theorem memP_nil : memP [] = fun _ => false := by funext x; simp [memP]
theorem memP_snoc (l : List Int) (k x : Nat) (h : k < l.length) (hx : l.getD k 0 = (x : Int)) : memP (l.take (k + 1)) = ins x (memP (l.take k)) := by
  funext y
  rw [take_snocI l k h, hx]
  simp only [memP, ins, List.mem_append, List.mem_singleton]
  by_cases h1 : y = x
  · subst h1; simp
  · have h2 : ¬ (y : Int) = (x : Int) := by omega
    simp [h1, h2]
/-- The numbers rise from above 'last' to 128 at most. -/
def riseL : List Int → Int → Bool
  | [], _ => true
  | x :: t, last => decide (last < x ∧ x ≤ 128) && riseL t x
theorem rise_step (l : List Int) (k : Nat) (last : Int) (h : k < l.length) : riseL (l.drop k) last = (decide (last < l.getD k 0 ∧ l.getD k 0 ≤ 128) && riseL (l.drop (k + 1)) (l.getD k 0)) := by
  rw [List.drop_eq_getElem_cons h]
  simp [riseL, h]
theorem rise_end (l : List Int) (k : Nat) (last : Int) (h : l.length ≤ k) : riseL (l.drop k) last = true := by
  rw [List.drop_eq_nil_of_le h]; rfl
theorem rise_mem : ∀ (l : List Int) (last : Int), riseL l last = true → ∀ x ∈ l, last < x ∧ x ≤ 128
  | [], _, _, x, hx => by simp at hx
  | a :: t, last, h, x, hx => by
    simp only [riseL, Bool.and_eq_true, decide_eq_true_eq] at h
    obtain ⟨⟨h1, h2⟩, h3⟩ := h
    rcases List.mem_cons.1 hx with rfl | hx
    · exact ⟨h1, h2⟩
    · have := rise_mem t a h3 x hx; omega
theorem rise_pair : ∀ (l : List Int) (last : Int), riseL l last = true → l.Pairwise (· < ·)
  | [], _, _ => List.Pairwise.nil
  | a :: t, last, h => by
    simp only [riseL, Bool.and_eq_true, decide_eq_true_eq] at h
    exact List.Pairwise.cons (fun x hx => (rise_mem t a h.2 x hx).1) (rise_pair t a h.2)
theorem sorted_ext : ∀ (a b : List Int), a.Pairwise (· < ·) → b.Pairwise (· < ·) → (∀ x, x ∈ a ↔ x ∈ b) → a = b
  | [], [], _, _, _ => rfl
  | [], y :: t, _, _, h => by have := (h y).2 (by simp); simp at this
  | x :: s, [], _, _, h => by have := (h x).1 (by simp); simp at this
  | x :: s, y :: t, ha, hb, h => by
    obtain ⟨a1, a2⟩ := List.pairwise_cons.1 ha
    obtain ⟨b1, b2⟩ := List.pairwise_cons.1 hb
    have e : x = y := by
      rcases List.mem_cons.1 ((h x).1 (by simp)) with e | e
      · exact e
      · rcases List.mem_cons.1 ((h y).2 (by simp)) with e' | e'
        · exact e'.symm
        · have := a1 y e'; have := b1 x e; omega
    subst e
    rw [sorted_ext s t a2 b2 fun z => ⟨fun hz => ?_, fun hz => ?_⟩]
    · rcases List.mem_cons.1 ((h z).1 (List.mem_cons_of_mem _ hz)) with e | e
      · have := a1 z hz; omega
      · exact e
    · rcases List.mem_cons.1 ((h z).2 (List.mem_cons_of_mem _ hz)) with e | e
      · have := b1 z hz; omega
      · exact e
/-- The last of them. -/
def lastL (l : List Int) : Int := l.getLastD 1
theorem last_take (l : List Int) (k : Nat) (h : k < l.length) : lastL (l.take (k + 1)) = l.getD k 0 := by
  rw [take_snocI l k h]; simp [lastL]
theorem last_get (l : List Int) (h : 0 < l.length) : lastL l = l.getD (l.length - 1) 0 := by
  have := last_take l (l.length - 1) (by omega)
  rwa [show l.length - 1 + 1 = l.length by omega, List.take_length] at this
theorem last_mem {l : List Int} (h : 0 < l.length) : lastL l ∈ l := by
  rw [last_get l h]
  have : l.getD (l.length - 1) 0 = l[l.length - 1] := by rw [List.getD_eq_getElem?_getD, List.getElem?_eq_getElem (by omega)]; rfl
  rw [this]; exact List.getElem_mem _
theorem last_nil {l : List Int} (h : l.length = 0) : lastL l = 1 := by
  rw [List.length_eq_zero_iff.1 h]; rfl
theorem last_le {l : List Int} (h : l.Pairwise (· < ·)) {x : Int} (hx : x ∈ l) : x ≤ lastL l := by
  induction l with
  | nil => simp at hx
  | cons a t ih =>
    obtain ⟨h1, h2⟩ := List.pairwise_cons.1 h
    cases t with
    | nil => simp at hx; subst hx; exact Int.le_refl _
    | cons b t =>
      have e : lastL (a :: b :: t) = lastL (b :: t) := by simp [lastL]
      rw [e]
      rcases List.mem_cons.1 hx with rfl | hx
      · have := h1 _ (last_mem (l := b :: t) (by simp)); omega
      · exact ih h2 hx
/-- How many bytes. -/
def sizeL (l : List Int) : Nat := if 64 < lastL l then 16 else 8
theorem size_or (l : List Int) : (64 < lastL l ∧ sizeL l = 16) ∨ (lastL l ≤ 64 ∧ sizeL l = 8) := by
  unfold sizeL
  by_cases h : 64 < lastL l
  · left; exact ⟨h, if_pos h⟩
  · right; exact ⟨by omega, if_neg h⟩
def putP (l : List Int) : Nat → Bool := if sizeL l = 16 then ins 1 (memP l) else memP l
/-- The bitmap. -/
def putL (l : List Int) : List Int := bm (putP l) (sizeL l)
theorem putL_len (l : List Int) : (putL l).length = sizeL l := bm_len _ _
theorem putL_byt (l : List Int) : Byt (putL l) := bm_byt _ _
theorem putP_up {l : List Int} {x : Nat} (h : 2 ≤ x) : putP l x = memP l x := by
  unfold putP; split
  · exact ins_ne _ (by omega)
  · rfl
theorem putP_one {l : List Int} (h : riseL l 1 = true) : putP l 1 = decide (sizeL l = 16) := by
  unfold putP
  by_cases h1 : sizeL l = 16
  · rw [if_pos h1, ins_same, decide_eq_true h1]
  · rw [if_neg h1, decide_eq_false h1]
    refine decide_eq_false fun hm => ?_
    have := rise_mem l 1 h _ hm; omega
theorem mem_le {l : List Int} (h : riseL l 1 = true) {x : Nat} (hx : memP l x = true) : 2 ≤ x ∧ x ≤ 8 * sizeL l := by
  have hm : (x : Int) ∈ l := of_decide_eq_true hx
  have h1 := rise_mem l 1 h _ hm
  have h2 := last_le (rise_pair l 1 h) hm
  rcases size_or l with ⟨h3, h4⟩ | ⟨h3, h4⟩ <;> rw [h4] <;> omega
/-- The bit of number x, of 1 and more. -/
def hasN (zs : List Int) (x : Nat) : Bool := decide ((x - 1) / 8 < zs.length) && decide (zs.getD ((x - 1) / 8) 0 / 2 ^ (7 - (x - 1) % 8) % 2 = 1)
def hasL (zs : List Int) (n : Int) : Bool := decide (1 ≤ n ∧ n ≤ 128) && hasN zs n.toNat
theorem has_bm (P : Nat → Bool) (m x : Nat) (h1 : 1 ≤ x) : hasN (bm P m) x = (decide (x ≤ 8 * m) && P x) := by
  unfold hasN
  rw [bm_len]
  by_cases h : x ≤ 8 * m
  · have hj : (x - 1) / 8 < m := by omega
    rw [decide_eq_true hj, decide_eq_true h, bm_getD P hj, byteP_bit P _ _ (Nat.mod_lt _ (by decide)), show 8 * ((x - 1) / 8) + (x - 1) % 8 + 1 = x by omega]
    rcases b01_or (P x) with ⟨e1, e2⟩ | ⟨e1, e2⟩ <;> rw [e1, ← e1, e2, e1] <;> decide
  · rw [decide_eq_false h, decide_eq_false (by omega)]; simp
theorem has_app (a b : List Int) (x : Nat) (h1 : 1 ≤ x) (h : x ≤ 8 * a.length) : hasN (a ++ b) x = hasN a x := by
  have hj : (x - 1) / 8 < a.length := by omega
  unfold hasN
  rw [List.length_append, decide_eq_true (show (x - 1) / 8 < a.length + b.length by omega), decide_eq_true hj]
  congr 3
  simp [List.getD_eq_getElem?_getD, List.getElem?_append_left hj]
theorem has_take (zs : List Int) (k x : Nat) (h1 : 1 ≤ x) (h : x ≤ 8 * k) : hasN (zs.take k) x = hasN zs x := by
  have hj : (x - 1) / 8 < k := by omega
  unfold hasN
  have e : decide ((x - 1) / 8 < (zs.take k).length) = decide ((x - 1) / 8 < zs.length) := by
    rw [List.length_take]; apply decide_eq_decide.2; omega
  rw [e]
  congr 3
  simp [List.getD_eq_getElem?_getD, hj]
/-- The numbers from 2 to below n. -/
def numsTo (P : Nat → Bool) (n : Nat) : List Int := ((List.range n).filter (fun x => decide (2 ≤ x) && P x)).map (fun x : Nat => (x : Int))
theorem nums_two (P : Nat → Bool) : numsTo P 2 = [] := by simp [numsTo, List.range_succ]
theorem nums_yes {P : Nat → Bool} {n : Nat} (h : 2 ≤ n) (hp : P n = true) : numsTo P (n + 1) = numsTo P n ++ [(n : Int)] := by
  simp [numsTo, List.range_succ, h, hp]
theorem nums_no {P : Nat → Bool} {n : Nat} (hp : P n = false) : numsTo P (n + 1) = numsTo P n := by
  simp [numsTo, List.range_succ, hp]
theorem nums_mem {P : Nat → Bool} {n : Nat} {y : Int} : y ∈ numsTo P n ↔ ∃ x : Nat, y = x ∧ x < n ∧ 2 ≤ x ∧ P x = true := by
  simp only [numsTo, List.mem_map, List.mem_filter, List.mem_range, Bool.and_eq_true, decide_eq_true_eq]
  constructor
  · rintro ⟨x, ⟨h1, h2, h3⟩, rfl⟩; exact ⟨x, rfl, h1, h2, h3⟩
  · rintro ⟨x, rfl, h1, h2, h3⟩; exact ⟨x, ⟨h1, h2, h3⟩, rfl⟩
theorem nums_pair (P : Nat → Bool) (n : Nat) : (numsTo P n).Pairwise (· < ·) := by
  unfold numsTo
  rw [List.pairwise_map]
  refine List.Pairwise.filter _ (List.Pairwise.imp ?_ List.pairwise_lt_range)
  intro a b h; omega
theorem nums_congr {P Q : Nat → Bool} {n : Nat} (h : ∀ x, 2 ≤ x → x < n → P x = Q x) : numsTo P n = numsTo Q n := by
  unfold numsTo
  congr 1
  refine List.filter_congr fun x hx => ?_
  have := List.mem_range.1 hx
  by_cases h2 : 2 ≤ x
  · rw [h x h2 this]
  · simp [h2]
theorem nums_len (P : Nat → Bool) (n : Nat) : (numsTo P n).length ≤ n := by
  unfold numsTo
  rw [List.length_map]
  exact Nat.le_trans (List.length_filter_le _ _) (by simp)
theorem nums_wid {P : Nat → Bool} {n : Nat} (hn : n ≤ 9223372036854775807) : Wid (numsTo P n) := by
  intro y hy
  obtain ⟨x, rfl, h, _⟩ := nums_mem.1 hy
  omega
theorem nums_rise {l : List Int} (h : riseL l 1 = true) {n : Nat} (hn : ∀ x ∈ l, x < n) : numsTo (memP l) n = l := by
  refine sorted_ext _ _ (nums_pair _ _) (rise_pair l 1 h) fun y => ?_
  rw [nums_mem]
  constructor
  · rintro ⟨x, rfl, _, _, hx⟩; exact of_decide_eq_true hx
  · intro hy
    have h1 := rise_mem l 1 h y hy
    have h2 := hn y hy
    refine ⟨y.toNat, by omega, by omega, by omega, decide_eq_true ?_⟩
    rw [show ((y.toNat : Nat) : Int) = y by omega]; exact hy

/-- How many bytes are taken, which numbers they hold, and whether that is a bitmap. -/
def tookL (zs : List Int) : Nat := if hasN zs 1 = true then 16 else 8
def numL (zs : List Int) : List Int := numsTo (hasN zs) (8 * tookL zs + 1)
def readOk (zs : List Int) : Bool := decide (tookL zs ≤ zs.length) && decide (sizeL (numL zs) = tookL zs)
def numR (zs : List Int) : List Int := if readOk zs = true then numL zs else []
def tookR (zs : List Int) : Nat := if readOk zs = true then tookL zs else 0
theorem took_or (zs : List Int) : (hasN zs 1 = true ∧ tookL zs = 16) ∨ (hasN zs 1 = false ∧ tookL zs = 8) := by
  unfold tookL; cases h : hasN zs 1
  · right; exact ⟨rfl, rfl⟩
  · left; exact ⟨rfl, rfl⟩
theorem num_take (zs : List Int) : numsTo (hasN (zs.take (tookL zs))) (8 * tookL zs + 1) = numL zs :=
  nums_congr fun x h1 h2 => has_take zs _ x (by omega) (by omega)
theorem num_eight {zs : List Int} (h : tookL zs = 8) : sizeL (numL zs) = 8 := by
  rcases size_or (numL zs) with ⟨h1, h2⟩ | ⟨_, h2⟩
  · exfalso
    by_cases h0 : 0 < (numL zs).length
    · obtain ⟨x, e, hx, _⟩ := nums_mem.1 (last_mem h0)
      rw [h] at hx; rw [show lastL (numL zs) = x from e] at h1; omega
    · rw [last_nil (by omega)] at h1; omega
  · exact h2
theorem read_short {zs : List Int} (h : zs.length < tookL zs) : readOk zs = false ∧ numR zs = [] ∧ tookR zs = 0 := by
  have : readOk zs = false := by unfold readOk; rw [decide_eq_false (by omega)]; rfl
  exact ⟨this, by unfold numR; rw [this]; rfl, by unfold tookR; rw [this]; rfl⟩
theorem read_no {zs : List Int} (h : ¬ sizeL (numL zs) = tookL zs) : readOk zs = false ∧ numR zs = [] ∧ tookR zs = 0 := by
  have : readOk zs = false := by unfold readOk; rw [decide_eq_false h]; simp
  exact ⟨this, by unfold numR; rw [this]; rfl, by unfold tookR; rw [this]; rfl⟩
theorem read_yes {zs : List Int} (h : tookL zs ≤ zs.length) (h' : sizeL (numL zs) = tookL zs) : readOk zs = true ∧ numR zs = numL zs ∧ tookR zs = tookL zs := by
  have : readOk zs = true := by unfold readOk; rw [decide_eq_true h, decide_eq_true h']; rfl
  exact ⟨this, by unfold numR; rw [if_pos this], by unfold tookR; rw [if_pos this]⟩
/-- What numbers make comes back, whatever stands behind it. -/
theorem read_put {l more : List Int} (h : riseL l 1 = true) : readOk (putL l ++ more) = true ∧ numR (putL l ++ more) = l ∧ tookR (putL l ++ more) = sizeL l := by
  have hb : ∀ x, 1 ≤ x → x ≤ 8 * sizeL l → hasN (putL l ++ more) x = putP l x := by
    intro x h1 h2
    rw [has_app _ _ _ h1 (by rw [putL_len]; exact h2), putL, has_bm _ _ _ h1, decide_eq_true h2, Bool.true_and]
  have h1 : hasN (putL l ++ more) 1 = decide (sizeL l = 16) := by
    rw [hb 1 (by omega) (by rcases size_or l with ⟨_, e⟩ | ⟨_, e⟩ <;> omega), putP_one h]
  have ht : tookL (putL l ++ more) = sizeL l := by
    unfold tookL; rw [h1]
    rcases size_or l with ⟨_, e⟩ | ⟨_, e⟩ <;> rw [e] <;> rfl
  have hn : numL (putL l ++ more) = l := by
    unfold numL
    rw [ht, nums_congr (Q := memP l) fun x h2 h3 => (hb x (by omega) (by omega)).trans (putP_up h2)]
    refine nums_rise h fun y hy => ?_
    have := rise_mem l 1 h y hy
    have h4 := mem_le h (x := y.toNat) (decide_eq_true (by rw [show ((y.toNat : Nat) : Int) = y by omega]; exact hy))
    omega
  have := read_yes (zs := putL l ++ more) (by rw [ht, List.length_append, putL_len]; omega) (by rw [hn, ht])
  rw [hn, ht] at this; exact this
end Go.Proofs.Ytfpjjdlfofejcaa.Map
