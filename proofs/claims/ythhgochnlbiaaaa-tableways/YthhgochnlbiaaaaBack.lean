/- Which states have a way to an end, told backwards: what is so at each step, and what it comes to. No function is walked. -/
import Derived.Test.YthhgochnlbiaaaaPure
namespace Go.Proofs.Ythhgochnlbiaaaa

/-- f tells the places of the first k states by their numbers. -/
structure PF (l : List St) (k : Nat) (f : Int → Option Int) : Prop where
  to : ∀ i, i < k → f (sAt l i).id = some (i : Int)
  of : ∀ x v, f x = some v → ∃ i : Nat, i < k ∧ v = i ∧ (sAt l i).id = x
def Once (l : List St) : Prop := ∀ i j, i < l.length → j < l.length → (sAt l i).id = (sAt l j).id → i = j
theorem once_of {l : List St} (h : ∀ k, k < l.length → dupB l k = false) : Once l := by
  intro i j hi hj e
  rcases Nat.lt_trichotomy i j with hh | hh | hh
  · have := (dup_iff (l := l) (i := j) (by omega)).2 ⟨i, hh, e⟩; rw [h j hj] at this; cases this
  · exact hh
  · have := (dup_iff (l := l) (i := i) (by omega)).2 ⟨j, hh, e.symm⟩; rw [h i hi] at this; cases this
theorem PF.none_ {l : List St} : PF l 0 (fun _ => none) := ⟨fun _ h => by omega, fun _ _ h => by cases h⟩
theorem PF.more {l : List St} {k : Nat} {f : Int → Option Int} (h : PF l k f) (hn : f (sAt l k).id = none) : PF l (k + 1) (fun x => if x = (sAt l k).id then some (k : Int) else f x) := by
  constructor
  · intro i hi
    by_cases e : i = k
    · subst e; simp
    · have hi2 : i < k := by omega
      have : (sAt l i).id ≠ (sAt l k).id := fun e2 => by rw [← e2, h.to i hi2] at hn; cases hn
      simp only [this, if_false]; exact h.to i hi2
  · intro x v hv
    by_cases e : x = (sAt l k).id
    · simp only [e, if_true, Option.some.injEq] at hv
      exact ⟨k, by omega, hv.symm, e.symm⟩
    · simp only [e, if_false] at hv
      obtain ⟨i, hi, h1, h2⟩ := h.of x v hv
      exact ⟨i, by omega, h1, h2⟩
theorem PF.dup {l : List St} {k : Nat} {f : Int → Option Int} (h : PF l k f) (hk : k ≤ l.length) : (f (sAt l k).id).isSome = dupB l k := by
  rw [Bool.eq_iff_iff, dup_iff hk]
  constructor
  · intro hs
    obtain ⟨v, hv⟩ := Option.isSome_iff_exists.1 hs
    obtain ⟨i, hi, _, e⟩ := h.of _ _ hv
    exact ⟨i, hi, e⟩
  · rintro ⟨i, hi, e⟩; rw [← e, h.to i hi]; rfl
theorem PF.has {l : List St} {f : Int → Option Int} (h : PF l l.length f) (x : Int) : (f x).isSome = hasId l x := by
  rw [Bool.eq_iff_iff, has_iff]
  constructor
  · intro hs
    obtain ⟨v, hv⟩ := Option.isSome_iff_exists.1 hs
    obtain ⟨i, hi, _, e⟩ := h.of _ _ hv
    exact ⟨i, hi, e⟩
  · rintro ⟨i, hi, e⟩; rw [← e, h.to i hi]; rfl
/-- The leads that are laid when the first k states are gone through, and t leads of the next. -/
def laidL (l : List St) (k t i : Nat) : List Int := if i < k then leadsL (sAt l i) else if i = k then (leadsL (sAt l k)).take t else []
/-- How the rows backwards are laid. -/
structure FI (l : List St) (f : Int → Option Int) (k t : Nat) (F : Nat → List Int) : Prop where
  of : ∀ j x, x ∈ F j → ∃ i y, i < l.length ∧ x = ((i : Nat) : Int) ∧ y ∈ leadsL (sAt l i) ∧ f y = some ((j : Nat) : Int)
  to : ∀ i y j, y ∈ laidL l k t i → f y = some ((j : Nat) : Int) → (i : Int) ∈ F j
  len : ∀ j, (F j).length ≤ 2 * k + t
theorem FI.none_ (l : List St) (f : Int → Option Int) : FI l f 0 0 (fun _ => []) := ⟨fun _ _ h => (by cases h), fun i y j h _ => (by unfold laidL at h; simp at h), fun _ => (by simp)⟩
def updN {α : Type} (F : Nat → α) (j : Nat) (v : α) : Nat → α := fun i => if i = j then v else F i
theorem FI.push {l : List St} {f : Int → Option Int} {k t j : Nat} {F : Nat → List Int} {y : Int} (h : FI l f k t F) (hk : k < l.length) (ht : t < (leadsL (sAt l k)).length) (hy : (leadsL (sAt l k)).getD t 0 = y) (hj : f y = some ((j : Nat) : Int)) :
    FI l f k (t + 1) (updN F j (F j ++ [(k : Int)])) := by
  have hym : y ∈ leadsL (sAt l k) := by rw [← hy]; simp [ht]
  constructor
  · intro i x hx
    unfold updN at hx
    split at hx
    · rename_i e; subst e
      rcases List.mem_append.1 hx with hx | hx
      · exact h.of i x hx
      · simp at hx; exact ⟨k, y, hk, hx, hym, hj⟩
    · exact h.of i x hx
  · intro i z q hz hq
    have base : z ∈ laidL l k t i → (i : Int) ∈ updN F j (F j ++ [(k : Int)]) q := fun hz => by
      have := h.to i z q hz hq
      unfold updN; split
      · rename_i e; subst e; exact List.mem_append_left _ this
      · exact this
    unfold laidL at hz
    split at hz
    · rename_i hi; exact base (by unfold laidL; rw [if_pos hi]; exact hz)
    · split at hz
      · rename_i hi e; subst e
        rw [take_snocI _ _ ht] at hz
        rcases List.mem_append.1 hz with hz | hz
        · exact base (by unfold laidL; rw [if_neg hi, if_pos rfl]; exact hz)
        · simp only [List.mem_singleton] at hz
          rw [hy] at hz; subst hz
          rw [hj] at hq
          have hq2 : j = q := by simp at hq; omega
          subst hq2
          unfold updN; simp
      · cases hz
  · intro i
    unfold updN; split
    · have := h.len j; simp; omega
    · have := h.len i; omega
theorem FI.next {l : List St} {f : Int → Option Int} {k t : Nat} {F : Nat → List Int} (h : FI l f k t F) (ht : (leadsL (sAt l k)).length = t) : FI l f (k + 1) 0 F := by
  have h2 := leads_len (sAt l k)
  refine ⟨h.of, fun i y j hy hj => h.to i y j ?_ hj, fun j => by have := h.len j; omega⟩
  unfold laidL at hy ⊢
  by_cases e : i < k
  · rw [if_pos e]; rw [if_pos (by omega)] at hy; exact hy
  · by_cases e2 : i = k
    · subst e2; rw [if_pos (by omega)] at hy; rw [if_neg e, if_pos rfl, List.take_of_length_le (by omega)]; exact hy
    · rw [if_neg (by omega)] at hy
      split at hy
      · simp at hy
      · cases hy
/-- The states that are told, and their marks. -/
structure TI (l : List St) (T : List Int) (e : Nat → Bool) : Prop where
  sound : ∀ x ∈ T, ∃ i : Nat, i < l.length ∧ x = i ∧ Ends l (sAt l i).id
  nodup : T.Nodup
  marks : ∀ i : Nat, e i = true ↔ (i : Int) ∈ T
theorem TI.none_ (l : List St) : TI l [] (fun _ => false) := ⟨fun _ h => (by cases h), List.nodup_nil, fun i => (by simp)⟩
theorem TI.tell {l : List St} {T : List Int} {e : Nat → Bool} (h : TI l T e) {i : Nat} (hi : i < l.length) (he : Ends l (sAt l i).id) (hn : e i = false) : TI l (T ++ [(i : Int)]) (updN e i true) := by
  have hni : (i : Int) ∉ T := fun hm => by rw [(h.marks i).2 hm] at hn; cases hn
  constructor
  · intro x hx
    rcases List.mem_append.1 hx with hx | hx
    · exact h.sound x hx
    · simp at hx; exact ⟨i, hi, hx, he⟩
  · rw [List.nodup_append]
    refine ⟨h.nodup, by simp, fun a ha b hb => ?_⟩
    simp at hb; subst hb
    intro e2; subst e2; exact hni ha
  · intro j
    unfold updN
    split
    · rename_i e2; subst e2; simp
    · rename_i e2
      rw [h.marks j]
      constructor
      · intro hm; exact List.mem_append_left _ hm
      · intro hm
        rcases List.mem_append.1 hm with hm | hm
        · exact hm
        · simp at hm; omega
theorem nodup_bound : ∀ (n : Nat) (T : List Int), T.Nodup → (∀ x ∈ T, ∃ i : Nat, i < n ∧ x = (i : Int)) → T.length ≤ n
  | 0, T, _, h => by
    cases T with
    | nil => simp
    | cons x T => obtain ⟨i, hi, _⟩ := h x List.mem_cons_self; omega
  | n + 1, T, hn, h => by
    have h2 := nodup_bound n (T.erase (n : Int)) (hn.erase _) (fun x hx => by
      have hm := List.mem_of_mem_erase hx
      obtain ⟨i, hi, rfl⟩ := h x hm
      have : (i : Int) ≠ (n : Int) := fun e => by rw [e] at hx; exact (List.Nodup.not_mem_erase hn) hx
      exact ⟨i, by omega, rfl⟩)
    rw [List.length_erase] at h2
    split at h2 <;> omega
theorem TI.bound {l : List St} {T : List Int} {e : Nat → Bool} (h : TI l T e) : T.length ≤ l.length :=
  nodup_bound l.length T h.nodup fun x hx => by obtain ⟨i, hi, h1, _⟩ := h.sound x hx; exact ⟨i, hi, h1⟩
/-- The first k ends are told. -/
def Zs (l : List St) (k : Nat) (T : List Int) : Prop := ∀ i : Nat, i < k → (sAt l i).kind = 90 → (i : Int) ∈ T
/-- .. and no other so far, so that the next isn't. -/
def Und (k : Nat) (T : List Int) : Prop := ∀ x ∈ T, x < (k : Int)
/-- The first q of those that lead to the first told ones are told. -/
def Shut (F : Nat → List Int) (T : List Int) (a q : Nat) : Prop :=
  (∀ b, b < a → ∀ x ∈ F (T.getD b 0).toNat, x ∈ T) ∧ ∀ p, p < q → (F (T.getD a 0).toNat).getD p 0 ∈ T
theorem Shut.none_ (F : Nat → List Int) (T : List Int) : Shut F T 0 0 := ⟨fun _ h => by omega, fun _ h => by omega⟩
theorem getD_app {T : List Int} {b : Nat} (h : b < T.length) (x : Int) : (T ++ [x]).getD b 0 = T.getD b 0 := by
  simp [List.getElem?_append_left h]
theorem Shut.tell {F : Nat → List Int} {T : List Int} {a q : Nat} (h : Shut F T a q) (ha : a < T.length) (x : Int) : Shut F (T ++ [x]) a q := by
  constructor
  · intro b hb y hy
    rw [getD_app (by omega)] at hy
    exact List.mem_append_left _ (h.1 b hb y hy)
  · intro p hp
    rw [getD_app ha]
    exact List.mem_append_left _ (h.2 p hp)
theorem Shut.more {F : Nat → List Int} {T : List Int} {a q : Nat} (h : Shut F T a q) (hx : (F (T.getD a 0).toNat).getD q 0 ∈ T) : Shut F T a (q + 1) :=
  ⟨h.1, fun p hp => by
    rcases Nat.lt_or_ge p q with h2 | h2
    · exact h.2 p h2
    · have : p = q := by omega
      subst this; exact hx⟩
theorem Shut.next {F : Nat → List Int} {T : List Int} {a q : Nat} (h : Shut F T a q) (hq : (F (T.getD a 0).toNat).length = q) : Shut F T (a + 1) 0 := by
  refine ⟨fun b hb x hx => ?_, fun _ h => by omega⟩
  rcases Nat.lt_or_ge b a with h2 | h2
  · exact h.1 b h2 x hx
  · have : b = a := by omega
    subst this
    obtain ⟨p, hp, e⟩ := List.mem_iff_getElem.1 hx
    have := h.2 p (by omega)
    rw [show (F (T.getD b 0).toNat).getD p 0 = x by rw [List.getD_eq_getElem?_getD, List.getElem?_eq_getElem hp, e]; rfl] at this
    exact this
/-- What it comes to. -/
theorem marks_end {l : List St} {f : Int → Option Int} {F : Nat → List Int} {T : List Int} {e : Nat → Bool} (ho : Once l) (hp : PF l l.length f) (hf : FI l f l.length 0 F) (ht : TI l T e) (hz : Zs l l.length T) (hs : Shut F T T.length 0)
    (i : Nat) (hi : i < l.length) : e i = endF l (sAt l i).id := by
  have lead : ∀ i j : Nat, i < l.length → (j : Int) ∈ T → ∀ y, y ∈ leadsL (sAt l i) → f y = some (j : Int) → (i : Int) ∈ T := by
    intro i j hi hj y hy hfy
    have h1 := hf.to i y j (by unfold laidL; rw [if_pos hi]; exact hy) hfy
    obtain ⟨b, hb, eb⟩ := List.mem_iff_getElem.1 hj
    refine hs.1 b hb _ ?_
    rw [show T.getD b 0 = (j : Int) by simp [hb, eb]]
    exact h1
  have all : ∀ x, Ends l x → ∀ i : Nat, i < l.length → (sAt l i).id = x → (i : Int) ∈ T := by
    intro x hx
    induction hx with
    | z hsm hk =>
      intro i hi ei
      obtain ⟨j, hj, rfl⟩ := mem_sAt hsm
      have := ho i j hi hj ei
      subst this
      exact hz i hi hk
    | n hsm hn ih =>
      intro i hi ei
      obtain ⟨j, hj, rfl⟩ := mem_sAt hsm
      have := ho i j hi hj ei
      subst this
      by_cases h9 : (sAt l i).kind = 90
      · exact hz i hi h9
      · have hy : (sAt l i).next ∈ leadsL (sAt l i) := by unfold leadsL; rw [if_neg h9]; split <;> simp
        obtain ⟨m, hm⟩ : ∃ m : Nat, m < l.length ∧ (sAt l m).id = (sAt l i).next := by
          generalize (sAt l i).next = y at hn
          cases hn with
          | z h _ => obtain ⟨m, hm, rfl⟩ := mem_sAt h; exact ⟨m, hm, rfl⟩
          | n h _ => obtain ⟨m, hm, rfl⟩ := mem_sAt h; exact ⟨m, hm, rfl⟩
          | o h _ _ => obtain ⟨m, hm, rfl⟩ := mem_sAt h; exact ⟨m, hm, rfl⟩
        exact lead i m hi (ih m hm.1 hm.2) _ hy (by rw [← hm.2]; exact hp.to m hm.1)
    | o hsm h2 hn ih =>
      intro i hi ei
      obtain ⟨j, hj, rfl⟩ := mem_sAt hsm
      have := ho i j hi hj ei
      subst this
      have h9 : ¬ (sAt l i).kind = 90 := fun e => by rw [e] at h2; simp [twoB] at h2
      have hy : (sAt l i).other ∈ leadsL (sAt l i) := by unfold leadsL; rw [if_neg h9, if_pos h2]; simp
      obtain ⟨m, hm⟩ : ∃ m : Nat, m < l.length ∧ (sAt l m).id = (sAt l i).other := by
        generalize (sAt l i).other = y at hn
        cases hn with
        | z h _ => obtain ⟨m, hm, rfl⟩ := mem_sAt h; exact ⟨m, hm, rfl⟩
        | n h _ => obtain ⟨m, hm, rfl⟩ := mem_sAt h; exact ⟨m, hm, rfl⟩
        | o h _ _ => obtain ⟨m, hm, rfl⟩ := mem_sAt h; exact ⟨m, hm, rfl⟩
      exact lead i m hi (ih m hm.1 hm.2) _ hy (by rw [← hm.2]; exact hp.to m hm.1)
  rw [Bool.eq_iff_iff, ht.marks, endF_iff]
  constructor
  · intro hm
    obtain ⟨j, _, e1, e2⟩ := ht.sound _ hm
    have : i = j := by omega
    subst this; exact e2
  · intro he; exact all _ he i hi rfl
/-- Of one that leads to a told one. -/
theorem ends_lead {l : List St} {f : Int → Option Int} (hp : PF l l.length f) {i j : Nat} {y : Int} (hi : i < l.length) (hy : y ∈ leadsL (sAt l i)) (hf : f y = some (j : Int)) (hj : Ends l (sAt l j).id) : Ends l (sAt l i).id := by
  obtain ⟨m, _, e1, e2⟩ := hp.of y _ hf
  have : j = m := by omega
  subst this
  rw [e2] at hj
  unfold leadsL at hy
  split at hy
  · cases hy
  · split at hy
    · rename_i h2
      simp at hy
      rcases hy with rfl | rfl
      · exact .n (sAt_mem hi) hj
      · exact .o (sAt_mem hi) h2 hj
    · simp at hy; subst hy; exact .n (sAt_mem hi) hj
end Go.Proofs.Ythhgochnlbiaaaa
