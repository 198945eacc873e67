/- Tables as lists of states: which is right, and where one isn't; which states have a way to an end, told by rounds and told backwards. No function is walked. -/
import Derived.Test.YtnahbfnchopghaaWide
namespace Go.Proofs.Ytnahbfnchopghaa

def sAt (l : List St) (i : Nat) : St := l.getD i St.zero
theorem sAt_mem {l : List St} {i : Nat} (h : i < l.length) : sAt l i ∈ l := by
  have : sAt l i = l[i] := by simp [sAt, h]
  rw [this]; exact List.getElem_mem h
theorem sAt_get {l : List St} {i : Nat} (h : i < l.length) : l[i]? = some (sAt l i) := by simp [sAt, h]
theorem mem_sAt {l : List St} {s : St} (h : s ∈ l) : ∃ i, i < l.length ∧ sAt l i = s := by
  obtain ⟨i, hi, e⟩ := List.mem_iff_getElem.1 h
  exact ⟨i, hi, by simp [sAt, hi, e]⟩
/-- Has a state two ways on? -/
def twoB (k : Int) : Bool := k == 66 || k == 68 || k == 69
def leadsL (s : St) : List Int := if s.kind = 90 then [] else if twoB s.kind = true then [s.next, s.other] else [s.next]
theorem leads_len (s : St) : (leadsL s).length ≤ 2 := by unfold leadsL; split <;> (try split) <;> simp
/-- The first place below n at which p holds. -/
def firstT (p : Nat → Bool) (n : Nat) : Option Nat := (List.range n).find? p
theorem firstT_some {p : Nat → Bool} {n i : Nat} (hi : i < n) (hp : p i = true) (hb : ∀ k, k < i → p k = false) : firstT p n = some i := by
  unfold firstT
  rw [List.find?_range_eq_some]
  exact ⟨hp, by simpa using hi, fun j hj => by simp [hb j hj]⟩
theorem firstT_none {p : Nat → Bool} {n : Nat} (hb : ∀ k, k < n → p k = false) : firstT p n = none := by
  unfold firstT
  rw [List.find?_eq_none]
  intro x hx
  rw [hb x (by simpa using hx)]; simp
theorem firstT_some_iff {p : Nat → Bool} {n i : Nat} (h : firstT p n = some i) : i < n ∧ p i = true := by
  unfold firstT at h
  exact ⟨by have := List.mem_of_find?_eq_some h; simpa using this, List.find?_some h⟩
theorem firstT_none_iff {p : Nat → Bool} {n : Nat} (h : firstT p n = none) : ∀ k, k < n → p k = false := by
  intro k hk
  unfold firstT at h
  rw [List.find?_eq_none] at h
  have := h k (by simpa using hk)
  simpa using this
/-- Does an earlier state bear this one's number? -/
def dupB (l : List St) (i : Nat) : Bool := (l.take i).any fun s => s.id == (sAt l i).id
theorem dup_iff {l : List St} {i : Nat} (hi : i ≤ l.length) : dupB l i = true ↔ ∃ k, k < i ∧ (sAt l k).id = (sAt l i).id := by
  unfold dupB
  rw [List.any_eq_true]
  constructor
  · rintro ⟨s, hs, e⟩
    obtain ⟨k, hk, ek⟩ := List.mem_iff_getElem.1 hs
    rw [List.length_take] at hk
    rw [List.getElem_take] at ek
    have hk2 : k < l.length := by omega
    refine ⟨k, by omega, ?_⟩
    have : sAt l k = s := by simp [sAt, hk2, ek]
    rw [this]; simpa using e
  · rintro ⟨k, hk, e⟩
    have hk2 : k < l.length := by omega
    refine ⟨sAt l k, ?_, by simpa using e⟩
    apply List.mem_iff_getElem.2
    exact ⟨k, by rw [List.length_take]; omega, by rw [List.getElem_take]; simp [sAt, hk2]⟩
theorem dup_false {l : List St} {i : Nat} (hi : i ≤ l.length) (h : ∀ k, k < i → (sAt l k).id ≠ (sAt l i).id) : dupB l i = false := by
  cases e : dupB l i with
  | false => rfl
  | true => obtain ⟨k, hk, e2⟩ := (dup_iff hi).1 e; exact absurd e2 (h k hk)
def hasId (l : List St) (x : Int) : Bool := l.any fun s => s.id == x
theorem has_iff {l : List St} {x : Int} : hasId l x = true ↔ ∃ k, k < l.length ∧ (sAt l k).id = x := by
  unfold hasId
  rw [List.any_eq_true]
  constructor
  · rintro ⟨s, hs, e⟩
    obtain ⟨k, hk, rfl⟩ := mem_sAt hs
    exact ⟨k, hk, by simpa using e⟩
  · rintro ⟨k, hk, e⟩; exact ⟨_, sAt_mem hk, by simpa using e⟩
/-- Does a state lead to none? -/
def noneB (l : List St) (i : Nat) : Bool := (leadsL (sAt l i)).any fun x => !hasId l x
theorem none_ref (l : List St) (i : Nat) : noneB l i = (((sAt l i).kind != 90) && !hasId l (sAt l i).next || twoB (sAt l i).kind && !hasId l (sAt l i).other) := by
  unfold noneB leadsL
  by_cases h : (sAt l i).kind = 90
  · rw [if_pos h, h]; simp [twoB]
  · rw [if_neg h]
    have hk : ((sAt l i).kind != 90) = true := by simp [h]
    rw [hk]
    by_cases h2 : twoB (sAt l i).kind = true
    · rw [if_pos h2, h2]; simp
    · rw [if_neg h2]; simp only [Bool.not_eq_true] at h2; rw [h2]; simp
/-- One state of a round. -/
def condE (f : Int → Bool) (s : St) : Bool := s.kind == 90 || f s.next || twoB s.kind && f s.other
def stepE (f : Int → Bool) (s : St) : Int → Bool := if condE f s = true then (fun x => if x = s.id then true else f x) else f
def roundE (l : List St) (f : Int → Bool) : Int → Bool := l.foldl stepE f
def roundsE (l : List St) : Nat → (Int → Bool)
  | 0 => fun _ => false
  | k + 1 => roundE l (roundsE l k)
def endF (l : List St) : Int → Bool := roundsE l (l.length + 1)
/-- From this number there is a way to an end. -/
inductive Ends (l : List St) : Int → Prop where
  | z {s : St} : s ∈ l → s.kind = 90 → Ends l s.id
  | n {s : St} : s ∈ l → Ends l s.next → Ends l s.id
  | o {s : St} : s ∈ l → twoB s.kind = true → Ends l s.other → Ends l s.id
theorem stepE_ge (f : Int → Bool) (s : St) (x : Int) (h : f x = true) : stepE f s x = true := by
  unfold stepE; split
  · simp [h]
  · exact h
theorem foldE_ge : ∀ (l : List St) (f : Int → Bool) (x : Int), f x = true → l.foldl stepE f x = true
  | [], _, _, h => h
  | s :: l, f, x, h => foldE_ge l _ x (stepE_ge f s x h)
theorem stepE_sound {L : List St} {f : Int → Bool} {s : St} (hs : s ∈ L) (hf : ∀ x, f x = true → Ends L x) : ∀ x, stepE f s x = true → Ends L x := by
  intro x
  unfold stepE
  split
  · rename_i hc
    by_cases e : x = s.id
    · intro _
      subst e
      unfold condE at hc
      simp only [Bool.or_eq_true, Bool.and_eq_true, beq_iff_eq] at hc
      rcases hc with (h | h) | ⟨h, h2⟩
      · exact .z hs h
      · exact .n hs (hf _ h)
      · exact .o hs h (hf _ h2)
    · simp only [e, if_false]; exact hf x
  · exact hf x
theorem foldE_sound {L : List St} : ∀ (l : List St) (f : Int → Bool), (∀ s ∈ l, s ∈ L) → (∀ x, f x = true → Ends L x) → ∀ x, l.foldl stepE f x = true → Ends L x
  | [], _, _, hf => hf
  | s :: l, _, hl, hf => foldE_sound l _ (fun r hr => hl r (List.mem_cons_of_mem _ hr)) (stepE_sound (hl s List.mem_cons_self) hf)
theorem roundsE_sound (l : List St) : ∀ k x, roundsE l k x = true → Ends l x
  | 0, _, h => by simp [roundsE] at h
  | k + 1, x, h => foldE_sound l _ (fun _ h => h) (roundsE_sound l k) x h
/-- How many of the places are told already. -/
def cntE (l : List St) (f : Int → Bool) : Nat := l.countP fun s => f s.id
theorem cntE_le (l : List St) (f : Int → Bool) : cntE l f ≤ l.length := List.countP_le_length
theorem cntE_mono {l : List St} {f g : Int → Bool} (h : ∀ x, f x = true → g x = true) : cntE l f ≤ cntE l g := List.countP_mono_left fun _ _ hs => h _ hs
theorem cntE_lt : ∀ {l : List St} {f g : Int → Bool} {s : St}, (∀ x, f x = true → g x = true) → s ∈ l → f s.id = false → g s.id = true → cntE l f < cntE l g
  | r :: l, f, g, s, h, hs, h0, h1 => by
    unfold cntE
    rw [List.countP_cons, List.countP_cons]
    have hm : l.countP (fun s => f s.id) ≤ l.countP (fun s => g s.id) := cntE_mono h
    rcases List.mem_cons.1 hs with rfl | hs
    · simp only [h0, h1]; simp; omega
    · have := cntE_lt (l := l) h hs h0 h1
      unfold cntE at this
      cases e : f r.id with
      | true => simp only [h _ e, if_true]; omega
      | false => cases e2 : g r.id <;> simp <;> omega
/-- Nothing more can be told. -/
def Fix (l : List St) (f : Int → Bool) : Prop := ∀ s ∈ l, condE f s = true → f s.id = true
theorem stepE_same {f : Int → Bool} {s : St} (h : condE f s = true → f s.id = true) : stepE f s = f := by
  unfold stepE
  split
  · rename_i hc
    funext x
    by_cases e : x = s.id
    · subst e; simp [h hc]
    · simp [e]
  · rfl
theorem fold_fix : ∀ (l : List St) (f : Int → Bool), Fix l f → l.foldl stepE f = f
  | [], _, _ => rfl
  | s :: l, f, h => by
    have e := stepE_same (h s List.mem_cons_self)
    rw [List.foldl_cons, e]
    exact fold_fix l f fun r hr => h r (List.mem_cons_of_mem _ hr)
/-- A round that tells nothing new: no more is to be told. -/
theorem condE_mono {f g : Int → Bool} {s : St} (h : ∀ x, f x = true → g x = true) (hc : condE f s = true) : condE g s = true := by
  unfold condE at hc ⊢
  simp only [Bool.or_eq_true, Bool.and_eq_true, beq_iff_eq] at hc ⊢
  rcases hc with (h1 | h1) | ⟨h1, h2⟩
  · exact .inl (.inl h1)
  · exact .inl (.inr (h _ h1))
  · exact .inr ⟨h1, h _ h2⟩
theorem fold_has : ∀ (l : List St) (f : Int → Bool) (s : St), s ∈ l → condE f s = true → l.foldl stepE f s.id = true
  | r :: l, f, s, hs, hc => by
    rw [List.foldl_cons]
    rcases List.mem_cons.1 hs with rfl | hs
    · apply foldE_ge; unfold stepE; rw [if_pos hc]; simp
    · exact fold_has l _ s hs (condE_mono (fun x h => stepE_ge f r x h) hc)
theorem round_dich (l : List St) (f : Int → Bool) : Fix l f ∨ cntE l f < cntE l (roundE l f) := by
  by_cases h : Fix l f
  · exact .inl h
  · right
    simp only [Fix, Classical.not_forall] at h
    obtain ⟨s, hs, hc, hn⟩ := h
    exact cntE_lt (s := s) (fun x h => foldE_ge l f x h) hs (by simpa using hn) (fold_has l f s hs hc)
theorem rounds_dich (l : List St) : ∀ k, Fix l (roundsE l k) ∨ k ≤ cntE l (roundsE l k)
  | 0 => .inr (Nat.zero_le _)
  | k + 1 => by
    have e : roundsE l (k + 1) = roundE l (roundsE l k) := rfl
    rcases rounds_dich l k with h | h
    · left; rw [e, roundE, fold_fix l _ h]; exact h
    · rcases round_dich l (roundsE l k) with h2 | h2
      · left; rw [e, roundE, fold_fix l _ h2]; exact h2
      · right; rw [e]; omega
theorem endF_fix (l : List St) : Fix l (endF l) := by
  rcases rounds_dich l (l.length + 1) with h | h
  · exact h
  · have := cntE_le l (roundsE l (l.length + 1)); omega
theorem ends_endF {l : List St} {x : Int} (h : Ends l x) : endF l x = true := by
  have hf := endF_fix l
  induction h with
  | z hs hk => exact hf _ hs (by simp [condE, hk])
  | n hs _ ih => exact hf _ hs (by simp [condE, ih])
  | o hs h2 _ ih => exact hf _ hs (by simp [condE, ih, h2])
theorem endF_iff (l : List St) (x : Int) : endF l x = true ↔ Ends l x := ⟨roundsE_sound l _ x, ends_endF⟩
/-- What Check says. -/
def checkL (l : List St) : Int × Int :=
  match firstT (dupB l) l.length with
  | some i => (i, 31)
  | none => match firstT (noneB l) l.length with
    | some i => (i, 32)
    | none => match firstT (fun i => !endF l (sAt l i).id) l.length with
      | some i => (i, 30)
      | none => (0, 0)
theorem check_dup {l : List St} {i : Nat} (hi : i < l.length) (hp : dupB l i = true) (hb : ∀ k, k < i → dupB l k = false) : checkL l = ((i : Int), 31) := by
  unfold checkL; rw [firstT_some hi hp hb]
theorem check_none {l : List St} {i : Nat} (h0 : ∀ k, k < l.length → dupB l k = false) (hi : i < l.length) (hp : noneB l i = true) (hb : ∀ k, k < i → noneB l k = false) : checkL l = ((i : Int), 32) := by
  unfold checkL; rw [firstT_none h0]; simp only; rw [firstT_some hi hp hb]
theorem check_state {l : List St} {i : Nat} (h0 : ∀ k, k < l.length → dupB l k = false) (h1 : ∀ k, k < l.length → noneB l k = false) (hi : i < l.length) (hp : endF l (sAt l i).id = false) (hb : ∀ k, k < i → endF l (sAt l k).id = true) : checkL l = ((i : Int), 30) := by
  unfold checkL; rw [firstT_none h0]; simp only; rw [firstT_none h1]; simp only
  rw [firstT_some hi (by simp [hp]) (fun k hk => by simp [hb k hk])]
theorem check_ok {l : List St} (h0 : ∀ k, k < l.length → dupB l k = false) (h1 : ∀ k, k < l.length → noneB l k = false) (h2 : ∀ k, k < l.length → endF l (sAt l k).id = true) : checkL l = (0, 0) := by
  unfold checkL; rw [firstT_none h0]; simp only; rw [firstT_none h1]; simp only
  rw [firstT_none (fun k hk => by simp [h2 k hk])]
theorem checkL_ok {l : List St} (h : (checkL l).2 = 0) : (∀ k, k < l.length → dupB l k = false) ∧ (∀ k, k < l.length → noneB l k = false) ∧ ∀ k, k < l.length → endF l (sAt l k).id = true := by
  unfold checkL at h
  split at h
  · simp at h
  · rename_i h0
    split at h
    · simp at h
    · rename_i h1
      split at h
      · simp at h
      · rename_i h2
        refine ⟨firstT_none_iff h0, firstT_none_iff h1, fun k hk => ?_⟩
        have := firstT_none_iff h2 k hk
        simpa using this
/-- Find: the first state of that number. -/
def findL (l : List St) (x : Int) : St := (l.find? fun s => s.id == x).getD St.zero
def foundL (l : List St) (x : Int) : Bool := hasId l x
theorem find_at {l : List St} {i : Nat} {x : Int} (hi : i < l.length) (he : (sAt l i).id = x) (hb : ∀ k, k < i → (sAt l k).id ≠ x) : findL l x = sAt l i ∧ foundL l x = true := by
  refine ⟨?_, has_iff.2 ⟨i, hi, he⟩⟩
  unfold findL
  have : l.find? (fun s => s.id == x) = some (sAt l i) := by
    rw [List.find?_eq_some_iff_append]
    refine ⟨by simpa using he, l.take i, l.drop (i + 1), ?_, fun s hs => ?_⟩
    · have hg : sAt l i = l[i] := by simp [sAt, hi]
      rw [hg]; simp
    · obtain ⟨k, hk, ek⟩ := List.mem_iff_getElem.1 hs
      rw [List.length_take] at hk
      rw [List.getElem_take] at ek
      have hk2 : k < l.length := by omega
      have : sAt l k = s := by simp [sAt, hk2, ek]
      have := hb k (by omega)
      simp_all
  rw [this]; rfl
theorem find_no {l : List St} {x : Int} (hb : ∀ k, k < l.length → (sAt l k).id ≠ x) : findL l x = St.zero ∧ foundL l x = false := by
  constructor
  · unfold findL
    have : l.find? (fun s => s.id == x) = none := by
      rw [List.find?_eq_none]
      intro s hs
      obtain ⟨k, hk, rfl⟩ := mem_sAt hs
      simpa using hb k hk
    rw [this]; rfl
  · cases e : foundL l x with
    | false => rfl
    | true => obtain ⟨k, hk, e2⟩ := has_iff.1 e; exact absurd e2 (hb k hk)
end Go.Proofs.Ytnahbfnchopghaa
