/- Walking through a table by as many rounds as it has states: a right one lets one come to an end. No function is walked. -/
import Derived.Test.YthhgochnlbiaaaaPure
namespace Go.Proofs.Ythhgochnlbiaaaa

/-- One state of a round: where a walk may be behind it. -/
def stepW (now next : Int → Bool) (s : St) : Int → Bool :=
  if now s.id = true then (fun x => if x = s.id ∨ x = s.next ∨ (twoB s.kind = true ∧ x = s.other) then true else next x) else next
def roundW (l : List St) (now : Int → Bool) : Int → Bool := l.foldl (stepW now) (fun _ => false)
def waysW (l : List St) (x : Int) : Nat → (Int → Bool)
  | 0 => fun y => decide (y = x)
  | k + 1 => roundW l (waysW l x k)
theorem stepW_ge (now f : Int → Bool) (s : St) (x : Int) (h : f x = true) : stepW now f s x = true := by
  unfold stepW; split
  · simp [h]
  · exact h
theorem foldW_ge (now : Int → Bool) : ∀ (l : List St) (f : Int → Bool) (x : Int), f x = true → l.foldl (stepW now) f x = true
  | [], _, _, h => h
  | s :: l, f, x, h => foldW_ge now l _ x (stepW_ge now f s x h)
theorem foldW_has (now : Int → Bool) : ∀ (l : List St) (f : Int → Bool) (s : St) (x : Int), s ∈ l → now s.id = true → (x = s.id ∨ x = s.next ∨ (twoB s.kind = true ∧ x = s.other)) → l.foldl (stepW now) f x = true
  | r :: l, f, s, x, hs, hn, hx => by
    rw [List.foldl_cons]
    rcases List.mem_cons.1 hs with rfl | hs
    · apply foldW_ge; unfold stepW; rw [if_pos hn]; simp only [if_pos hx]
    · exact foldW_has now l _ s x hs hn hx
theorem foldW_only (now : Int → Bool) : ∀ (l : List St) (f : Int → Bool) (x : Int), l.foldl (stepW now) f x = true → f x = true ∨ ∃ s ∈ l, now s.id = true ∧ (x = s.id ∨ x = s.next ∨ (twoB s.kind = true ∧ x = s.other))
  | [], _, _, h => .inl h
  | r :: l, f, x, h => by
    rw [List.foldl_cons] at h
    rcases foldW_only now l _ x h with h | ⟨s, hs, h⟩
    · unfold stepW at h
      split at h
      · rename_i hn
        by_cases hx : x = r.id ∨ x = r.next ∨ (twoB r.kind = true ∧ x = r.other)
        · exact .inr ⟨r, List.mem_cons_self, hn, hx⟩
        · simp only [if_neg hx] at h; exact .inl h
      · exact .inl h
    · exact .inr ⟨s, List.mem_cons_of_mem _ hs, h⟩
section
variable {l : List St} {x : Int}
/-- No end is among the states where a walk may be at round j. -/
def NoEnd (l : List St) (f : Int → Bool) : Prop := ∀ s ∈ l, f s.id = true → s.kind ≠ 90
theorem lead_has {s : St} {y : Int} (hn : ∀ k, k < l.length → noneB l k = false) (hs : s ∈ l) (hz : s.kind ≠ 90) (hy : y = s.next ∨ (twoB s.kind = true ∧ y = s.other)) : hasId l y = true := by
  obtain ⟨i, hi, rfl⟩ := mem_sAt hs
  have := hn i hi
  unfold noneB at this
  rw [List.any_eq_false] at this
  have hm : y ∈ leadsL (sAt l i) := by
    unfold leadsL
    rw [if_neg hz]
    rcases hy with rfl | ⟨h2, rfl⟩
    · split <;> simp
    · rw [if_pos h2]; simp
  have := this y hm
  simpa using this
/-- All numbers where a walk may be are numbers of states. -/
theorem ways_in (hn : ∀ k, k < l.length → noneB l k = false) (hx : hasId l x = true) : ∀ i, (∀ j, j < i → NoEnd l (waysW l x j)) → ∀ y, waysW l x i y = true → hasId l y = true
  | 0, _, y, h => by have : y = x := by simpa [waysW] using h
                     rw [this]; exact hx
  | i + 1, hj, y, h => by
    rcases foldW_only _ l _ y h with h | ⟨s, hs, hns, h⟩
    · cases h
    · rcases h with rfl | h
      · obtain ⟨k, hk, e⟩ := mem_sAt hs
        exact has_iff.2 ⟨k, hk, by rw [e]⟩
      · exact lead_has hn hs (hj i (by omega) s hs hns) h
theorem ways_ge (hn : ∀ k, k < l.length → noneB l k = false) (hx : hasId l x = true) (i : Nat) (hj : ∀ j, j < i → NoEnd l (waysW l x j)) (y : Int) (h : waysW l x i y = true) : waysW l x (i + 1) y = true := by
  obtain ⟨k, hk, e⟩ := has_iff.1 (ways_in hn hx i hj y h)
  exact foldW_has _ l _ (sAt l k) y (sAt_mem hk) (by rw [e]; exact h) (.inl e.symm)
/-- What leads on from where it may be brings nothing new: then no way to an end. -/
theorem ways_shut {f : Int → Bool} (h : ∀ s ∈ l, f s.id = true → s.kind ≠ 90 ∧ f s.next = true ∧ (twoB s.kind = true → f s.other = true)) {y : Int} (he : Ends l y) : f y = false := by
  induction he with
  | z hs hk => rename_i s
               cases e : f s.id with
               | false => rfl
               | true => exact absurd hk (h s hs e).1
  | n hs _ ih => rename_i s _
                 cases e : f s.id with
                 | false => rfl
                 | true => rw [(h s hs e).2.1] at ih; cases ih
  | o hs h2 _ ih => rename_i s _
                    cases e : f s.id with
                    | false => rfl
                    | true => rw [(h s hs e).2.2 h2] at ih; cases ih
theorem ways_grow (hn : ∀ k, k < l.length → noneB l k = false) (hx : hasId l x = true) (he : Ends l x) : ∀ i, (∀ j, j < i → NoEnd l (waysW l x j)) → i + 1 ≤ cntE l (waysW l x i)
  | 0, _ => by
    obtain ⟨k, hk, e⟩ := has_iff.1 hx
    have : cntE l (fun _ => false) < cntE l (waysW l x 0) := cntE_lt (s := sAt l k) (fun y h => by cases h) (sAt_mem hk) rfl (by simp [waysW, e])
    omega
  | i + 1, hj => by
    have ih := ways_grow hn hx he i (fun j h => hj j (by omega))
    have hge := ways_ge hn hx i (fun j h => hj j (by omega))
    have hin := ways_in hn hx (i + 1) hj
    by_cases hs : ∃ s ∈ l, waysW l x i s.id = false ∧ waysW l x (i + 1) s.id = true
    · obtain ⟨s, hs, h0, h1⟩ := hs
      have := cntE_lt hge hs h0 h1
      omega
    · exfalso
      have hback : ∀ y, waysW l x (i + 1) y = true → waysW l x i y = true := fun y h => by
        obtain ⟨k, hk, e⟩ := has_iff.1 (hin y h)
        cases e2 : waysW l x i y with
        | true => rfl
        | false => exact absurd ⟨sAt l k, sAt_mem hk, by rw [e]; exact e2, by rw [e]; exact h⟩ hs
      have hshut := ways_shut (f := waysW l x i) (fun s hs h => ⟨hj i (by omega) s hs h, hback _ (foldW_has _ l _ s _ hs h (.inr (.inl rfl))), fun h2 => hback _ (foldW_has _ l _ s _ hs h (.inr (.inr ⟨h2, rfl⟩)))⟩) he
      have h0 : ∀ j, j ≤ i → waysW l x j x = true := by
        intro j
        induction j with
        | zero => intro _; simp [waysW]
        | succ j ihj => intro hji; exact ways_ge hn hx j (fun q hq => hj q (by omega)) x (ihj (by omega))
      rw [h0 i (Nat.le_refl _)] at hshut
      cases hshut
/-- Of as many rounds as there are states, one finds an end. -/
theorem ways_end (hc : (checkL l).2 = 0) {k : Nat} (hk : k < l.length) (h : ∀ j, j < l.length + 1 → NoEnd l (waysW l (sAt l k).id j)) : False := by
  obtain ⟨_, hn, he⟩ := checkL_ok hc
  have := ways_grow hn (x := (sAt l k).id) (has_iff.2 ⟨k, hk, rfl⟩) ((endF_iff l _).1 (he k hk)) l.length (fun j hj => h j (by omega))
  have := cntE_le l (waysW l (sAt l k).id l.length)
  omega
end
end Go.Proofs.Ythhgochnlbiaaaa
