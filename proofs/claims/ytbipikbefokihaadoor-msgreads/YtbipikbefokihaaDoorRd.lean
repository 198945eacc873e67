/- Two ways to read parts are one; what is put is read as the same. No function is walked. -/
import Derived.Test.YtbipikbefokihaaDoorMs
namespace Go.Proofs.YtbipikbefokihaaDoor
open Go.ChangeShapes Go.WideShapes Go.ChangeAt Go.RowKit

/-- A number of at most ten signs. -/
def numB10 (s : ByteArray) : Bool := numOk s && (decide (s.size ≤ 10) && !leadB s)
def rdR (f : Int) (ps : List ByteArray) : Bool :=
  if f = 2 then true else ps.all fun s => numB10 s && ((!decide (f = 0) || decide (numV s ≤ 65535)) && (!decide (f = 1) || decide (numV s ≤ 999999)))
def readR (L : List ByteArray) : Option Ms := if okK (kindL (at4 L 0)) = true then (rd rdR (hasK (kindL (at4 L 0))) (L.drop 1) (Ms.of (kindL (at4 L 0)))).filter rightL else none
theorem num_ge (n : Nat) : ∀ (l : List UInt8), l.length = n + 1 → digB l = true → ¬ l.getD 0 0 = 48 → (10 : Int) ^ n ≤ numD l := by
  induction n with
  | zero =>
    intro l hl hd h0
    match l, hl with
    | [c], _ =>
      have h0' : ¬ c = 48 := by simpa using h0
      have := (dig_split (l := []) (c := c) hd).2
      have e : numD [c] = (c.toNat : Int) - 48 := by simp [numD]
      rw [e]
      have : c.toNat ≠ 48 := fun h => h0' (UInt8.toNat_inj.1 h)
      simp; omega
  | succ n ih =>
    intro l hl hd h0
    have hne : l ≠ [] := by intro e; subst e; simp at hl
    obtain ⟨m, c, rfl⟩ : ∃ m c, l = m ++ [c] := ⟨l.dropLast, l.getLast hne, (List.dropLast_concat_getLast hne).symm⟩
    obtain ⟨h1, h2, h3⟩ := dig_split hd
    have hm : m.length = n + 1 := by simpa using hl
    have := ih m hm h1 (by
      match m, hm with
      | a :: r, _ => simpa using h0)
    rw [numD_snoc, Int.pow_succ]
    omega
theorem numV_pos (s : ByteArray) : 0 ≤ numV s := by
  unfold numV
  split
  · rename_i h
    simp [numOk] at h
    exact (numD_bd _ _ rfl h.2).1
  · omega
theorem ten_size {s : ByteArray} {hi : Int} (h : numOk s = true) (hl : leadB s = false) (hv : numV s ≤ hi) (hh : hi ≤ 2147483647) : s.size ≤ 10 := by
  by_cases h10 : s.size ≤ 10
  · exact h10
  exfalso
  have hd : digB s.data.toList = true := by simp [numOk] at h; exact h.2
  have h0 : ¬ s.data.toList.getD 0 0 = 48 := by
    intro e
    unfold leadB at hl
    rw [e, decide_eq_true (by omega)] at hl
    simp at hl
  obtain ⟨n, hn⟩ : ∃ n, s.size = n + 11 := ⟨s.size - 11, by omega⟩
  have := num_ge (n + 10) s.data.toList (by have : s.data.toList.length = s.size := by simp
                                            omega) hd h0
  have hp : (10000000000 : Int) ≤ 10 ^ (n + 10) := by
    rw [show (10000000000 : Int) = 10 ^ 10 from rfl]
    have := Nat.pow_le_pow_right (n := 10) (by decide) (show 10 ≤ n + 10 by omega)
    exact_mod_cast this
  unfold numV at hv
  rw [if_pos h] at hv
  omega
theorem num_split {hi : Int} (s : ByteArray) (hh : hi ≤ 2147483647) : numB hi s = (numB10 s && inB hi (numV s)) := by
  have hp := numV_pos s
  unfold numB numB10 inB
  cases h : numOk s
  · simp
  · cases hl : leadB s
    · by_cases hv : numV s ≤ hi
      · have := ten_size h hl hv hh
        simp [hv, this, hp]
      · simp [hv]
    · simp
theorem most_le (f : Int) : mostF f ≤ 2147483647 := by
  unfold mostF
  repeat' split
  all_goals omega
theorem rd_split {m : Ms} {f : Int} {ps : List ByteArray} (hf : f ∈ tenF) (hl : ps.length = cntF f) : rdF f ps = (rdR f ps && rightF (setF m f ps) f) := by
  by_cases h2 : f = 2
  · subst h2; unfold rdF rdR rightF; simp [set_pan2]
  · unfold rdF rdR rightF
    rw [if_neg h2, if_neg h2, if_neg h2, set_same hf h2 hl, Bool.eq_iff_iff]
    simp only [List.all_eq_true, Bool.and_eq_true, List.all_map, Function.comp]
    constructor
    · intro h
      refine ⟨fun s hs => ?_, fun s hs => ?_⟩
      · have := h s hs
        rw [num_split s (most_le f), Bool.and_eq_true] at this
        refine ⟨this.1, ?_, ?_⟩
        · by_cases e : f = 0
          · subst e; have := this.2; simp [inB, mostF] at this; simp [this.2]
          · simp [e]
        · by_cases e : f = 1
          · subst e; have := this.2; simp [inB, mostF] at this; simp [this.2]
          · simp [e]
      · have := h s hs
        rw [num_split s (most_le f), Bool.and_eq_true] at this
        exact this.2
    · intro h s hs
      rw [num_split s (most_le f), Bool.and_eq_true]
      exact ⟨(h.1 s hs).1, h.2 s hs⟩
theorem right_other {m : Ms} {f g : Int} (ps : List ByteArray) (hf : f ∈ tenF) (hg : g ∈ tenF) (h : ¬ f = g) : rightF (setF m g ps) f = rightF m f ∧ zeroF (setF m g ps) f = zeroF m f := by
  unfold rightF zeroF
  by_cases h2 : f = 2
  · subst h2
    rw [if_pos rfl, if_pos rfl, if_pos rfl, if_pos rfl, set_pan ps hg (fun e => h e.symm)]; exact ⟨rfl, rfl⟩
  · rw [if_neg h2, if_neg h2, if_neg h2, if_neg h2, set_other ps hf hg h]; exact ⟨rfl, rfl⟩
/-- Fields that aren't read stay as they were. -/
theorem rd_else {g : Int → List ByteArray → Bool} {f : Int} (hf : f ∈ tenF) : ∀ {fs : List Int} {ps : List ByteArray} {m m' : Ms}, (∀ x ∈ fs, x ∈ tenF) → ¬ f ∈ fs → rd g fs ps m = some m' → rightF m' f = rightF m f ∧ zeroF m' f = zeroF m f := by
  intro fs
  induction fs with
  | nil =>
    intro ps m m' _ _ h
    unfold rd at h
    split at h
    · cases h; exact ⟨rfl, rfl⟩
    · cases h
  | cons x fs ih =>
    intro ps m m' hx hn h
    unfold rd at h
    split at h
    · cases h
    · split at h
      · have h1 := ih (fun y hy => hx y (by simp [hy])) (fun e => hn (by simp [e])) h
        have h2 := right_other (m := m) (ps.take (cntF x)) hf (hx x (by simp)) (fun e => hn (by simp [e]))
        exact ⟨h1.1.trans h2.1, h1.2.trans h2.2⟩
      · cases h
theorem rd_kind {g : Int → List ByteArray → Bool} : ∀ {fs : List Int} {ps : List ByteArray} {m m' : Ms}, (∀ x ∈ fs, x ∈ tenF) → rd g fs ps m = some m' → m'.kind = m.kind := by
  intro fs
  induction fs with
  | nil =>
    intro ps m m' _ h
    unfold rd at h
    split at h
    · cases h; rfl
    · cases h
  | cons x fs ih =>
    intro ps m m' hx h
    unfold rd at h
    split at h
    · cases h
    · split at h
      · exact (ih (fun y hy => hx y (by simp [hy])) h).trans (set_kind _ (hx x (by simp)))
      · cases h
theorem take_cnt {ps : List ByteArray} {n : Nat} (h : ¬ ps.length < n) : (ps.take n).length = n := by rw [List.length_take]; omega
theorem rd_two : ∀ {fs : List Int} {ps : List ByteArray} {m : Ms}, (∀ x ∈ fs, x ∈ tenF) → fs.Nodup → rd rdF fs ps m = (rd rdR fs ps m).filter fun m' => fs.all (rightF m') := by
  intro fs
  induction fs with
  | nil =>
    intro ps m _ _
    unfold rd
    split <;> rfl
  | cons x fs ih =>
    intro ps m hx hn
    have hx0 := hx x (by simp)
    have hn' := List.nodup_cons.1 hn
    have hxs : ∀ y ∈ fs, y ∈ tenF := fun y hy => hx y (by simp [hy])
    unfold rd
    by_cases hl : ps.length < cntF x
    · rw [if_pos hl, if_pos hl]; rfl
    · rw [if_neg hl, if_neg hl, rd_split (m := m) hx0 (take_cnt hl)]
      cases hR : rdR x (ps.take (cntF x))
      · simp
      · simp only [Bool.true_and, if_true]
        have hpre : ∀ m', rd rdR fs (ps.drop (cntF x)) (setF m x (ps.take (cntF x))) = some m' → rightF m' x = rightF (setF m x (ps.take (cntF x))) x := fun m' h => (rd_else hx0 hxs hn'.1 h).1
        rw [ih hxs hn'.2]
        generalize rightF (setF m x (ps.take (cntF x))) x = r at *
        generalize rd rdR fs (ps.drop (cntF x)) (setF m x (ps.take (cntF x))) = o at *
        cases o with
        | none => cases r <;> simp
        | some m' =>
          have := hpre m' rfl
          cases r
          · simp [Option.filter, this]
          · simp [Option.filter, this]
theorem zero_of (k f : Int) (hf : f ∈ tenF) : zeroF (Ms.of k) f = true := by
  rcases ten_cases hf with rfl | rfl | rfl | rfl | rfl | rfl | rfl | rfl | rfl | rfl <;> rfl
theorem right_iff {m : Ms} : rightL m = true ↔ okK m.kind = true ∧ (∀ f ∈ hasK m.kind, rightF m f = true) ∧ ∀ f ∈ tenF, ¬ f ∈ hasK m.kind → zeroF m f = true := by
  unfold rightL
  rw [Bool.and_eq_true, List.all_eq_true]
  constructor
  · rintro ⟨h1, h2⟩
    refine ⟨h1, fun f hf => ?_, fun f hf hn => ?_⟩
    · have := h2 f (has_ten hf); unfold okF at this; rwa [if_pos (by simpa using hf)] at this
    · have := h2 f hf; unfold okF at this; rwa [if_neg (by simpa using hn)] at this
  · rintro ⟨h1, h2, h3⟩
    refine ⟨h1, fun f hf => ?_⟩
    unfold okF
    by_cases h : f ∈ hasK m.kind
    · rw [if_pos (by simpa using h)]; exact h2 f h
    · rw [if_neg (by simpa using h)]; exact h3 f hf h
theorem read_two (L : List ByteArray) : readR L = readP L := by
  unfold readR readP
  generalize kindL (at4 L 0) = k
  cases hk : okK k
  · rfl
  · rw [if_pos rfl, if_pos rfl, rd_two (fun x hx => has_ten hx) (has_nodup k)]
    cases h : rd rdR (hasK k) (L.drop 1) (Ms.of k) with
    | none => rfl
    | some m' =>
      have e : rightL m' = (hasK k).all (rightF m') := by
        have hkind : m'.kind = k := rd_kind (fun x hx => has_ten hx) h
        rw [Bool.eq_iff_iff, right_iff, hkind, List.all_eq_true]
        exact ⟨fun h => h.2.1, fun h1 => ⟨hk, h1, fun f hf hn => by rw [(rd_else hf (fun x hx => has_ten hx) hn h).2]; exact zero_of k f hf⟩⟩
      simp [Option.filter, e]
end Go.Proofs.YtbipikbefokihaaDoor
