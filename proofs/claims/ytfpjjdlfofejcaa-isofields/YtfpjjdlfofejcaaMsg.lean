/- Messages as lists of fields: which field is told, which are right, what Set makes of them. No function is walked. -/
import Derived.Test.YtfpjjdlfofejcaaFds
import Derived.Test.YtfpjjdlfofejcaaTiny
import Derived.Test.YtfpjjdlfofejcaaRgt
namespace Go.Proofs.Ytfpjjdlfofejcaa
open Go.ChangeShapes Go.WideShapes Go.ChangeAt Go.RowKit

/-- The value of the first field n. -/
def getO : List Fd → Int → Option ByteArray
  | [], _ => none
  | f :: r, n => if f.N = n then some f.V else getO r n
def getS (l : List Fd) (n : Int) : ByteArray := (getO l n).getD ⟨#[]⟩
def getB (l : List Fd) (n : Int) : Bool := (getO l n).isSome
/-- Do the numbers rise from 'last' on, and is each field right? -/
def rightsL : List Fd → Int → Bool
  | [], _ => true
  | f :: r, last => decide (last < f.N) && rightB f.N f.V && rightsL r f.N
theorem drop_cons {l : List Fd} {k : Nat} {r : Fd} (h : l[k]? = some r) : l.drop k = r :: l.drop (k + 1) := by
  obtain ⟨hk, e⟩ := List.getElem?_eq_some_iff.1 h
  rw [List.drop_eq_getElem_cons hk, e]
theorem get_step {l : List Fd} {k : Nat} {r : Fd} (n : Int) (h : l[k]? = some r) : getO (l.drop k) n = if r.N = n then some r.V else getO (l.drop (k + 1)) n := by rw [drop_cons h]; rfl
theorem rights_step {l : List Fd} {k : Nat} {r : Fd} (last : Int) (h : l[k]? = some r) : rightsL (l.drop k) last = (decide (last < r.N) && rightB r.N r.V && rightsL (l.drop (k + 1)) r.N) := by rw [drop_cons h]; rfl
theorem drop_end {l : List Fd} {k : Nat} (h : l.length ≤ k) : l.drop k = [] := List.drop_eq_nil_iff.2 h
theorem f_none {n : Int} (h : n < 2) : fK n = false := by
  have e : ∀ m : Int, (2 ≤ m → n ≠ m) := fun m hm => by omega
  unfold fK fP
  simp only [e 2 (by decide), e 49 (by decide), e 70 (by decide), e 13 (by decide), e 3 (by decide), e 11 (by decide), e 12 (by decide), e 7 (by decide), e 4 (by decide), e 90 (by decide), e 39 (by decide), e 38 (by decide), e 41 (by decide), e 37 (by decide), e 42 (by decide), e 95 (by decide), e 54 (by decide), e 60 (by decide), if_false]
theorem right_two {n : Int} {v : ByteArray} (h : rightB n v = true) : 2 ≤ n := by
  by_cases hn : n < 2
  · simp [rightB, f_none hn] at h
  · omega
theorem rights_one (l : List Fd) : rightsL l 1 = rightsL l 0 := by
  cases l with
  | nil => rfl
  | cons f r =>
    unfold rightsL
    cases hr : rightB f.N f.V
    · simp
    · have := right_two hr
      rw [show decide ((1 : Int) < f.N) = true from decide_eq_true (by omega), show decide ((0 : Int) < f.N) = true from decide_eq_true (by omega)]
theorem rights_cons {f : Fd} {r : List Fd} {last : Int} (h : rightsL (f :: r) last = true) : last < f.N ∧ rightB f.N f.V = true ∧ rightsL r f.N = true := by
  unfold rightsL at h
  simp only [Bool.and_eq_true, decide_eq_true_eq] at h
  exact ⟨h.1.1, h.1.2, h.2⟩
theorem rights_mk {f : Fd} {r : List Fd} {last : Int} (h1 : last < f.N) (h2 : rightB f.N f.V = true) (h3 : rightsL r f.N = true) : rightsL (f :: r) last = true := by
  unfold rightsL; simp [h1, h2, h3]
theorem rights_less : ∀ (l : List Fd) {a b : Int}, a ≤ b → rightsL l b = true → rightsL l a = true
  | [], _, _, _, _ => rfl
  | f :: r, a, b, h, hr => by
    have := rights_cons hr
    exact rights_mk (by omega) this.2.1 this.2.2
theorem rights_all : ∀ (l : List Fd) {a : Int}, rightsL l a = true → ∀ f ∈ l, a < f.N ∧ rightB f.N f.V = true
  | [], _, _, f, hf => by simp at hf
  | g :: r, a, h, f, hf => by
    have k := rights_cons h
    rcases List.mem_cons.1 hf with rfl | hf
    · exact ⟨k.1, k.2.1⟩
    · have := rights_all r k.2.2 f hf
      exact ⟨by omega, this.2⟩
theorem rights_pair : ∀ (l : List Fd) {a : Int}, rightsL l a = true → l.Pairwise (fun x y => x.N < y.N)
  | [], _, _ => List.Pairwise.nil
  | g :: r, a, h => by
    have k := rights_cons h
    exact List.Pairwise.cons (fun f hf => (rights_all r k.2.2 f hf).1) (rights_pair r k.2.2)
/-- What Set makes: the field in its place. -/
def setL (n : Int) (v : ByteArray) : List Fd → List Fd
  | [] => [⟨n, v⟩]
  | f :: r => if f.N < n then f :: setL n v r else if f.N = n then ⟨n, v⟩ :: r else ⟨n, v⟩ :: f :: r
/-- How many stand ahead of field n. -/
def placeL (n : Int) : List Fd → Nat
  | [] => 0
  | f :: r => if f.N < n then placeL n r + 1 else 0
theorem place_le (n : Int) : ∀ l : List Fd, placeL n l ≤ l.length
  | [] => Nat.le_refl _
  | f :: r => by
    unfold placeL
    have := place_le n r
    split
    · simp; omega
    · omega
/-- Where what stands behind begins. -/
def behindL (n : Int) (l : List Fd) : Nat := match l[placeL n l]? with
  | some f => if f.N = n then placeL n l + 1 else placeL n l
  | none => placeL n l
theorem set_parts (n : Int) (v : ByteArray) : ∀ l : List Fd, l.take (placeL n l) ++ [⟨n, v⟩] ++ l.drop (behindL n l) = setL n v l
  | [] => by simp [placeL, behindL, setL]
  | f :: r => by
    have ih := set_parts n v r
    by_cases h : f.N < n
    · have hp : placeL n (f :: r) = placeL n r + 1 := by simp [placeL, h]
      have hb : behindL n (f :: r) = behindL n r + 1 := by
        unfold behindL
        rw [hp, List.getElem?_cons_succ]
        cases r[placeL n r]? with
        | none => rfl
        | some g => by_cases hg : g.N = n <;> simp [hg]
      rw [hp, hb, List.take_succ_cons, List.drop_succ_cons]
      simp only [setL, h, if_true, List.cons_append]
      rw [← ih]
    · have hp : placeL n (f :: r) = 0 := by simp [placeL, h]
      by_cases hn : f.N = n
      · have hb : behindL n (f :: r) = 1 := by unfold behindL; rw [hp]; simp [hn]
        rw [hp, hb]; simp [setL, hn]
      · have hb : behindL n (f :: r) = 0 := by unfold behindL; rw [hp]; simp [hn]
        rw [hp, hb]; simp [setL, h, hn]
/-- What the document's Set makes, field by field. -/
def refS (n : Int) (v : ByteArray) : List Fd → Bool → List Fd
  | [], t => if t = true then [] else [⟨n, v⟩]
  | f :: r, t => (if n ≤ f.N ∧ t = false then [⟨n, v⟩] else []) ++ (if f.N = n then [] else [f]) ++ refS n v r (t || decide (n ≤ f.N))
theorem refS_step (n : Int) (v : ByteArray) {l : List Fd} {k : Nat} {r : Fd} (t : Bool) (h : l[k]? = some r) :
    refS n v (l.drop k) t = (if n ≤ r.N ∧ t = false then [⟨n, v⟩] else []) ++ (if r.N = n then [] else [r]) ++ refS n v (l.drop (k + 1)) (t || decide (n ≤ r.N)) := by rw [drop_cons h]; rfl
theorem refS_done (n : Int) (v : ByteArray) : ∀ l : List Fd, (∀ f ∈ l, n < f.N) → refS n v l true = l
  | [], _ => rfl
  | f :: r, h => by
    have hf := h f (by simp)
    have := refS_done n v r (fun x hx => h x (by simp [hx]))
    simp [refS, this, show ¬ f.N = n by omega]
theorem refS_set (n : Int) (v : ByteArray) : ∀ l : List Fd, l.Pairwise (fun x y => x.N < y.N) → refS n v l false = setL n v l
  | [], _ => rfl
  | f :: r, h => by
    obtain ⟨hf, hr⟩ := List.pairwise_cons.1 h
    have ih := refS_set n v r hr
    by_cases h1 : f.N < n
    · simp [refS, setL, h1, show ¬ n ≤ f.N by omega, show ¬ f.N = n by omega, ih]
    · have hd := refS_done n v r (fun x hx => by have := hf x hx; omega)
      by_cases h2 : f.N = n
      · simp [refS, setL, h2] at *
        simpa [h2] using hd
      · simp [refS, setL, h1, h2, show n ≤ f.N by omega, hd]
/-- Set's list is right. -/
theorem set_right (n : Int) (v : ByteArray) (hv : rightB n v = true) : ∀ (l : List Fd) {a : Int}, a < n → rightsL l a = true → rightsL (setL n v l) a = true
  | [], a, ha, _ => rights_mk ha hv rfl
  | f :: r, a, ha, h => by
    have k := rights_cons h
    unfold setL
    by_cases h1 : f.N < n
    · rw [if_pos h1]
      exact rights_mk k.1 k.2.1 (set_right n v hv r h1 k.2.2)
    · rw [if_neg h1]
      by_cases h2 : f.N = n
      · rw [if_pos h2]
        exact rights_mk ha hv (h2 ▸ k.2.2)
      · rw [if_neg h2]
        exact rights_mk ha hv (rights_mk (by show n < f.N; omega) k.2.1 k.2.2)
theorem get_set (n : Int) (v : ByteArray) : ∀ l : List Fd, getO (setL n v l) n = some v
  | [] => by simp [setL, getO]
  | f :: r => by
    unfold setL
    by_cases h1 : f.N < n
    · rw [if_pos h1]; simp [getO, show ¬ f.N = n by omega, get_set n v r]
    · rw [if_neg h1]
      by_cases h2 : f.N = n <;> simp [h2, getO]
theorem get_other (n m : Int) (v : ByteArray) (h : m ≠ n) : ∀ l : List Fd, getO (setL n v l) m = getO l m
  | [] => by simp [setL, getO]; omega
  | f :: r => by
    have hn : ¬ n = m := by omega
    unfold setL
    by_cases h1 : f.N < n
    · rw [if_pos h1]; simp [getO, get_other n m v h r]
    · rw [if_neg h1]
      by_cases h2 : f.N = n
      · rw [if_pos h2]; simp [getO, hn, h2]
      · rw [if_neg h2]; simp [getO, hn]
theorem set_set (n m : Int) (v u : ByteArray) (h : m ≠ n) : ∀ l : List Fd, setL m u (setL n v l) = setL n v (setL m u l)
  | [] => by
    by_cases h1 : n < m
    · simp [setL, h1, show ¬ m < n by omega, show ¬ m = n by omega]
    · simp [setL, h1, show m < n by omega, show ¬ n = m by omega]
  | f :: r => by
    have ih := set_set n m v u h r
    have hmn : ¬ m = n := h
    have hnm : ¬ n = m := fun e => h e.symm
    by_cases a1 : f.N < n <;> by_cases a2 : f.N < m
    · simp [setL, a1, a2, ih]
    · by_cases a3 : f.N = m
      · simp [setL, a3, show m < n by omega]
      · simp [setL, a1, a2, a3, show m < n by omega]
    · by_cases a3 : f.N = n
      · simp [setL, a3, show n < m by omega]
      · simp [setL, a1, a2, a3, show n < m by omega]
    · by_cases a3 : f.N = n
      · subst a3
        simp [setL, a2, hnm, show m < f.N by omega]
      · by_cases a4 : f.N = m
        · subst a4
          simp [setL, a1, hmn, show n < f.N by omega]
        · by_cases a5 : n < m
          · simp [setL, a1, a2, a3, a4, a5, show ¬ m < n by omega, hmn]
          · simp [setL, a1, a2, a3, a4, a5, show m < n by omega, hnm]
theorem set_len (n : Int) (v : ByteArray) : ∀ l : List Fd, (setL n v l).length ≤ l.length + 1
  | [] => by simp [setL]
  | f :: r => by
    unfold setL
    have := set_len n v r
    split
    · simp; omega
    · split <;> simp
theorem set_ok (n : Int) (v : ByteArray) (h : (⟨n, v⟩ : Fd).ok) : ∀ l : List Fd, FOk l → FOk (setL n v l)
  | [], _ => FOk.one h
  | f :: r, hl => by
    have hf := hl f (by simp)
    have hr : FOk r := fun x hx => hl x (by simp [hx])
    unfold setL
    split
    · intro x hx
      rcases List.mem_cons.1 hx with rfl | hx
      · exact hf
      · exact set_ok n v h r hr x hx
    · split
      · intro x hx
        rcases List.mem_cons.1 hx with rfl | hx
        · exact h
        · exact hr x hx
      · intro x hx
        rcases List.mem_cons.1 hx with rfl | hx
        · exact h
        · exact hl x hx
end Go.Proofs.Ytfpjjdlfofejcaa
