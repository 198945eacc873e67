/- Messages of terminals as plain data; their parts; what bytes are read as. No function is walked. -/
import Derived.Test.YtbipikbefokihaaDoorDec
import Derived.Test.YtbipikbefokihaaDoorCat
namespace Go.Proofs.YtbipikbefokihaaDoor
open Go.ChangeShapes Go.WideShapes Go.ChangeAt Go.RowKit

/-- A message. -/
structure Ms where
  kind : Int
  term : Int
  stan : Int
  pan : ByteArray
  amt : Int
  n0 : Int
  n1 : Int
  n2 : Int
  n3 : Int
  j0 : Int
  j1 : Int
  j2 : Int
  j3 : Int
  c0 : Int
  c1 : Int
  c2 : Int
  c3 : Int
  d0 : Int
  d1 : Int
  d2 : Int
  d3 : Int
  loads : Int
  l0 : Int
  l1 : Int
  l2 : Int
  l3 : Int
def Ms.zero : Ms := ⟨0, 0, 0, ⟨#[]⟩, 0, 0, 0, 0, 0, 0, 0, 0, 0, 0, 0, 0, 0, 0, 0, 0, 0, 0, 0, 0, 0, 0⟩
def Ms.of (k : Int) : Ms := { Ms.zero with kind := k }
/-- A message's numbers of one field. -/
def numsF (m : Ms) (f : Int) : List Int :=
  if f = 0 then [m.term] else if f = 1 then [m.stan] else if f = 3 then [m.amt] else if f = 4 then [m.n0, m.n1, m.n2, m.n3] else if f = 5 then [m.j0, m.j1, m.j2, m.j3]
  else if f = 6 then [m.c0, m.c1, m.c2, m.c3] else if f = 7 then [m.d0, m.d1, m.d2, m.d3] else if f = 8 then [m.loads] else if f = 9 then [m.l0, m.l1, m.l2, m.l3] else []
def mostF (f : Int) : Int := if f = 0 then 65535 else if f = 1 then 999999 else if f = 3 ∨ f = 8 then 1000000 else if f = 6 ∨ f = 7 then 2147483647 else 10000
def cntF (f : Int) : Nat := if f = 4 ∨ f = 5 ∨ f = 6 ∨ f = 7 ∨ f = 9 then 4 else 1
def panB (s : ByteArray) : Bool := decide (1 ≤ s.size) && (decide (s.size ≤ 19) && digB s.data.toList)
def inB (hi v : Int) : Bool := decide (0 ≤ v ∧ v ≤ hi)
def rightF (m : Ms) (f : Int) : Bool := if f = 2 then panB m.pan else (numsF m f).all (inB (mostF f))
def zeroF (m : Ms) (f : Int) : Bool := if f = 2 then decide (m.pan = ⟨#[]⟩) else (numsF m f).all (fun v => decide (v = 0))
def hasK (k : Int) : List Int :=
  if k = 1 then [0, 1, 2, 3] else if k = 2 then [0, 1, 4, 5] else if k = 3 then [0] else if k = 4 then [0, 1, 4, 5, 6, 7, 8, 9] else if k = 5 then [0, 1, 3, 4] else if k = 6 then [0, 1] else if k = 7 then [0, 1] else []
def codeK (k : Int) : ByteArray :=
  if k = 1 then ⟨#[49, 49]⟩ else if k = 2 then ⟨#[50, 50]⟩ else if k = 3 then ⟨#[49, 50]⟩ else if k = 4 then ⟨#[50, 51]⟩ else if k = 5 then ⟨#[51, 48]⟩ else if k = 6 then ⟨#[51, 49]⟩ else if k = 7 then ⟨#[51, 50]⟩ else ⟨#[]⟩
def okK (k : Int) : Bool := decide (1 ≤ k ∧ k ≤ 7)
def tenF : List Int := [0, 1, 2, 3, 4, 5, 6, 7, 8, 9]
def okF (m : Ms) (f : Int) : Bool := if (hasK m.kind).contains f = true then rightF m f else zeroF m f
def rightL (m : Ms) : Bool := okK m.kind && tenF.all (okF m)
def putF (m : Ms) (f : Int) : List ByteArray := if f = 2 then [m.pan] else (numsF m f).map decS
def partsL (m : Ms) : List ByteArray := codeK m.kind :: (hasK m.kind).flatMap (putF m)
def putL (m : Ms) : List Int := if rightL m = true then jX (pans (partsL m)) else []
def putE (m : Ms) : Int := if rightL m = true then 0 else 27
/-- A part is a number of the one form, and no greater than this. -/
def leadB (s : ByteArray) : Bool := decide (1 < s.size) && decide (s.data.toList.getD 0 0 = 48)
def numB (hi : Int) (s : ByteArray) : Bool := numOk s && (decide (numV s ≤ hi) && !leadB s)
def at4 (ps : List ByteArray) (i : Nat) : ByteArray := ps.getD i ⟨#[]⟩
def setF (m : Ms) (f : Int) (ps : List ByteArray) : Ms :=
  if f = 0 then { m with term := numV (at4 ps 0) } else if f = 1 then { m with stan := numV (at4 ps 0) } else if f = 2 then { m with pan := at4 ps 0 } else if f = 3 then { m with amt := numV (at4 ps 0) }
  else if f = 4 then { m with n0 := numV (at4 ps 0), n1 := numV (at4 ps 1), n2 := numV (at4 ps 2), n3 := numV (at4 ps 3) }
  else if f = 5 then { m with j0 := numV (at4 ps 0), j1 := numV (at4 ps 1), j2 := numV (at4 ps 2), j3 := numV (at4 ps 3) }
  else if f = 6 then { m with c0 := numV (at4 ps 0), c1 := numV (at4 ps 1), c2 := numV (at4 ps 2), c3 := numV (at4 ps 3) }
  else if f = 7 then { m with d0 := numV (at4 ps 0), d1 := numV (at4 ps 1), d2 := numV (at4 ps 2), d3 := numV (at4 ps 3) }
  else if f = 8 then { m with loads := numV (at4 ps 0) }
  else if f = 9 then { m with l0 := numV (at4 ps 0), l1 := numV (at4 ps 1), l2 := numV (at4 ps 2), l3 := numV (at4 ps 3) } else m
def rdF (f : Int) (ps : List ByteArray) : Bool := if f = 2 then panB (at4 ps 0) else ps.all (numB (mostF f))
/-- What parts are read as, of these fields; 'g' says of a field's parts whether they will do. -/
def rd (g : Int → List ByteArray → Bool) : List Int → List ByteArray → Ms → Option Ms
  | [], ps, m => if ps.length = 0 then some m else none
  | f :: fs, ps, m => if ps.length < cntF f then none else if g f (ps.take (cntF f)) = true then rd g fs (ps.drop (cntF f)) (setF m f (ps.take (cntF f))) else none
def kindL (s : ByteArray) : Int :=
  if s = ⟨#[49, 49]⟩ then 1 else if s = ⟨#[50, 50]⟩ then 2 else if s = ⟨#[49, 50]⟩ then 3 else if s = ⟨#[50, 51]⟩ then 4 else if s = ⟨#[51, 48]⟩ then 5 else if s = ⟨#[51, 49]⟩ then 6 else if s = ⟨#[51, 50]⟩ then 7 else 0
def readP (L : List ByteArray) : Option Ms := if okK (kindL (at4 L 0)) = true then rd rdF (hasK (kindL (at4 L 0))) (L.drop 1) (Ms.of (kindL (at4 L 0))) else none
def readL (zs : List Int) : Option Ms := readP (txts (spl [] zs))
def rdM (zs : List Int) : Ms := (readL zs).getD Ms.zero
def rdE (zs : List Int) : Int := if (readL zs).isSome = true then 0 else 23
theorem Ms.ext' {a b : Ms} (hk : a.kind = b.kind) (hp : a.pan = b.pan) (hn : ∀ f ∈ tenF, numsF a f = numsF b f) : a = b := by
  have h0 := hn 0 (by decide)
  have h1 := hn 1 (by decide)
  have h3 := hn 3 (by decide)
  have h4 := hn 4 (by decide)
  have h5 := hn 5 (by decide)
  have h6 := hn 6 (by decide)
  have h7 := hn 7 (by decide)
  have h8 := hn 8 (by decide)
  have h9 := hn 9 (by decide)
  simp [numsF] at h0 h1 h3 h4 h5 h6 h7 h8 h9
  cases a; cases b
  simp_all
theorem ten_cases {f : Int} (h : f ∈ tenF) : f = 0 ∨ f = 1 ∨ f = 2 ∨ f = 3 ∨ f = 4 ∨ f = 5 ∨ f = 6 ∨ f = 7 ∨ f = 8 ∨ f = 9 := by simpa [tenF] using h
theorem kind_cases {k : Int} (h : okK k = true) : k = 1 ∨ k = 2 ∨ k = 3 ∨ k = 4 ∨ k = 5 ∨ k = 6 ∨ k = 7 := by
  have : 1 ≤ k ∧ k ≤ 7 := by simpa [okK] using h
  omega
theorem has_none {k : Int} (h : okK k = false) : hasK k = [] := by
  have h : ¬ (1 ≤ k ∧ k ≤ 7) := by simpa [okK] using h
  unfold hasK
  rw [if_neg (by omega), if_neg (by omega), if_neg (by omega), if_neg (by omega), if_neg (by omega), if_neg (by omega), if_neg (by omega)]
theorem has_all (k : Int) : (∀ f ∈ hasK k, f ∈ tenF) ∧ (hasK k).Nodup := by
  cases h : okK k
  · rw [has_none h]; exact ⟨fun f hf => (List.not_mem_nil hf).elim, List.nodup_nil⟩
  · rcases kind_cases h with rfl | rfl | rfl | rfl | rfl | rfl | rfl <;> decide
theorem has_ten {k f : Int} (h : f ∈ hasK k) : f ∈ tenF := (has_all k).1 f h
theorem has_nodup (k : Int) : (hasK k).Nodup := (has_all k).2
/-! What is set in one field leaves the others. -/
theorem set_other {m : Ms} {f g : Int} (ps : List ByteArray) (hf : f ∈ tenF) (hg : g ∈ tenF) (h : ¬ f = g) : numsF (setF m g ps) f = numsF m f := by
  rcases ten_cases hf with rfl | rfl | rfl | rfl | rfl | rfl | rfl | rfl | rfl | rfl <;>
    rcases ten_cases hg with rfl | rfl | rfl | rfl | rfl | rfl | rfl | rfl | rfl | rfl <;> first | exact absurd rfl h | rfl
theorem set_pan {m : Ms} {g : Int} (ps : List ByteArray) (hg : g ∈ tenF) (h : ¬ g = 2) : (setF m g ps).pan = m.pan := by
  rcases ten_cases hg with rfl | rfl | rfl | rfl | rfl | rfl | rfl | rfl | rfl | rfl <;> first | exact absurd rfl h | rfl
theorem set_kind {m : Ms} {g : Int} (ps : List ByteArray) (hg : g ∈ tenF) : (setF m g ps).kind = m.kind := by
  rcases ten_cases hg with rfl | rfl | rfl | rfl | rfl | rfl | rfl | rfl | rfl | rfl <;> rfl
theorem list4 {α : Type} (d : α) {l : List α} (h : l.length = 4) : l = [l.getD 0 d, l.getD 1 d, l.getD 2 d, l.getD 3 d] := by
  match l, h with
  | [a, b, c, e], _ => rfl
theorem list1 {α : Type} (d : α) {l : List α} (h : l.length = 1) : l = [l.getD 0 d] := by
  match l, h with
  | [a], _ => rfl
/-- What is set is there. -/
theorem set_same {m : Ms} {f : Int} {ps : List ByteArray} (hf : f ∈ tenF) (h2 : ¬ f = 2) (hl : ps.length = cntF f) : numsF (setF m f ps) f = ps.map numV := by
  rcases ten_cases hf with rfl | rfl | rfl | rfl | rfl | rfl | rfl | rfl | rfl | rfl
  case inr.inr.inl => exact absurd rfl h2
  all_goals first
    | (have e := list4 ⟨#[]⟩ (l := ps) (by rw [hl]; rfl); rw [e]; rfl)
    | (have e := list1 ⟨#[]⟩ (l := ps) (by rw [hl]; rfl); rw [e]; rfl)
theorem set_pan2 (m : Ms) (ps : List ByteArray) : (setF m 2 ps).pan = at4 ps 0 := rfl
end Go.Proofs.YtbipikbefokihaaDoor
