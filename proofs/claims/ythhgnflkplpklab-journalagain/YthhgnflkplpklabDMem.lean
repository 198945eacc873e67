/- How a disk lies in memory: a head of four cells, the sectors' row, the row of the writes that wait. Plain facts, no function is walked. -/
import Derived.Test.YthhgnflkplpklabRows
import Derived.WalkKit
import Derived.ProofKit
import Derived.OpenShut
import Derived.WalkSpells
import Derived.WalkLawsBesides
import Derived.Below
import Derived.Laws.Externs
import Derived.Deep.RegionHeld3
import Derived.Deep.RegionWith
import Derived.BigRegion
import Derived.RegionTactic
import Derived.Deep.AppendLies
import Derived.Deep.AppendSrc
import Derived.Deep.MidRow
import Derived.Deep.WholeRow
import Derived.Laws.CopyRow
import Derived.Laws.MakeOwn
import Derived.Laws.OwnMore
import Derived.Laws.IdiomArrays
import Derived.ShutString
import Derived.ChangeOld
namespace Go.Proofs.Ythhgnflkplpklab.Dsc
open Go.ChangeShapes Go.WideShapes Go.ChangeAt Go.RowKit

theorem hid {p : Prop} (h : p) : Hid p := h

/-! ### Lists laid end to end -/
section
variable {α β : Type}
theorem flat_len {c : Nat} (f : α → List β) : ∀ (l : List α), (∀ x ∈ l, (f x).length = c) → (l.flatMap f).length = l.length * c
  | [], _ => by simp
  | a :: r, h => by
    rw [List.flatMap_cons, List.length_append, h a (by simp), flat_len f r (fun x hx => h x (by simp [hx])), List.length_cons, Nat.add_mul]; omega
theorem flat_get {c : Nat} (f : α → List β) : ∀ (l : List α), (∀ x ∈ l, (f x).length = c) → ∀ (i : Nat) (x : α), l[i]? = some x → ∀ j, j < c → (l.flatMap f)[i * c + j]? = (f x)[j]?
  | [], _, i, x, hx, _, _ => by simp at hx
  | a :: r, h, 0, x, hx, j, hj => by
    simp at hx; subst hx
    rw [List.flatMap_cons, Nat.zero_mul, Nat.zero_add, List.getElem?_append_left (by rw [h a (by simp)]; exact hj)]
  | a :: r, h, i + 1, x, hx, j, hj => by
    have ha := h a (by simp)
    have ih := flat_get f r (fun x hx => h x (by simp [hx])) i x (by simpa using hx) j hj
    rw [List.flatMap_cons, List.getElem?_append_right (by rw [ha, Nat.add_mul]; omega), ha]
    have e : (i + 1) * c + j - c = i * c + j := by rw [Nat.add_mul]; omega
    rw [e, ih]
theorem flat_set {c : Nat} (f : α → List β) : ∀ (l : List α), (∀ x ∈ l, (f x).length = c) → ∀ (i : Nat) (y : α), i < l.length →
    (l.set i y).flatMap f = (l.flatMap f).take (i * c) ++ f y ++ (l.flatMap f).drop (i * c + c)
  | [], _, i, y, hi => by simp at hi
  | a :: r, h, 0, y, hi => by
    have ha := h a (by simp)
    simp [ha]
  | a :: r, h, i + 1, y, hi => by
    have ha := h a (by simp)
    have ih := flat_set f r (fun x hx => h x (by simp [hx])) i y (by simpa using hi)
    have e1 : (i + 1) * c = c + i * c := by rw [Nat.add_mul]; omega
    rw [List.set_cons_succ, List.flatMap_cons, List.flatMap_cons, ih, e1, List.take_append, List.drop_append, ha]
    have e2 : c + i * c - c = i * c := by omega
    have e3 : c + i * c + c - c = i * c + c := by omega
    rw [e2, e3, List.take_of_length_le (l := f a) (by omega), List.drop_of_length_le (l := f a) (by omega)]
    simp
end

/-! ### The disk, plainly -/
abbrev by8 (s : List Int) : List Value := s.map (Value.int .u8)
def Byt (z : Int) : Prop := 0 ≤ z ∧ z ≤ 255
def Sec (s : List Int) : Prop := s.length = 64 ∧ ∀ z ∈ s, Byt z
/-- A disk: its sectors, its writes that wait (of which sector, what), how many steps till it is cut, is the power gone? -/
structure Dk where
  secs : List (List Int)
  waits : List (Nat × List Int)
  left : Int
  down : Bool
structure Dk.Ok (d : Dk) : Prop where
  secs : ∀ s ∈ d.secs, Sec s
  waits : ∀ x ∈ d.waits, x.1 < d.secs.length ∧ Sec x.2
  left : 0 ≤ d.left ∧ d.left ≤ 9223372036854775807
  size : d.secs.length ≤ 4096
def encW (x : Nat × List Int) : List Value := .int .i64 (x.1 : Int) :: by8 x.2
def flatS (l : List (List Int)) : List Value := l.flatMap by8
def flatW (l : List (Nat × List Int)) : List Value := l.flatMap encW
theorem Dk.Ok.len8 {d : Dk} (h : d.Ok) : ∀ s ∈ d.secs, (by8 s).length = 64 := fun s hs => by simp [(h.secs s hs).1]
theorem Dk.Ok.lenW {d : Dk} (h : d.Ok) : ∀ x ∈ d.waits, (encW x).length = 65 := fun x hx => by simp [encW, (h.waits x hx).2.1]
theorem one8 (s : List Int) : ∀ u ∈ by8 s, u.oneCell' = true := by
  intro u hu; simp at hu; obtain ⟨z, _, rfl⟩ := hu; rfl
theorem oneW (x : Nat × List Int) : ∀ u ∈ encW x, u.oneCell' = true := by
  intro u hu
  rcases List.mem_cons.1 hu with rfl | h
  · rfl
  · exact one8 _ u h

/-! ### The disk in memory -/
structure Ty where
  T : TypeId
  E : TypeId
  U : TypeId
def tc : Ty := ⟨51, 70, 72⟩
def Ty.Far (t : Ty) : Prop := t.T ≠ t.E ∧ t.T ≠ t.U ∧ t.E ≠ t.U
theorem tc_far : tc.Far := by unfold Ty.Far tc; decide
structure Dat (t : Ty) (w : World) (p : Nat) (sv wv : Value) (d : Dk) : Prop where
  head : w.heap[p]? = some (.cells #[sv, wv, .int .i64 d.left, .bool d.down] t.T (0, 0))
  secs : w.ownsRow 0 t.E 64 sv d.secs.length (flatS d.secs)
  waits : w.ownsRow 0 t.U 65 wv d.waits.length (flatW d.waits)
  ok : d.Ok

/-- Of what was there, only blocks in F have turned. -/
structure Turned (F : Nat → Prop) (w w' : World) : Prop where
  os : w'.os = w.os
  tape : w'.tape = w.tape
  output : w'.output = w.output
  size : w.heap.size ≤ w'.heap.size
  block : ∀ k, k < w.heap.size → ¬ F k → w'.heap[k]? = w.heap[k]?
theorem Turned.refl (F : Nat → Prop) (w : World) : Turned F w w := ⟨rfl, rfl, rfl, Nat.le_refl _, fun _ _ _ => rfl⟩
theorem Turned.below {B : Nat} {F : Nat → Prop} {w w' : World} (h : Turned F w w') (hF : ∀ k, F k → B ≤ k) (hB : B ≤ w.heap.size) : Below B w w' :=
  ⟨h.os, h.tape, h.output, h.size, fun k hk => h.block k (by omega) (fun f => by have := hF k f; omega)⟩
theorem Turned.of_below {F : Nat → Prop} {w w' : World} (h : Below w.heap.size w w') : Turned F w w' := ⟨h.os, h.tape, h.output, h.size, fun k hk _ => h.block k hk⟩
/-- Blocks of F, and those made since. -/
def grow (F : Nat → Prop) (w w' : World) : Nat → Prop := fun k => F k ∨ (w.heap.size ≤ k ∧ k < w'.heap.size)
theorem Turned.trans {F : Nat → Prop} {a b c : World} (h : Turned F a b) (k : Turned (grow F a b) b c) : Turned F a c :=
  ⟨k.os.trans h.os, k.tape.trans h.tape, k.output.trans h.output, Nat.le_trans h.size k.size, fun i hi hn =>
    (k.block i (Nat.lt_of_lt_of_le hi h.size) (fun g => by rcases g with g | g; exact hn g; omega)).trans (h.block i hi hn)⟩
theorem Turned.more {F G : Nat → Prop} {a b : World} (h : Turned F a b) (k : ∀ i, F i → G i) : Turned G a b :=
  ⟨h.os, h.tape, h.output, h.size, fun i hi hn => h.block i hi (fun f => hn (k i f))⟩
theorem Turned.setCell {F : Nat → Prop} {w w' : World} (h : Turned F w w') (a : Addr) (u : Value) (ha : F a.block) : Turned F w (w'.setCell a u) :=
  ⟨h.os, h.tape, h.output, by simpa [World.setCell] using h.size, fun k hk hn => by
    have hne : k ≠ a.block := fun e => hn (by rw [e]; exact ha)
    rw [Below.heap_setCell _ _ _ _ hne]; exact h.block k hk hn⟩
theorem Turned.alloc {F : Nat → Prop} {w w' : World} (h : Turned F w w') (o : Obj) : Turned F w (w'.alloc o) :=
  ⟨h.os, h.tape, h.output, by have := h.size; simp; omega, fun k hk hn => by
    rw [Below.heap_alloc _ _ _ (Nat.lt_of_lt_of_le hk h.size)]; exact h.block k hk hn⟩
theorem Turned.then {F : Nat → Prop} {a b c : World} (h : Turned F a b) (k : Turned F b c) : Turned F a c :=
  h.trans (k.more fun _ f => .inl f)
theorem Turned.setRow {F : Nat → Prop} {w w' : World} (h : Turned F w w') (g : Nat) (c : Array Value) (hg : F g) : Turned F w (w'.setRow g c) :=
  ⟨h.os, h.tape, h.output, by simpa [World.setRow] using h.size, fun k hk hn => by
    have hne : ¬ g = k := fun e => hn (e ▸ hg)
    rw [← h.block k hk hn]; simp [World.setRow, Array.getElem?_modify, hne]⟩
theorem Turned.grown {F : Nat → Prop} {w w' : World} {row : Option Nat} (h : w.grownBy w' row) (hr : ∀ k, row = some k → F k) : Turned F w w' :=
  ⟨h.os, h.tape, h.output, h.size, fun k hk hn => h.block k hk (fun e => hn (hr k e.symm))⟩

def Feet (p : Nat) (sv wv : Value) : Nat → Prop := fun k => k = p ∨ sv.ownBlock = some k ∨ wv.ownBlock = some k
/-- At block p lies the disk d, in blocks of F. -/
def Dsk (t : Ty) (w : World) (p : Nat) (F : Nat → Prop) (d : Dk) : Prop :=
  ∃ sv wv, Dat t w p sv wv d ∧ (∀ k, Feet p sv wv k → F k) ∧ ∀ k, F k → k < w.heap.size

theorem own_kept {w w' : World} {b : Nat} {e : TypeId} {size : Nat} {v : Value} {n : Nat} {xs : List Value} (h : w.ownsRow b e size v n xs)
    (hk : ∀ k, v.ownBlock = some k → w'.heap[k]? = w.heap[k]?) : w'.ownsRow b e size v n xs := by
  refine ⟨h.1, ?_⟩
  rcases h.2 with h0 | ⟨g, cap, cur, rfl, hg, hc, r⟩
  · exact .inl h0
  · exact .inr ⟨g, cap, cur, rfl, hg, (hk g rfl).trans hc, r⟩
theorem Dat.kept {t : Ty} {w w' : World} {p : Nat} {sv wv : Value} {d : Dk} (h : Dat t w p sv wv d) (hk : ∀ k, Feet p sv wv k → w'.heap[k]? = w.heap[k]?) : Dat t w' p sv wv d :=
  ⟨(hk p (.inl rfl)).trans h.head, own_kept h.secs (fun k e => hk k (.inr (.inl e))), own_kept h.waits (fun k e => hk k (.inr (.inr e))), h.ok⟩
theorem Dat.lt {t : Ty} {w : World} {p : Nat} {sv wv : Value} {d : Dk} (h : Dat t w p sv wv d) : ∀ k, Feet p sv wv k → k < w.heap.size := by
  intro k hk
  rcases hk with rfl | hk | hk
  · exact (Array.getElem?_eq_some_iff.1 h.head).1
  · exact (World.ownsRow.lt h.secs k hk).2
  · exact (World.ownsRow.lt h.waits k hk).2
theorem Dat.below {t : Ty} {w w' : World} {p : Nat} {sv wv : Value} {d : Dk} (h : Dat t w p sv wv d) (hb : Below w.heap.size w w') : Dat t w' p sv wv d :=
  h.kept fun k hk => hb.block k (h.lt k hk)
/-- Another disk is as it was. -/
theorem Dsk.apart {t : Ty} {w w' : World} {p : Nat} {F G : Nat → Prop} {d : Dk} (h : Dsk t w p G d) (hk : Turned F w w') (hn : ∀ k, G k → ¬ F k) : Dsk t w' p G d := by
  obtain ⟨sv, wv, hd, hf, hl⟩ := h
  exact ⟨sv, wv, hd.kept (fun k g => hk.block k (hl k (hf k g)) (hn k (hf k g))), hf, fun k g => Nat.lt_of_lt_of_le (hl k g) hk.size⟩
theorem Dsk.below {t : Ty} {w w' : World} {p : Nat} {F : Nat → Prop} {d : Dk} (h : Dsk t w p F d) (hk : Below w.heap.size w w') : Dsk t w' p F d :=
  Dsk.apart (F := fun _ => False) h (Turned.of_below hk) (fun _ _ f => f)
theorem Dsk.ok {t : Ty} {w : World} {p : Nat} {F : Nat → Prop} {d : Dk} (h : Dsk t w p F d) : d.Ok := by obtain ⟨_, _, h, _⟩ := h; exact h.ok

/-- The blocks of a disk are three. -/
theorem Dat.far {t : Ty} (ht : t.Far) {w : World} {p : Nat} {sv wv : Value} {d : Dk} (h : Dat t w p sv wv d) :
    (∀ k, sv.ownBlock = some k → k ≠ p) ∧ (∀ k, wv.ownBlock = some k → k ≠ p) ∧ ∀ k, sv.ownBlock = some k → wv.ownBlock ≠ some k := by
  have hs : ∀ k, sv.ownBlock = some k → ∃ c, w.heap[k]? = some (.cells c t.E (0, 0)) := by
    intro k e
    rcases h.secs.2 with ⟨rfl, _⟩ | ⟨g, cap, cur, rfl, _, hc, _⟩
    · cases e
    · cases e; exact ⟨cur, hc⟩
  have hw : ∀ k, wv.ownBlock = some k → ∃ c, w.heap[k]? = some (.cells c t.U (0, 0)) := by
    intro k e
    rcases h.waits.2 with ⟨rfl, _⟩ | ⟨g, cap, cur, rfl, _, hc, _⟩
    · cases e
    · cases e; exact ⟨cur, hc⟩
  refine ⟨fun k e ep => ?_, fun k e ep => ?_, fun k e e2 => ?_⟩
  · obtain ⟨c, hc⟩ := hs k e
    subst ep; rw [h.head] at hc; simp only [Option.some.injEq, Obj.cells.injEq] at hc; exact ht.1 hc.2.1
  · obtain ⟨c, hc⟩ := hw k e
    subst ep; rw [h.head] at hc; simp only [Option.some.injEq, Obj.cells.injEq] at hc; exact ht.2.1 hc.2.1
  · obtain ⟨c, hc⟩ := hs k e
    obtain ⟨c2, hc2⟩ := hw k e2
    rw [hc] at hc2; simp only [Option.some.injEq, Obj.cells.injEq] at hc2; exact ht.2.2 hc2.2.1

/-! ### What a disk's cells are -/
theorem cell_of_head {w : World} {p : Nat} {c : Array Value} {t : TypeId} (h : w.heap[p]? = some (.cells c t (0, 0))) (i : Nat) : w.cell? ⟨p, i, none⟩ = c[i]? := by
  simp [World.cell?, h]
theorem froz_of_head {w : World} {p : Nat} {c : Array Value} {t : TypeId} (h : w.heap[p]? = some (.cells c t (0, 0))) (i : Nat) : w.frozen? ⟨p, i, none⟩ = false := by
  simp [World.frozen?, h]
theorem Dat.c0 {t : Ty} {w : World} {p : Nat} {sv wv : Value} {d : Dk} (h : Dat t w p sv wv d) : w.cell? ⟨p, 0, none⟩ = some sv := by rw [cell_of_head h.head]; rfl
theorem Dat.c1 {t : Ty} {w : World} {p : Nat} {sv wv : Value} {d : Dk} (h : Dat t w p sv wv d) : w.cell? ⟨p, 1, none⟩ = some wv := by rw [cell_of_head h.head]; rfl
theorem Dat.c2 {t : Ty} {w : World} {p : Nat} {sv wv : Value} {d : Dk} (h : Dat t w p sv wv d) : w.cell? ⟨p, 2, none⟩ = some (.int .i64 d.left) := by rw [cell_of_head h.head]; rfl
theorem Dat.c3 {t : Ty} {w : World} {p : Nat} {sv wv : Value} {d : Dk} (h : Dat t w p sv wv d) : w.cell? ⟨p, 3, none⟩ = some (.bool d.down) := by rw [cell_of_head h.head]; rfl
theorem Dat.f {t : Ty} {w : World} {p : Nat} {sv wv : Value} {d : Dk} (h : Dat t w p sv wv d) (i : Nat) : w.frozen? ⟨p, i, none⟩ = false := froz_of_head h.head i
theorem Dat.plt {t : Ty} {w : World} {p : Nat} {sv wv : Value} {d : Dk} (h : Dat t w p sv wv d) : p < w.heap.size := h.lt p (.inl rfl)

theorem heap_setCell_at {w : World} {p : Nat} {c : Array Value} {t : TypeId} (h : w.heap[p]? = some (.cells c t (0, 0))) (i : Nat) (u : Value) :
    (w.setCell ⟨p, i, none⟩ u).heap[p]? = some (.cells (c.setIfInBounds i u) t (0, 0)) := by
  rw [setCell_eq_setRow w p i c t (0, 0) u h]; exact setRow_heap w p c _ t _ h
/-- A cell of the head is written. -/
theorem Dat.put {t : Ty} (ht : t.Far) {w : World} {p : Nat} {sv wv : Value} {d : Dk} (h : Dat t w p sv wv d) (i : Nat) (u : Value) (d' : Dk)
    (hc : (#[sv, wv, .int .i64 d.left, .bool d.down] : Array Value).setIfInBounds i u = #[sv, wv, .int .i64 d'.left, .bool d'.down]) (hs : d'.secs = d.secs) (hw : d'.waits = d.waits) (ho : d'.Ok) :
    Dat t (w.setCell ⟨p, i, none⟩ u) p sv wv d' := by
  obtain ⟨f1, f2, _⟩ := h.far ht
  refine ⟨by rw [heap_setCell_at h.head, hc], ?_, ?_, ho⟩
  · rw [hs]; exact own_kept h.secs (fun k e => Below.heap_setCell _ _ _ _ (f1 k e))
  · rw [hw]; exact own_kept h.waits (fun k e => Below.heap_setCell _ _ _ _ (f2 k e))
theorem Dk.Ok.withLeft {d : Dk} (h : d.Ok) (x : Int) (b : Bool) (h0 : 0 ≤ x) (h1 : x ≤ 9223372036854775807) : ({ d with left := x, down := b } : Dk).Ok := ⟨h.secs, h.waits, ⟨h0, h1⟩, h.size⟩
/-- The list of what waits is another one. -/
theorem Dat.wait {t : Ty} (ht : t.Far) {w : World} {p : Nat} {sv wv wv' : Value} {d d' : Dk} (h : Dat t w p sv wv d) (hw : w.ownsRow 0 t.U 65 wv' d'.waits.length (flatW d'.waits)) (hs : d'.secs = d.secs)
    (hl : d'.left = d.left) (hd : d'.down = d.down) (ho : d'.Ok) : Dat t (w.setCell ⟨p, 1, none⟩ wv') p sv wv' d' := by
  obtain ⟨f1, _, _⟩ := h.far ht
  refine ⟨by rw [heap_setCell_at h.head, hl, hd]; rfl, ?_, ?_, ho⟩
  · rw [hs]; exact own_kept h.secs (fun k e => Below.heap_setCell _ _ _ _ (f1 k e))
  · refine own_kept hw (fun k e => Below.heap_setCell _ _ _ _ (fun e2 => ?_))
    change k = p at e2
    rcases hw.2 with ⟨rfl, _⟩ | ⟨g, cap, cur, rfl, _, hc, _⟩
    · cases e
    · cases e; subst e2; rw [h.head] at hc; simp only [Option.some.injEq, Obj.cells.injEq] at hc; exact ht.2.1 hc.2.1

/-- Where a sector lies. -/
theorem own_piece {α : Type} {w : World} {b : Nat} {e : TypeId} {size : Nat} {v : Value} {l : List α} (f : α → List Value) (hf : ∀ x ∈ l, (f x).length = size) (h : w.ownsRow b e size v l.length (l.flatMap f))
    {g : Nat} (hg : v.ownBlock = some g) (i : Nat) (x : α) (hx : l[i]? = some x) : w.rangeAt g (i * size) (f x) := by
  intro j u hu
  have hi : i < l.length := (List.getElem?_eq_some_iff.1 hx).1
  have hxm : x ∈ l := List.mem_of_getElem? hx
  have hj : j < size := by have := (List.getElem?_eq_some_iff.1 hu).1; rw [hf x hxm] at this; exact this
  have := World.ownsRow.cells h hg (i * size + j) u (by rw [flat_get f l hf i x hx j hj]; exact hu)
  rw [Addr.add_mid, Nat.zero_add] at this
  exact this
theorem own_there {w : World} {b : Nat} {e : TypeId} {size : Nat} {v : Value} {n : Nat} {xs : List Value} (h : w.ownsRow b e size v n xs)
    {g : Nat} (hg : v.ownBlock = some g) (o m : Nat) (hm : o + m ≤ n * size) : w.there g o m := by
  intro j hj
  rcases h.2 with ⟨rfl, _⟩ | ⟨g', cap, cur, rfl, _, hc, h1, _, h2, h3⟩
  · cases hg
  · cases hg
    have : n * size ≤ cap * size := Nat.mul_le_mul_right _ h1
    refine ⟨?_, by simp [World.frozen?, hc]⟩
    have hlt : o + j < cur.size := by omega
    simp [World.cell?, hc, hlt]

theorem setCells_row {P : Program} {w : World} {g : Nat} {cur : Array Value} {t : TypeId} (hc : w.heap[g]? = some (.cells cur t (0, 0))) (o : Nat) (vs : List Value) (hl : o + vs.length ≤ cur.size) (h1 : ∀ v ∈ vs, v.oneCell' = true) :
    w.setCells g o vs = w.setRow g (cur.toList.take o ++ vs ++ cur.toList.drop (o + vs.length)).toArray := by
  have a := run_storeCells_at P g o t vs 0 cur w hc (by simpa using hl) h1
  have b := run_storeCells_cells (P := P) g o vs 0 w (fun j hj => by
    have hlt : o + 0 + j < cur.size := by omega
    simp [World.cell?, hc] at hlt ⊢; omega) (fun j hj => by simp [World.frozen?, hc]) h1
  rw [a] at b
  simp only [Nat.add_zero] at b
  injection b with _ e
  exact e.symm

/-- The first k bytes of s, and what was there behind them. -/
def lay (k : Nat) (s old : List Int) : List Int := s.take k ++ old.drop k
theorem lay_all {s old : List Int} (hs : Sec s) (ho : Sec old) : lay 64 s old = s := by
  have h1 := hs.1
  have h2 := ho.1
  unfold lay
  rw [List.take_of_length_le (by omega), List.drop_of_length_le (by omega), List.append_nil]
theorem lay_none (s old : List Int) : lay 0 s old = old := by simp [lay]
theorem lay_sec {k : Nat} {s old : List Int} (hs : Sec s) (ho : Sec old) (hk : k ≤ 64) : Sec (lay k s old) := by
  have h1 := hs.1
  have h2 := ho.1
  refine ⟨by unfold lay; rw [List.length_append, List.length_take, List.length_drop]; omega, fun z hz => ?_⟩
  rcases List.mem_append.1 hz with h | h
  · exact hs.2 z (List.mem_of_mem_take h)
  · exact ho.2 z (List.mem_of_mem_drop h)

theorem mid_get {β : Type} (A B : List β) (a c q : Nat) (ha : a ≤ A.length) : (A.take a ++ B ++ A.drop c)[q]? = if q < a then A[q]? else if q < a + B.length then B[q - a]? else A[c + (q - (a + B.length))]? := by
  have e : (A.take a).length = a := by rw [List.length_take]; omega
  by_cases h1 : q < a
  · rw [if_pos h1, List.append_assoc, List.getElem?_append_left (by omega), List.getElem?_take, if_pos h1]
  · rw [if_neg h1]
    by_cases h2 : q < a + B.length
    · rw [if_pos h2, List.append_assoc, List.getElem?_append_right (by omega), e, List.getElem?_append_left (by omega)]
    · rw [if_neg h2, List.getElem?_append_right (by rw [List.length_append]; omega), List.getElem?_drop, List.length_append, e]
/-- Bytes are laid into a sector. -/
theorem Dat.laid {P : Program} {t : Ty} (ht : t.Far) {w : World} {p : Nat} {sv wv : Value} {d : Dk} (h : Dat t w p sv wv d) {g : Nat} (hg : sv.ownBlock = some g) (i k : Nat) (s old : List Int) (hs : Sec s) (hold : d.secs[i]? = some old) (hk : k ≤ 64) :
    Dat t (w.setCells g (i * 64) (by8 (s.take k))) p sv wv { d with secs := d.secs.set i (lay k s old) } ∧ Turned (Feet p sv wv) w (w.setCells g (i * 64) (by8 (s.take k))) := by
  obtain ⟨f1, f2, f3⟩ := h.far ht
  have hi : i < d.secs.length := (List.getElem?_eq_some_iff.1 hold).1
  have hol := h.ok.secs old (List.mem_of_getElem? hold)
  have hsl := hs.1
  have hoLen := hol.1
  have hlen : (by8 (s.take k)).length = k := by simp; omega
  rcases h.secs.2 with ⟨rfl, _⟩ | ⟨g', cap, cur, rfl, _, hc, h1, h2, h3, h4⟩
  · cases hg
  · cases hg
    have hcap : d.secs.length * 64 ≤ cap * 64 := Nat.mul_le_mul_right _ h1
    have hrow := setCells_row (P := P) hc (i * 64) (by8 (s.take k)) (by rw [hlen, h3]; omega) (one8 _)
    rw [hlen] at hrow
    have hlast : (cur.toList.take (i * 64) ++ by8 (s.take k) ++ cur.toList.drop (i * 64 + k)).length = cap * 64 := by
      have : cur.toList.length = cap * 64 := by simpa using h3
      rw [List.length_append, List.length_append, hlen, List.length_take, List.length_drop, this]; omega
    have hT : Turned (Feet p (.slice (some ⟨g', 0, none⟩) d.secs.length cap) wv) w (w.setCells g' (i * 64) (by8 (s.take k))) := by
      rw [hrow]; exact (Turned.refl _ _).setRow g' _ (.inr (.inl rfl))
    refine ⟨⟨?_, ⟨?_, .inr ⟨g', cap, (cur.toList.take (i * 64) ++ by8 (s.take k) ++ cur.toList.drop (i * 64 + k)).toArray, by simp, Nat.zero_le _, ?_, by simpa using h1, h2, by simpa using hlast, ?_⟩⟩, ?_, ?_⟩, hT⟩
    · rw [hrow]
      have hne := f1 g' rfl
      rw [← h.head]; simp [World.setRow, Array.getElem?_modify, hne]
    · have := flat_len by8 (d.secs.set i (lay k s old)) (c := 64) (by
        intro x hx
        rcases List.mem_or_eq_of_mem_set hx with hx | rfl
        · exact h.ok.len8 x hx
        · simp [(lay_sec hs hol hk).1])
      simpa [flatS] using this
    · rw [hrow]; exact setRow_heap w g' cur _ t.E _ hc
    · show List.take ((d.secs.set i (lay k s old)).length * 64) _ = flatS (d.secs.set i (lay k s old))
      rw [flatS, flat_set by8 d.secs h.ok.len8 i _ hi, List.length_set]
      have hfl : (d.secs.flatMap by8).length = d.secs.length * 64 := flat_len by8 d.secs h.ok.len8
      have hcl : cur.toList.length = cap * 64 := by simpa using h3
      change List.take (d.secs.length * 64) cur.toList = d.secs.flatMap by8 at h4
      have hpiece := flat_get by8 d.secs h.ok.len8 i old hold
      have h4q : ∀ q, q < d.secs.length * 64 → cur.toList[q]? = (d.secs.flatMap by8)[q]? := by
        intro q hq; rw [← h4, List.getElem?_take, if_pos hq]
      have e3 : (by8 (lay k s old)).length = 64 := by simp [(lay_sec hs hol hk).1]
      apply List.ext_getElem?
      intro q
      rw [List.getElem?_take, mid_get _ _ _ _ _ (by omega), mid_get _ _ _ _ _ (by omega), hlen, e3]
      by_cases hq : q < d.secs.length * 64
      · rw [if_pos hq]
        by_cases hq1 : q < i * 64
        · rw [if_pos hq1, if_pos hq1, h4q q hq]
        · rw [if_neg hq1, if_neg hq1]
          by_cases hq2 : q < i * 64 + 64
          · obtain ⟨j, rfl⟩ : ∃ j, q = i * 64 + j := ⟨q - i * 64, by omega⟩
            have hj : j < 64 := by omega
            rw [if_pos hq2, Nat.add_sub_cancel_left]
            by_cases hjk : j < k
            · rw [if_pos (by omega)]
              simp only [by8, lay, List.map_append]
              rw [List.getElem?_append_left (by simp; omega)]
            · rw [if_neg (by omega)]
              have e4 : i * 64 + k + (i * 64 + j - (i * 64 + k)) = i * 64 + j := by omega
              rw [e4, h4q _ hq, hpiece j hj]
              simp only [by8, lay, List.map_append]
              rw [List.getElem?_append_right (by simp; omega)]
              simp only [List.length_map, List.length_take, List.getElem?_map, List.getElem?_drop]
              congr 2; omega
          · rw [if_neg hq2, if_neg (by omega)]
            have e5 : i * 64 + k + (q - (i * 64 + k)) = q := by omega
            have e6 : i * 64 + 64 + (q - (i * 64 + 64)) = q := by omega
            rw [e5, e6, h4q q hq]
      · rw [if_neg hq, if_neg (by omega), if_neg (by omega), eq_comm, List.getElem?_eq_none_iff]
        omega
    · rw [hrow]
      refine own_kept h.waits (fun q e => ?_)
      have hne : ¬ g' = q := fun e2 => f3 g' rfl (e2 ▸ e)
      simp [World.setRow, Array.getElem?_modify, hne]
    · refine ⟨fun x hx => ?_, fun x hx => ?_, h.ok.left, by simpa using h.ok.size⟩
      · rcases List.mem_or_eq_of_mem_set hx with hx | rfl
        · exact h.ok.secs x hx
        · exact lay_sec hs hol hk
      · have := h.ok.waits x hx
        simpa using this
end Go.Proofs.Ythhgnflkplpklab.Dsc
