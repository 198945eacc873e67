/- How a journal lies in memory: a head of seven cells beside its disk; which blocks stay as they are. -/
import Derived.Test.YthhgnflkplpklabDKnown
import Derived.Test.YthhgnflkplpklabRPutR
import Derived.Test.YthhgnflkplpklabJCrash
namespace Go.Proofs.Ythhgnflkplpklab
open Go.ChangeShapes Go.WideShapes Go.ChangeAt Go.RowKit
open Dsc (Dk Dat Feet tc Dsk hid sq bel1 cell_of_head froz_of_head)
open Frm (Rc)

/-- What the head is: which mark counts; both, each an area and how many bytes. -/
structure Hd where
  c : Nat
  a0 : Nat
  b0 : Nat
  a1 : Nat
  b1 : Nat
structure Hd.Ok (h : Hd) : Prop where
  c : h.c ≤ 1
  a0 : h.a0 ≤ 1
  b0 : h.b0 < 2147483648
  a1 : h.a1 ≤ 1
  b1 : h.b1 < 2147483648
def Hd.a (h : Hd) : Nat := if h.c = 0 then h.a0 else h.a1
def Hd.b (h : Hd) : Nat := if h.c = 0 then h.b0 else h.b1
theorem Hd.Ok.a {h : Hd} (k : h.Ok) : h.a ≤ 1 := by unfold Hd.a; split; exact k.a0; exact k.a1
theorem Hd.Ok.b {h : Hd} (k : h.Ok) : h.b < 2147483648 := by unfold Hd.b; split; exact k.b0; exact k.b1
def Hd.cells (h : Hd) : List Value := [.int .i64 (h.c : Int), .int .i64 (h.a0 : Int), .int .i64 (h.b0 : Int), .int .i64 (h.a1 : Int), .int .i64 (h.b1 : Int)]
def Hd.val (h : Hd) : Value := .agg #[.int .i64 (h.c : Int), .int .i64 (h.a0 : Int), .int .i64 (h.b0 : Int), .int .i64 (h.a1 : Int), .int .i64 (h.b1 : Int)]
def mkV (a b : Nat) : Value := .agg #[.int .i64 (a : Int), .int .i64 (b : Int)]
def logC (p : Nat) (h : Hd) (n : Nat) : Array Value := #[.pointer (some ⟨p, 0, none⟩), .int .i64 (h.c : Int), .int .i64 (h.a0 : Int), .int .i64 (h.b0 : Int), .int .i64 (h.a1 : Int), .int .i64 (h.b1 : Int), .int .i64 (n : Int)]
/-- At block q lies a journal of the disk at block p, its head h, n records. -/
def LogAt (w : World) (q p : Nat) (h : Hd) (n : Nat) : Prop := w.heap[q]? = some (.cells (logC p h n) 61 (0, 0))
section
variable {w : World} {q p : Nat} {h : Hd} {n : Nat}
theorem LogAt.c0 (k : LogAt w q p h n) : w.cell? ⟨q, 0, none⟩ = some (.pointer (some ⟨p, 0, none⟩)) := by rw [cell_of_head k]; rfl
theorem LogAt.c1 (k : LogAt w q p h n) : w.cell? ⟨q, 1, none⟩ = some (.int .i64 (h.c : Int)) := by rw [cell_of_head k]; rfl
theorem LogAt.c2 (k : LogAt w q p h n) : w.cell? ⟨q, 2, none⟩ = some (.int .i64 (h.a0 : Int)) := by rw [cell_of_head k]; rfl
theorem LogAt.c3 (k : LogAt w q p h n) : w.cell? ⟨q, 3, none⟩ = some (.int .i64 (h.b0 : Int)) := by rw [cell_of_head k]; rfl
theorem LogAt.c4 (k : LogAt w q p h n) : w.cell? ⟨q, 4, none⟩ = some (.int .i64 (h.a1 : Int)) := by rw [cell_of_head k]; rfl
theorem LogAt.c5 (k : LogAt w q p h n) : w.cell? ⟨q, 5, none⟩ = some (.int .i64 (h.b1 : Int)) := by rw [cell_of_head k]; rfl
theorem LogAt.c6 (k : LogAt w q p h n) : w.cell? ⟨q, 6, none⟩ = some (.int .i64 (n : Int)) := by rw [cell_of_head k]; rfl
theorem LogAt.f (k : LogAt w q p h n) (i : Nat) : w.frozen? ⟨q, i, none⟩ = false := froz_of_head k i
theorem LogAt.lt (k : LogAt w q p h n) : q < w.heap.size := (Array.getElem?_eq_some_iff.1 k).1
theorem LogAt.kept {w' : World} (k : LogAt w q p h n) (e : w'.heap[q]? = w.heap[q]?) : LogAt w' q p h n := e.trans k
theorem LogAt.below {w' : World} (k : LogAt w q p h n) (e : Below w.heap.size w w') : LogAt w' q p h n := k.kept (e.block q k.lt)
end

/-- Blocks of other types than a disk's and a journal's are as they were. -/
structure Kin (w w' : World) : Prop where
  os : w'.os = w.os
  tape : w'.tape = w.tape
  output : w'.output = w.output
  size : w.heap.size ≤ w'.heap.size
  block : ∀ (k : Nat) (c : Array Value) (t : TypeId) (f : Nat × Nat), w.heap[k]? = some (Obj.cells c t f) → t ≠ 51 → t ≠ 70 → t ≠ 72 → t ≠ 61 → w'.heap[k]? = w.heap[k]?
theorem Kin.refl (w : World) : Kin w w := ⟨rfl, rfl, rfl, Nat.le_refl _, fun _ _ _ _ _ _ _ _ _ => rfl⟩
theorem Kin.of {w w' : World} (h : Below w.heap.size w w') : Kin w w' := ⟨h.os, h.tape, h.output, h.size, fun k _ _ _ e _ _ _ _ => h.block k (Array.getElem?_eq_some_iff.1 e).1⟩
theorem Kin.trans {a b c : World} (h : Kin a b) (k : Kin b c) : Kin a c :=
  ⟨k.os.trans h.os, k.tape.trans h.tape, k.output.trans h.output, Nat.le_trans h.size k.size, fun i x t f e h1 h2 h3 h4 => by
    have e1 := h.block i x t f e h1 h2 h3 h4
    exact (k.block i x t f (e1.trans e) h1 h2 h3 h4).trans e1⟩
theorem Kin.then {a b c : World} (h : Kin a b) (k : Below b.heap.size b c) : Kin a c := h.trans (Kin.of k)
/-- What a disk's call turns is a disk's. -/
theorem feet_type {w : World} {p : Nat} {sv wv : Value} {d : Dk} (h : Dat tc w p sv wv d) {k : Nat} (hk : Feet p sv wv k) : ∃ (c : Array Value) (t : TypeId) (f : Nat × Nat), w.heap[k]? = some (Obj.cells c t f) ∧ (t = 51 ∨ t = 70 ∨ t = 72) := by
  rcases hk with rfl | e | e
  · exact ⟨_, _, _, h.head, .inl rfl⟩
  · rcases h.secs.2 with ⟨rfl, _⟩ | ⟨g, cap, cur, rfl, _, hc, _⟩
    · cases e
    · cases e; exact ⟨_, _, _, hc, .inr (.inl rfl)⟩
  · rcases h.waits.2 with ⟨rfl, _⟩ | ⟨g, cap, cur, rfl, _, hc, _⟩
    · cases e
    · cases e; exact ⟨_, _, _, hc, .inr (.inr rfl)⟩
theorem not_feet {w : World} {p : Nat} {sv wv : Value} {d : Dk} (h : Dat tc w p sv wv d) {k : Nat} {c : Array Value} {t : TypeId} {f : Nat × Nat} (e : w.heap[k]? = some (.cells c t f)) (h1 : t ≠ 51) (h2 : t ≠ 70) (h3 : t ≠ 72) : ¬ Feet p sv wv k := by
  intro hk
  obtain ⟨c', t', f', e', ht⟩ := feet_type h hk
  rw [e] at e'; cases e'
  rcases ht with rfl | rfl | rfl
  · exact h1 rfl
  · exact h2 rfl
  · exact h3 rfl
theorem kin_of {w w' : World} {p : Nat} {sv wv : Value} {d : Dk} (h : Dat tc w p sv wv d) (hT : Dsc.Turned (Feet p sv wv) w w') : Kin w w' :=
  ⟨hT.os, hT.tape, hT.output, hT.size, fun k _ _ _ e h1 h2 h3 _ => hT.block k (Array.getElem?_eq_some_iff.1 e).1 (not_feet h e h1 h2 h3)⟩
/-- The disk d lies at block p, in memory made since w0; nothing older has turned. -/
def JD (w0 w : World) (p : Nat) (d : Dk) : Prop := ∃ sv wv, Dat tc w p sv wv d ∧ (∀ k, Feet p sv wv k → w0.heap.size ≤ k) ∧ Below w0.heap.size w0 w
section
variable {w0 w w' : World} {p : Nat} {d d' : Dk}
theorem JD.bel (h : JD w0 w p d) : Below w0.heap.size w0 w := by obtain ⟨_, _, _, _, h⟩ := h; exact h
theorem JD.ok (h : JD w0 w p d) : d.Ok := by obtain ⟨_, _, h, _⟩ := h; exact h.ok
theorem JD.more (h : JD w0 w p d) (k : Below w.heap.size w w') : JD w0 w' p d := by
  obtain ⟨sv, wv, hd, hf, hb⟩ := h
  exact ⟨sv, wv, hd.below k, hf, hb.trans (k.mono hb.size)⟩
theorem JD.after {sv wv : Value} (hf : ∀ k, Feet p sv wv k → w0.heap.size ≤ k) (hb : Below w0.heap.size w0 w) (hT : Dsc.Turned (Feet p sv wv) w w') (k : Dsk tc w' p (Dsc.grow (Feet p sv wv) w w') d') : JD w0 w' p d' := by
  obtain ⟨sv', wv', hd', hf', _⟩ := k
  refine ⟨sv', wv', hd', fun i hi => ?_, hb.trans (hT.below hf hb.size)⟩
  rcases hf' i hi with g | g
  · exact hf i g
  · have := hb.size; omega
theorem dsk_feet {sv wv : Value} (h : Dat tc w p sv wv d) : Dsk tc w p (Feet p sv wv) d := ⟨sv, wv, h, fun _ k => k, h.lt⟩
end
/-- A row of bytes (or of bools, t = 4) that lies in a block of its own kind. -/
def Far (w : World) (ao : Option Addr) (t : TypeId) : Prop := ∀ a, ao = some a → ∃ (c : Array Value) (f : Nat × Nat), w.heap[a.block]? = some (Obj.cells c t f)
theorem Far.kin {w w' : World} {ao : Option Addr} {t : TypeId} (h : Far w ao t) (k : Kin w w') (h1 : t ≠ 51) (h2 : t ≠ 70) (h3 : t ≠ 72) (h4 : t ≠ 61) : Far w' ao t := fun a e => by
  obtain ⟨c, f, hc⟩ := h a e
  exact ⟨c, f, (k.block _ _ _ _ hc h1 h2 h3 h4).trans hc⟩
/-- The journal: its disk, its head. -/
structure JL (w0 w : World) (p q : Nat) (d : Dk) (h : Hd) (n : Nat) : Prop where
  disk : JD w0 w p d
  log : LogAt w q p h n
  new : w0.heap.size ≤ q
section
variable {w0 w w' : World} {p q : Nat} {d d' : Dk} {h : Hd} {n : Nat}
theorem JL.more (j : JL w0 w p q d h n) (k : Below w.heap.size w w') : JL w0 w' p q d h n := ⟨j.disk.more k, j.log.below k, j.new⟩
/-- A disk's call leaves the journal's head. -/
theorem LogAt.turned {sv wv : Value} (j : LogAt w q p h n) (hD : Dat tc w p sv wv d) (hT : Dsc.Turned (Feet p sv wv) w w') : LogAt w' q p h n :=
  j.kept (hT.block q j.lt (not_feet hD j (by decide) (by decide) (by decide)))
end
end Go.Proofs.Ythhgnflkplpklab
