/- Messages of numbers: what is made is some message. -/
import Derived.Test.YtfpjjdlfofejcaaSetR
import Derived.Test.YtfpjjdlfofejcaaKnown
namespace Go.Proofs.Ytfpjjdlfofejcaa
open Go.ChangeShapes Go.WideShapes Go.ChangeAt Go.RowKit

def fQ0 (q : Bool × Nat × Nat × Bool) : Prop := q.2.2.1 = 0 → q.2.1 ≤ 42
theorem f_len0 (n : Int) : fV n = 0 → fL n ≤ 42 := by
  show fQ0 (fP n)
  unfold fP
  exact ite_c (by unfold fQ0; decide) (ite_c (by unfold fQ0; decide) (ite_c (by unfold fQ0; decide) (ite_c (by unfold fQ0; decide) (ite_c (by unfold fQ0; decide) (ite_c (by unfold fQ0; decide) (ite_c (by unfold fQ0; decide) (ite_c (by unfold fQ0; decide) (ite_c (by unfold fQ0; decide) (ite_c (by unfold fQ0; decide) (ite_c (by unfold fQ0; decide) (ite_c (by unfold fQ0; decide) (ite_c (by unfold fQ0; decide) (ite_c (by unfold fQ0; decide) (ite_c (by unfold fQ0; decide) (ite_c (by unfold fQ0; decide) (ite_c (by unfold fQ0; decide) (ite_c (by unfold fQ0; decide) (by unfold fQ0; decide))))))))))))))))))
/-- A list of numbers in a block. -/
def NB (w : World) (b : Nat) (zs : List Int) : Prop := w.heap[b]? = some (.cells (I.cellsOf zs) 3 (0, 0))
theorem NB.lt {w : World} {b : Nat} {zs : List Int} (h : NB w b zs) : b < w.heap.size := (Array.getElem?_eq_some_iff.1 h).1
theorem NB.more {w w' : World} {b : Nat} {zs : List Int} (h : NB w b zs) (hb : Below w.heap.size w w') : NB w' b zs := (hb.block b h.lt).trans h
theorem NB.cell {w : World} {b : Nat} {zs : List Int} (h : NB w b zs) (i : Nat) (hi : i < zs.length) : w.cell? ⟨b, i, none⟩ = some (.int .i64 (zs.getD i 0)) := by
  rw [cell_of_head h]; simp [I.cellsOf, hi]
theorem NB.other {B : Nat} {w : World} {b : Nat} {zs : List Int} {u : Value} {n : Nat} {l : List Fd} (h : NB w b zs) (hr : RowF B w u n l) : ¬ u.ownBlock = some b := by
  intro e
  unfold NB at h
  rcases hr.1.2 with ⟨rfl, h0⟩ | ⟨g, cap, cur, rfl, _, hc, _⟩
  · cases e
  · cases e
    rw [h] at hc
    cases hc
theorem NB.turned {B : Nat} {w w' : World} {b : Nat} {zs : List Int} {u : Value} {n : Nat} {l : List Fd} (h : NB w b zs) (hr : RowF B w u n l) (t : Turned (fun k => u.ownBlock = some k) w w') : NB w' b zs :=
  (t.block b h.lt (h.other hr)).trans h
section
variable {ops : Array Oper} {rest : List Oper} {op : Oper} {a : Act} {w : World} {Q : Exit → Act → World → Prop}
/-- A slice of numbers. -/
theorem bsN (zs : List Int) (len N : Nat) (hN : w.heap.size = N) (hlen : len = zs.length) (hp : 0 < len) (hs : len ≤ 1000) (hgd : op.guard = none) (parts : Array (Nat × Operand)) (ho : op.op = .buildSlice 31 len parts)
    (hparts : parts.toList = (zs.zipIdx 0).map fun x => (x.2, Operand.const (Value.int .i64 x.1)))
    (h : ∀ w', NB w' N zs → w'.heap.size = N + 1 → Below w.heap.size w w' → wpList Try.prog ops Q rest (a.put op.dst (.slice (some ⟨N, 0, none⟩) len len)) w') : wpList Try.prog ops Q (op :: rest) a w := by
  refine wpList_buildFlat hgd 31 3 len parts ho .i64 zs Try.underlying31 (by kernel_rfl) (by kernel_rfl) hlen hp (by omega) hparts ?_
  subst hN
  exact h _ (heap_alloc_new w _) (by simp) (bel1 _ _)
end
/-- Each part of the numbers that came in lies in this world. -/
def InC (w : World) (ao : Option Addr) (len : Nat) : Prop := ∀ i, i < len → ∃ (N K G : Int) (V : ByteArray) (b o : Nat), (0 ≤ N ∧ N < 256) ∧ (0 ≤ K ∧ K < 18446744073709551616) ∧ (0 ≤ G ∧ G < 65536) ∧ V.size ≤ 9223372036854775807 ∧ ao = some ⟨b, o, none⟩ ∧
  w.cell? ⟨b, o + i * 4, none⟩ = some (.int .u8 N) ∧ w.cell? ⟨b, o + i * 4 + 1, none⟩ = some (.int .u64 K) ∧ w.cell? ⟨b, o + i * 4 + 2, none⟩ = some (.int .u16 G) ∧ w.cell? ⟨b, o + i * 4 + 3, none⟩ = some (.string V)
def ns18 : List Int := [2, 3, 4, 7, 11, 12, 13, 37, 38, 39, 41, 42, 49, 54, 60, 70, 90, 95]
theorem ns18_ok (i : Nat) (h : i < 18) : 2 ≤ ns18.getD i 0 ∧ ns18.getD i 0 ≤ 95 := by
  have : ∀ i : Fin 18, 2 ≤ ns18.getD i.1 0 ∧ ns18.getD i.1 0 ≤ 95 := by decide
  exact this ⟨i, h⟩
def ns9 : List Int := [100, 110, 200, 210, 420, 430, 800, 810, 220]
theorem ns9_ok (i : Nat) (h : i < 9) : 100 ≤ ns9.getD i 0 ∧ ns9.getD i 0 ≤ 900 := by
  have : ∀ i : Fin 9, 100 ≤ ns9.getD i.1 0 ∧ ns9.getD i.1 0 ≤ 900 := by decide
  exact this ⟨i, h⟩
/-- The message on its way: the result's variable, the message's variable, the fields' numbers. -/
structure MS (w : World) (mt : Int) (W : World) (u : Value) (N : Nat) (L : List Fd) (q : Value) : Prop where
  d : MkF w W u N L
  x : VB W w.heap.size 0 (.slice none 0 0)
  o : VB W (w.heap.size + 2) mt q
  n : NB W (w.heap.size + 3) ns18
section
variable {w W W' : World} {mt : Int} {u u' q : Value} {N N' : Nat} {L L' : List Fd}
theorem MS.more (h : MS w mt W u N L q) (hb : Below W.heap.size W W') : MS w mt W' u N L q := ⟨h.d.more hb, h.x.more hb, h.o.more hb, h.n.more hb⟩
theorem MS.turned (h : MS w mt W u N L q) (d : MkF w W' u' N' L') (t : Turned (fun k => u.ownBlock = some k) W W') : MS w mt W' u' N' L' q :=
  ⟨d, h.x.turned h.d.1 t, h.o.turned h.d.1 t, h.n.turned h.d.1 t⟩
theorem MS.store (h : MS w mt W u N L q) : MS w mt (W.setCell ⟨w.heap.size + 2, 1, none⟩ u) u N L u := by
  refine ⟨⟨⟨own_kept h.d.1.1 fun k e => ?_, h.d.1.2⟩, h.d.2.setCell (by show w.heap.size ≤ w.heap.size + 2; omega) u⟩, h.x.keep ?_, h.o.set1 u, ?_⟩
  · have hk : k ≠ w.heap.size + 2 := fun e' => h.o.other h.d.1 (e' ▸ e)
    rw [Below.heap_setCell _ _ _ _ hk]
  · rw [Below.heap_setCell]; show w.heap.size ≠ w.heap.size + 2; omega
  · exact (Below.heap_setCell _ _ _ _ (by show w.heap.size + 3 ≠ w.heap.size + 2; omega)).trans h.n
end
theorem flF_set (V : ByteArray) : ∀ (l : List Fd) (i : Nat) (r : Fd), l[i]? = some r → (flF l).set (i * 2 + 1) (.string V) = flF (l.set i ⟨r.N, V⟩)
  | [], i, r, h => by simp at h
  | f :: q, 0, r, h => by
    simp at h; subst h
    simp [flF, Fd.cells]
  | f :: q, i + 1, r, h => by
    have ih := flF_set V q i r (by simpa using h)
    have e : ∀ x : List Fd, flF (f :: x) = .int .i64 f.N :: .string f.V :: flF x := fun x => by simp [flF, Fd.cells]
    rw [List.set_cons_succ, e, e, show (i + 1) * 2 + 1 = i * 2 + 1 + 1 + 1 by omega, List.set_cons_succ, List.set_cons_succ, ih]
/-- A field of a row of the call's own gets another value. -/
theorem setV {B : Nat} {w : World} {g : Nat} {c n : Nat} {l : List Fd} (h : RowF B w (.slice (some ⟨g, 0, none⟩) n c) n l) (i : Nat) (hi : i < n) (V : ByteArray) (hV : V.size ≤ 9223372036854775807) :
    ∃ l', RowF B (w.setCell ⟨g, i * 2 + 1, none⟩ (.string V)) (.slice (some ⟨g, 0, none⟩) n c) n l' := by
  have hlen := h.len
  obtain ⟨r, hr⟩ : ∃ r, l[i]? = some r := ⟨l[i]'(by omega), List.getElem?_eq_getElem _⟩
  refine ⟨l.set i ⟨r.N, V⟩, ⟨?_, ?_⟩, fun x hx => ?_⟩
  · rw [flF_len, List.length_set]; omega
  · rcases h.1.2 with ⟨e, _⟩ | ⟨g', cap, cur, e, hB, hc, h1, h2, h3, h4⟩
    · cases e
    · cases e
      refine .inr ⟨g, c, cur.setIfInBounds (i * 2 + 1) (.string V), rfl, hB, ?_, h1, h2, by simpa using h3, ?_⟩
      · simp [World.setCell, Array.getElem?_modify, hc]
      · rw [Array.toList_setIfInBounds, List.take_set, h4]
        exact flF_set V l i r hr
  · have := List.mem_or_eq_of_mem_set hx
    rcases this with hx | rfl
    · exact h.2 x hx
    · have hk := h.2 r (List.mem_of_getElem? hr)
      exact ⟨hk.1, hk.2.1, hV⟩
end Go.Proofs.Ytfpjjdlfofejcaa
