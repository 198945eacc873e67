/- A record as 17 cells: laid into memory, read, stored, handed back. Laws for the walk. -/
import Derived.Test.YthhgnflkplpklabRBody
import Derived.Deep.WholeRow
namespace Go.Proofs.Ythhgnflkplpklab.Frm
open Go.ChangeShapes Go.WideShapes Go.ChangeAt Go.RowKit

theorem z29 : (Try.prog.info? 39).map (fun i => (i.zero, i.size)) = some (some Rc.zero.val, 17) := by kernel_rfl
theorem n29 : (Try.prog.info? 39).map (·.size) = some 17 := (zero_of_info z29).2
theorem row29 : ∃ d, Try.prog.underlying 39 = some d ∧ d.isRow = true := ⟨_, Try.underlying39, rfl⟩
theorem zero29 (w : World) : (zeroValue 39).run Try.prog w = .ok Rc.zero.val w := (zero_of_info z29).1 w

/-- At block b lies the record r, and it may be written. -/
structure RV (w : World) (b : Nat) (r : Rc) : Prop where
  at0 : w.rangeAt b 0 r.cells
  th : w.there b 0 17
theorem RV.recAt {w : World} {b : Nat} {r : Rc} (h : RV w b r) : RecAt w b r := .of h.at0
theorem RV.lt {w : World} {b : Nat} {r : Rc} (h : RV w b r) : b < w.heap.size := World.block_lt_of_cell? w _ h.recAt.c0
theorem there_kept {w w' : World} {b o n : Nat} (h : w.there b o n) (hk : w'.heap[b]? = w.heap[b]?) : w'.there b o n := fun j hj => by
  rw [World.cell?_of_block (w := w) (a := ⟨b, o + j, none⟩) hk, World.frozen?_of_block (a := ⟨b, o + j, none⟩) hk]; exact h j hj
theorem RV.kept {w w' : World} {b : Nat} {r : Rc} (h : RV w b r) (hk : w'.heap[b]? = w.heap[b]?) : RV w' b r := ⟨range_kept h.at0 hk, there_kept h.th hk⟩
theorem RV.below {w w' : World} {b : Nat} {r : Rc} (h : RV w b r) (hb : Below w.heap.size w w') : RV w' b r := h.kept (hb.block b h.lt)
theorem new_there (w : World) (C : Array Value) (t : TypeId) {n : Nat} (h : C.size = n) : (w.alloc (.cells C t)).there w.heap.size 0 n := by
  intro j hj
  have hb := heap_alloc_new w (.cells C t)
  subst h
  refine ⟨?_, froz_of_head hb _⟩
  rw [cell_of_head hb]; simp [hj]
theorem RV.new (w : World) (r : Rc) (t : TypeId) : RV (w.alloc (.cells r.cells.toArray t)) w.heap.size r :=
  ⟨by have := range_new w r.cells.toArray t; simpa using this, new_there w _ t rfl⟩
theorem setCells_in {B : Nat} {w wr : World} {b : Nat} {s : List Value} (h : Below B w wr) (hb : B ≤ b) (o : Nat) : Below B w (wr.setCells b o s) := by
  induction s generalizing wr o with
  | nil => exact h
  | cons v r ih => exact ih (h.setCell hb v) (o + 1)
theorem RV.set {w : World} {b : Nat} {r0 : Rc} (h : RV w b r0) (r : Rc) : RV (w.setCells b 0 r.cells) b r :=
  ⟨World.rangeAt_setCells_same _ _ _ _ h.th, World.there_setCells h.th _ _ _⟩
section
variable {ops : Array Oper} {rest : List Oper} {op : Oper} {a : Act} {w : World} {Q : Exit → Act → World → Prop}
/-- A parameter's box. -/
theorem bx29 {r : Rc} (hgd : op.guard = none) (x : Operand) (ho : op.op = .box 39 x) (hx : a.eval x = r.val)
    (h : ∀ b w', w.heap.size ≤ b → RV w' b r → Below w.heap.size w w' → wpList Try.prog ops Q rest (a.put op.dst (.pointer (some ⟨b, 0, none⟩))) w') : wpList Try.prog ops Q (op :: rest) a w :=
  wpList_plain hgd fun K hK => by
    unfold Oper.wp execOp
    simp only [ho, hx]
    simp [Instr.box, newVar, newRow, go_sem, Rc.val, Value.cells]
    exact hK _ _ (h _ _ (Nat.le_refl _) (RV.new w r 39) (bel1 _ _))
theorem al29 (hgd : op.guard = none) (ho : op.op = .alloc 39)
    (h : ∀ b w', w.heap.size ≤ b → RV w' b Rc.zero → Below w.heap.size w w' → wpList Try.prog ops Q rest (a.put op.dst (.pointer (some ⟨b, 0, none⟩))) w') : wpList Try.prog ops Q (op :: rest) a w :=
  wpList_plain hgd fun K hK => by
    have hz := zero29 w
    unfold Oper.wp execOp
    simp [ho, Instr.alloc, hz, newVar, newRow, go_sem, Rc.val, Value.cells]
    exact hK _ _ (h _ _ (Nat.le_refl _) (RV.new w Rc.zero 39) (bel1 _ _))
theorem ld29 {b : Nat} {r : Rc} (hr : RV w b r) (hgd : op.guard = none) (y : Operand) (ho : op.op = .load 39 y) (hx : a.eval y = .pointer (some ⟨b, 0, none⟩))
    (h : wpList Try.prog ops Q rest (a.put op.dst r.val) w) : wpList Try.prog ops Q (op :: rest) a w := by
  obtain ⟨d, hu, hd⟩ := row29
  exact wpList_load_mid hgd 39 y ho b 0 hx r.cells d hr.at0 hu hd n29 h
theorem st29 {b : Nat} {r0 r : Rc} {w0 : World} (hr : RV w b r0) (hB : Below w0.heap.size w0 w) (hb : w0.heap.size ≤ b) (hgd : op.guard = none) (y z : Operand) (ho : op.op = .store 39 y z) (hx : a.eval y = .pointer (some ⟨b, 0, none⟩)) (hy : a.eval z = r.val)
    (h : ∀ w', RV w' b r → Below w0.heap.size w0 w' → wpList Try.prog ops Q rest (a.put op.dst undef) w') : wpList Try.prog ops Q (op :: rest) a w :=
  wpList_store_mid hgd 39 y z ho b 0 r.cells.toArray hx hy (by simpa [Rc.len] using hr.th) (by rw [n29]; simp [Rc.len]) (all_oneCell_toArray r.one) (by simpa using h _ (hr.set r) (setCells_in hB hb 0))
theorem bd29 (hgd : op.guard = none) (ho : op.op = .build 39 #[])
    (h : wpList Try.prog ops Q rest (a.put op.dst Rc.zero.val) w) : wpList Try.prog ops Q (op :: rest) a w :=
  wpList_plain hgd fun K hK => by
    have hz := zero29 w
    unfold Oper.wp execOp
    simp [ho, Instr.build, hz, go_sem, Rc.val, Rc.cells, Rc.zero]
    exact hK _ _ h
end
theorem results_c1 {fn : Func} {t s : Tmp} {b : Nat} {r : Rc} {v : Value} (h : fn.results = #[.cell t 39, .tmp s]) (tmps : Array Value) (w : World) (ht : tmps.getD t undef = .pointer (some ⟨b, 0, none⟩))
    (hs : tmps.getD s undef = v) (hr : RV w b r) : (results fn tmps).run Try.prog w = .ok (.tuple #[r.val, v]) w := by
  obtain ⟨d, hu, hd⟩ := row29
  have hl := run_loadVar_mid (P := Try.prog) w b 0 39 r.cells d hr.at0 hu hd n29
  have ht' : tmps[t]?.getD undef = .pointer (some ⟨b, 0, none⟩) := by simpa using ht
  have hs' : tmps[s]?.getD undef = v := by simpa using hs
  simp [results, h, ht', hs', asAddr, hl, Rc.val]
theorem results_c2 {fn : Func} {t s u : Tmp} {b : Nat} {r : Rc} {v x : Value} (h : fn.results = #[.cell t 39, .tmp s, .tmp u]) (tmps : Array Value) (w : World) (ht : tmps.getD t undef = .pointer (some ⟨b, 0, none⟩))
    (hs : tmps.getD s undef = v) (hx : tmps.getD u undef = x) (hr : RV w b r) : (results fn tmps).run Try.prog w = .ok (.tuple #[r.val, v, x]) w := by
  obtain ⟨d, hu, hd⟩ := row29
  have hl := run_loadVar_mid (P := Try.prog) w b 0 39 r.cells d hr.at0 hu hd n29
  have ht' : tmps[t]?.getD undef = .pointer (some ⟨b, 0, none⟩) := by simpa using ht
  have hs' : tmps[s]?.getD undef = v := by simpa using hs
  have hx' : tmps[u]?.getD undef = x := by simpa using hx
  simp [results, h, ht', hs', hx', asAddr, hl, Rc.val]
theorem results_c0 {fn : Func} {t : Tmp} {b : Nat} {r : Rc} (h : fn.results = #[.cell t 39]) (tmps : Array Value) (w : World) (ht : tmps.getD t undef = .pointer (some ⟨b, 0, none⟩))
    (hr : RV w b r) : (results fn tmps).run Try.prog w = .ok r.val w := by
  obtain ⟨d, hu, hd⟩ := row29
  have hl := run_loadVar_mid (P := Try.prog) w b 0 39 r.cells d hr.at0 hu hd n29
  have ht' : tmps[t]?.getD undef = .pointer (some ⟨b, 0, none⟩) := by simpa using ht
  simp [results, h, ht', asAddr, hl, Rc.val]
end Go.Proofs.Ythhgnflkplpklab.Frm
