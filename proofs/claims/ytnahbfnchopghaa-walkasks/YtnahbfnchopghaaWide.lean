/- A state as four cells: laid into memory, read, stored, handed back. Laws for the walk. -/
import Derived.Test.YtnahbfnchopghaaBase
import Derived.Deep.WholeRow
import Derived.Deep.DeepMust
namespace Go.Proofs.Ytnahbfnchopghaa
open Go.ChangeShapes Go.WideShapes Go.ChangeAt Go.RowKit

/-- A state. -/
structure St where
  id : Int
  kind : Int
  next : Int
  other : Int
def St.zero : St := ⟨0, 0, 0, 0⟩
def St.cells (m : St) : List Value := [.int .i64 m.id, .int .u8 m.kind, .int .i64 m.next, .int .i64 m.other]
def St.val (m : St) : Value := .agg m.cells.toArray
theorem St.len (m : St) : m.cells.length = 4 := rfl
theorem St.one (m : St) : ∀ u ∈ m.cells, u.oneCell' = true := by
  intro u hu; simp [St.cells] at hu
  rcases hu with h | h | h | h <;> subst h <;> rfl
theorem range_kept {w w' : World} {b o : Nat} {cs : List Value} (h : w.rangeAt b o cs) (hk : w'.heap[b]? = w.heap[b]?) : w'.rangeAt b o cs := fun j v hv => by
  rw [World.cell?_of_block (w := w) (a := ⟨b, o + j, none⟩) hk]; exact h j v hv
theorem range_new (w : World) (cs : Array Value) (t : TypeId) : (w.alloc (.cells cs t)).rangeAt w.heap.size 0 cs.toList := by
  intro j v hv
  rw [Nat.zero_add, cell_of_head (heap_alloc_new w _)]
  simpa using hv
theorem z34 : (Try.prog.info? 34).map (fun i => (i.zero, i.size)) = some (some St.zero.val, 4) := by kernel_rfl
theorem n34 : (Try.prog.info? 34).map (·.size) = some 4 := (zero_of_info z34).2
theorem row34 : ∃ d, Try.prog.underlying 34 = some d ∧ d.isRow = true := ⟨_, Try.underlying34, rfl⟩
theorem zero34 (w : World) : (zeroValue 34).run Try.prog w = .ok St.zero.val w := (zero_of_info z34).1 w
/-- At block b lies the record r, and it may be written. -/
structure RV (w : World) (b : Nat) (r : St) : Prop where
  at0 : w.rangeAt b 0 r.cells
  th : w.there b 0 4
theorem RV.lt {w : World} {b : Nat} {r : St} (h : RV w b r) : b < w.heap.size := World.block_lt_of_cell? w _ (h.at0 0 _ rfl)
theorem there_kept {w w' : World} {b o n : Nat} (h : w.there b o n) (hk : w'.heap[b]? = w.heap[b]?) : w'.there b o n := fun j hj => by
  rw [World.cell?_of_block (w := w) (a := ⟨b, o + j, none⟩) hk, World.frozen?_of_block (a := ⟨b, o + j, none⟩) hk]; exact h j hj
theorem RV.kept {w w' : World} {b : Nat} {r : St} (h : RV w b r) (hk : w'.heap[b]? = w.heap[b]?) : RV w' b r := ⟨range_kept h.at0 hk, there_kept h.th hk⟩
theorem RV.below {w w' : World} {b : Nat} {r : St} (h : RV w b r) (hb : Below w.heap.size w w') : RV w' b r := h.kept (hb.block b h.lt)
theorem new_there (w : World) (C : Array Value) (t : TypeId) {n : Nat} (h : C.size = n) : (w.alloc (.cells C t)).there w.heap.size 0 n := by
  intro j hj
  have hb := heap_alloc_new w (.cells C t)
  subst h
  refine ⟨?_, froz_of_head hb _⟩
  rw [cell_of_head hb]; simp [hj]
theorem RV.new (w : World) (r : St) (t : TypeId) : RV (w.alloc (.cells r.cells.toArray t)) w.heap.size r :=
  ⟨by have := range_new w r.cells.toArray t; simpa using this, new_there w _ t rfl⟩
theorem setCells_in {B : Nat} {w wr : World} {b : Nat} {s : List Value} (h : Below B w wr) (hb : B ≤ b) (o : Nat) : Below B w (wr.setCells b o s) := by
  induction s generalizing wr o with
  | nil => exact h
  | cons v r ih => exact ih (h.setCell hb v) (o + 1)
theorem RV.set {w : World} {b : Nat} {r0 : St} (h : RV w b r0) (r : St) : RV (w.setCells b 0 r.cells) b r :=
  ⟨World.rangeAt_setCells_same _ _ _ _ h.th, World.there_setCells h.th _ _ _⟩
section
variable {ops : Array Oper} {rest : List Oper} {op : Oper} {a : Act} {w : World} {Q : Exit → Act → World → Prop}
/-- A parameter's box. -/
theorem bx34 {r : St} (hgd : op.guard = none) (x : Operand) (ho : op.op = .box 34 x) (hx : a.eval x = r.val)
    (h : ∀ b w', w.heap.size ≤ b → RV w' b r → Below w.heap.size w w' → wpList Try.prog ops Q rest (a.put op.dst (.pointer (some ⟨b, 0, none⟩))) w') : wpList Try.prog ops Q (op :: rest) a w :=
  wpList_plain hgd fun K hK => by
    unfold Oper.wp execOp
    simp only [ho, hx]
    simp [Instr.box, newVar, newRow, go_sem, St.val, Value.cells]
    exact hK _ _ (h _ _ (Nat.le_refl _) (RV.new w r 34) (bel1 _ _))
theorem al34 (hgd : op.guard = none) (ho : op.op = .alloc 34)
    (h : ∀ b w', w.heap.size ≤ b → RV w' b St.zero → Below w.heap.size w w' → wpList Try.prog ops Q rest (a.put op.dst (.pointer (some ⟨b, 0, none⟩))) w') : wpList Try.prog ops Q (op :: rest) a w :=
  wpList_plain hgd fun K hK => by
    have hz := zero34 w
    unfold Oper.wp execOp
    simp [ho, Instr.alloc, hz, newVar, newRow, go_sem, St.val, Value.cells]
    exact hK _ _ (h _ _ (Nat.le_refl _) (RV.new w St.zero 34) (bel1 _ _))
theorem ld34 {b : Nat} {r : St} (hr : RV w b r) (hgd : op.guard = none) (y : Operand) (ho : op.op = .load 34 y) (hx : a.eval y = .pointer (some ⟨b, 0, none⟩))
    (h : wpList Try.prog ops Q rest (a.put op.dst r.val) w) : wpList Try.prog ops Q (op :: rest) a w := by
  obtain ⟨d, hu, hd⟩ := row34
  exact wpList_load_mid hgd 34 y ho b 0 hx r.cells d hr.at0 hu hd n34 h
theorem st34 {b : Nat} {r0 r : St} {w0 : World} (hr : RV w b r0) (hB : Below w0.heap.size w0 w) (hb : w0.heap.size ≤ b) (hgd : op.guard = none) (y z : Operand) (ho : op.op = .store 34 y z) (hx : a.eval y = .pointer (some ⟨b, 0, none⟩)) (hy : a.eval z = r.val)
    (h : ∀ w', RV w' b r → Below w0.heap.size w0 w' → wpList Try.prog ops Q rest (a.put op.dst undef) w') : wpList Try.prog ops Q (op :: rest) a w :=
  wpList_store_mid hgd 34 y z ho b 0 r.cells.toArray hx hy (by simpa [St.len] using hr.th) (by rw [n34]; simp [St.len]) (all_oneCell_toArray r.one) (by simpa using h _ (hr.set r) (setCells_in hB hb 0))
theorem bd34 (hgd : op.guard = none) (ho : op.op = .build 34 #[])
    (h : wpList Try.prog ops Q rest (a.put op.dst St.zero.val) w) : wpList Try.prog ops Q (op :: rest) a w :=
  wpList_plain hgd fun K hK => by
    have hz := zero34 w
    unfold Oper.wp execOp
    simp [ho, Instr.build, hz, go_sem, St.val, St.cells, St.zero]
    exact hK _ _ h
/-- A state made of its parts. -/
theorem bdP34 {r : St} (hgd : op.guard = none) (x0 x1 x2 x3 : Operand) (ho : op.op = .build 34 #[(0, x0), (1, x1), (2, x2), (3, x3)]) (h0 : a.eval x0 = .int .i64 r.id) (h1 : a.eval x1 = .int .u8 r.kind) (h2 : a.eval x2 = .int .i64 r.next) (h3 : a.eval x3 = .int .i64 r.other)
    (h : wpList Try.prog ops Q rest (a.put op.dst r.val) w) : wpList Try.prog ops Q (op :: rest) a w :=
  wpList_plain hgd fun K hK => by
    have hz := zero34 w
    unfold Oper.wp execOp
    simp only [ho, List.map_toArray, List.map_cons, List.map_nil, h0, h1, h2, h3]
    simp [Instr.build, hz, go_sem, St.val, St.cells, St.zero]
    exact hK _ _ h
end
theorem results_c1 {fn : Func} {t s : Tmp} {b : Nat} {r : St} {v : Value} (h : fn.results = #[.cell t 34, .tmp s]) (tmps : Array Value) (w : World) (ht : tmps.getD t undef = .pointer (some ⟨b, 0, none⟩))
    (hs : tmps.getD s undef = v) (hr : RV w b r) : (results fn tmps).run Try.prog w = .ok (.tuple #[r.val, v]) w := by
  obtain ⟨d, hu, hd⟩ := row34
  have hl := run_loadVar_mid (P := Try.prog) w b 0 34 r.cells d hr.at0 hu hd n34
  have ht' : tmps[t]?.getD undef = .pointer (some ⟨b, 0, none⟩) := by simpa using ht
  have hs' : tmps[s]?.getD undef = v := by simpa using hs
  simp [results, h, ht', hs', asAddr, hl, St.val]
theorem results_c2 {fn : Func} {t s u : Tmp} {b : Nat} {r : St} {v x : Value} (h : fn.results = #[.cell t 34, .tmp s, .tmp u]) (tmps : Array Value) (w : World) (ht : tmps.getD t undef = .pointer (some ⟨b, 0, none⟩))
    (hs : tmps.getD s undef = v) (hx : tmps.getD u undef = x) (hr : RV w b r) : (results fn tmps).run Try.prog w = .ok (.tuple #[r.val, v, x]) w := by
  obtain ⟨d, hu, hd⟩ := row34
  have hl := run_loadVar_mid (P := Try.prog) w b 0 34 r.cells d hr.at0 hu hd n34
  have ht' : tmps[t]?.getD undef = .pointer (some ⟨b, 0, none⟩) := by simpa using ht
  have hs' : tmps[s]?.getD undef = v := by simpa using hs
  have hx' : tmps[u]?.getD undef = x := by simpa using hx
  simp [results, h, ht', hs', hx', asAddr, hl, St.val]
theorem results_c0 {fn : Func} {t : Tmp} {b : Nat} {r : St} (h : fn.results = #[.cell t 34]) (tmps : Array Value) (w : World) (ht : tmps.getD t undef = .pointer (some ⟨b, 0, none⟩))
    (hr : RV w b r) : (results fn tmps).run Try.prog w = .ok r.val w := by
  obtain ⟨d, hu, hd⟩ := row34
  have hl := run_loadVar_mid (P := Try.prog) w b 0 34 r.cells d hr.at0 hu hd n34
  have ht' : tmps[t]?.getD undef = .pointer (some ⟨b, 0, none⟩) := by simpa using ht
  simp [results, h, ht', asAddr, hl, St.val]
theorem RV.cell {w : World} {b : Nat} {r : St} (h : RV w b r) (i : Nat) {v : Value} (hv : r.cells[i]? = some v) : w.cell? ⟨b, i, none⟩ = some v := by
  have := h.at0 i v hv; rwa [Nat.zero_add] at this
theorem RV.free {w : World} {b : Nat} {r : St} (h : RV w b r) (i : Nat) (hi : i < 4) : w.frozen? ⟨b, i, none⟩ = false := by
  have := (h.th i hi).2; rwa [Nat.zero_add] at this
theorem wpList_want {ops : Array Oper} {rest : List Oper} {op : Oper} {a : Act} {w : World} {Q : Exit → Act → World → Prop} (hw : Region.wanted op (yielded ops a.tmps) = true) (h : ∀ K : Act → World → Prop, (∀ a w, wpList Try.prog ops Q rest a w → K a w) → op.wp Try.prog a w K Q) : wpList Try.prog ops Q (op :: rest) a w :=
  wpList_step fun K hK => by rw [if_pos hw]; exact h K hK
theorem ldw34 {ops : Array Oper} {rest : List Oper} {op : Oper} {a : Act} {w : World} {Q : Exit → Act → World → Prop} {b : Nat} {r : St} (hr : RV w b r) (y : Operand) (ho : op.op = .load 34 y) (hw : Region.wanted op (yielded ops a.tmps) = true) (hx : a.eval y = .pointer (some ⟨b, 0, none⟩))
    (h : wpList Try.prog ops Q rest (a.put op.dst r.val) w) : wpList Try.prog ops Q (op :: rest) a w := by
  obtain ⟨d, hu, hd⟩ := row34
  exact wpList_want hw fun K hK => wp_load_mid 34 y ho b 0 hx r.cells d hr.at0 hu hd n34 (hK _ _ h)
theorem bdw34 {ops : Array Oper} {rest : List Oper} {op : Oper} {a : Act} {w : World} {Q : Exit → Act → World → Prop} (ho : op.op = .build 34 #[]) (hw : Region.wanted op (yielded ops a.tmps) = true)
    (h : wpList Try.prog ops Q rest (a.put op.dst St.zero.val) w) : wpList Try.prog ops Q (op :: rest) a w :=
  wpList_want hw fun K hK => by
    have hz := zero34 w
    unfold Oper.wp execOp
    simp [ho, Instr.build, hz, go_sem, St.val, St.cells, St.zero]
    exact hK _ _ h
end Go.Proofs.Ytnahbfnchopghaa
