/- A struct laid into memory in hand moves. -/
import Derived.Test.YtnahbfnchopghaaOpen
import Derived.Deep.CutRange
namespace Go.Proofs.Ytnahbfnchopghaa
open Go.ChangeShapes Go.WideShapes Go.ChangeAt Go.RowKit

theorem step_of {P : Program} {ops : Array Oper} {o : Oper} {a : Act} {w : World} {K : Act → World → Prop} {Q : Exit → Act → World → Prop} {E : Prop} (hg : o.guard = none) (h : Oper.wp P o a w K Q) :
    if Region.wanted o (yielded ops a.tmps) = true then Oper.wp P o a w K Q else E := by
  rw [if_pos (by simp [Region.wanted, hg])]; exact h
theorem run_storeVar_cs (w : World) (b o : Nat) (ty : TypeId) (v : Value) (cs : List Value) (hv : v.cells = cs.toArray) (ht : w.there b o cs.length) (hi : (Try.prog.info? ty).map (·.size) = some cs.length) (h1 : ∀ c ∈ cs, c.oneCell' = true) :
    (storeVar ty ⟨b, o, none⟩ v).run Try.prog w = .ok () (w.setCells b o cs) := by
  have := run_storeCells_cells (P := Try.prog) b o cs 0 w (fun j hj => by simpa using (ht j hj).1) (fun j hj => by simpa using (ht j hj).2) h1
  cases hq : Try.prog.info? ty with
  | none => simp [hq] at hi
  | some i =>
    have hs : cs.length = i.size := by simp [hq] at hi; omega
    simp only [Nat.add_zero] at this
    simp [storeVar, sizeOf, typeInfo, hq, hv, hs, this]
theorem al34w {op : Oper} {a : Act} {w : World} {K : Act → World → Prop} {Q : Exit → Act → World → Prop} (ho : op.op = .alloc 34)
    (h : ∀ b w', w.heap.size ≤ b → RV w' b St.zero → Below w.heap.size w w' → K (a.put op.dst (.pointer (some ⟨b, 0, none⟩))) w') : op.wp Try.prog a w K Q := by
  have hz := zero34 w
  unfold Oper.wp execOp
  simp [ho, Instr.alloc, hz, newVar, newRow, go_sem, St.val, Value.cells]
  exact h _ _ (Nat.le_refl _) (RV.new w St.zero 34) (bel1 _ _)
theorem st34w {op : Oper} {a : Act} {w : World} {K : Act → World → Prop} {Q : Exit → Act → World → Prop} {b : Nat} {r0 r : St} {w0 : World} (hr : RV w b r0) (hB : Below w0.heap.size w0 w) (hb : w0.heap.size ≤ b) (y z : Operand) (ho : op.op = .store 34 y z) (hx : a.eval y = .pointer (some ⟨b, 0, none⟩)) (hy : a.eval z = r.val)
    (h : ∀ w', RV w' b r → Below w0.heap.size w0 w' → K (a.put op.dst undef) w') : op.wp Try.prog a w K Q := by
  have hs := run_storeVar_cs w b 0 34 r.val r.cells rfl (by simpa [St.len] using hr.th) (by rw [n34]; simp [St.len]) r.one
  unfold Oper.wp execOp
  simp only [ho, hx, hy, Instr.storeAt, Instr.sureAddr, Sem.run_bind, Sem.run_pure, Result.andThen_ok, hs]
  exact h _ (hr.set r) (setCells_in hB hb 0)
theorem run_bd34 {ev : Operand → Value} {op : Oper} {r : St} (x0 x1 x2 x3 : Operand) (ho : op.op = .build 34 #[(0, x0), (1, x1), (2, x2), (3, x3)]) (h0 : ev x0 = .int .i64 r.id) (h1 : ev x1 = .int .u8 r.kind) (h2 : ev x2 = .int .i64 r.next) (h3 : ev x3 = .int .i64 r.other) (w : World) :
    (execOp ev op).run Try.prog w = .ok (.value r.val) w := by
  have hz := zero34 w
  unfold execOp
  simp only [ho, List.map_toArray, List.map_cons, List.map_nil, h0, h1, h2, h3]
  simp [Instr.build, hz, go_sem, St.val, St.cells, St.zero]
theorem cellkept {w w' : World} {b i : Nat} {v : Value} (h : w.cell? ⟨b, i, none⟩ = some v) (hb : Below w.heap.size w w') : w'.cell? ⟨b, i, none⟩ = some v := by
  rw [World.cell?_of_block (w := w) (a := ⟨b, i, none⟩) (hb.block b (World.block_lt_of_cell? w _ h))]; exact h
end Go.Proofs.Ytnahbfnchopghaa
