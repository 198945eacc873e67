/- Hand moves through drawn regions: a request's alloc, store, build. -/
import Derived.Test.YthchgjndaeefmaaLaws
namespace Go.Proofs.Ythchgjndaeefmaa
open Go.ChangeShapes Go.WideShapes Go.ChangeAt Go.RowKit

theorem step_of {P : Program} {ops : Array Oper} {o : Oper} {a : Act} {w : World} {K : Act → World → Prop} {Q : Exit → Act → World → Prop} {E : Prop} (hg : o.guard = none) (h : Oper.wp P o a w K Q) :
    if Region.wanted o (yielded ops a.tmps) = true then Oper.wp P o a w K Q else E := by
  rw [if_pos (by simp [Region.wanted, hg])]; exact h
theorem al25w {op : Oper} {a : Act} {w : World} {K : Act → World → Prop} {Q : Exit → Act → World → Prop} (ho : op.op = .alloc 25)
    (h : ∀ b w', w.heap.size ≤ b → RV w' b Ps.zero → Below w.heap.size w w' → K (a.put op.dst (.pointer (some ⟨b, 0, none⟩))) w') : op.wp Try.prog a w K Q := by
  have hz := zero25 w
  unfold Oper.wp execOp
  simp [ho, Instr.alloc, hz, newVar, newRow, go_sem, Ps.val, Value.cells]
  exact h _ _ (Nat.le_refl _) (RV.new w Ps.zero 25) (bel1 _ _)
theorem st25w {op : Oper} {a : Act} {w : World} {K : Act → World → Prop} {Q : Exit → Act → World → Prop} {b : Nat} {r0 r : Ps} {w0 : World} (hr : RV w b r0) (hB : Below w0.heap.size w0 w) (hb : w0.heap.size ≤ b) (y z : Operand) (ho : op.op = .store 25 y z) (hx : a.eval y = .pointer (some ⟨b, 0, none⟩)) (hy : a.eval z = r.val)
    (h : ∀ w', RV w' b r → Below w0.heap.size w0 w' → K (a.put op.dst undef) w') : op.wp Try.prog a w K Q := by
  have hs := run_storeVar_cs w b 0 25 r.val r.cells rfl (by simpa [Ps.len] using hr.th) (by rw [n25]; simp [Ps.len]) r.one
  unfold Oper.wp execOp
  simp only [ho, hx, hy, Instr.storeAt, Instr.sureAddr, Sem.run_bind, Sem.run_pure, Result.andThen_ok, hs]
  exact h _ (hr.set r) (setCells_in hB hb 0)
theorem run_bd25 {ev : Operand → Value} {op : Oper} {r : Ps} (x0 x1 x2 x3 : Operand) (ho : op.op = .build 25 #[(0, x0), (1, x1), (2, x2), (3, x3)]) (h0 : ev x0 = .int .u16 r.term) (h1 : ev x1 = .int .u32 r.seq) (h2 : ev x2 = .string r.pan) (h3 : ev x3 = .int .i64 r.amt) (w : World) :
    (execOp ev op).run Try.prog w = .ok (.value r.val) w := by
  have hz := zero25 w
  unfold execOp
  simp only [ho, List.map_toArray, List.map_cons, List.map_nil, h0, h1, h2, h3]
  simp [Instr.build, hz, go_sem, Ps.val, Ps.cells, Ps.zero]
end Go.Proofs.Ythchgjndaeefmaa
