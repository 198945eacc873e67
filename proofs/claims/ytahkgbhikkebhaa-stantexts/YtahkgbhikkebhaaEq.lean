/- Two keys are held against one another; a part of a key. -/
import Derived.Test.YtahkgbhikkebhaaBase
import Derived.Deep.Upon
namespace Go.Proofs.Ytahkgbhikkebhaa
open Go.ChangeShapes Go.WideShapes Go.ChangeAt Go.RowKit

theorem gqi (d : Nat) (t : TypeId) (k : IntKind) (a b : Int) (w : World) (h : Try.prog.underlying t = some (.int k)) : (Op.equalIn (d + 1) t (.int k a) (.int k b)).run Try.prog w = .ok (decide (a = b)) w := by
  simp [Op.equalIn, run_underlying h]
  by_cases e : a = b <;> simp [e]
theorem held33 : Try.prog.stoodInHeld 33 = false := by kernel_rfl
theorem gq33 (n : Nat) (a b a' b' : Int) (w : World) : (Op.equalIn (n + 2) 33 (.agg #[.int .u16 a, .int .u32 b]) (.agg #[.int .u16 a', .int .u32 b'])).run Try.prog w = .ok (decide (a = a' ∧ b = b')) w := by
  have a22 := Try.isAgg27
  have z22 := Try.sizeOf27
  have a23 := Try.isAgg28
  have z23 := Try.sizeOf28
  have e1 := gqi n 27 .u16 a a'
  have e2 := gqi n 28 .u32 b b'
  have u22 := Try.underlying27
  have u23 := Try.underlying28
  have h25 := held33
  rw [Op.equalIn]
  simp only [Sem.run_bind, run_underlying Try.underlying33, Result.andThen_ok]
  by_cases h1 : a = a'
  · by_cases h2 : b = b' <;> go_simp
  · go_simp
theorem gbin33 (a b a' b' : Int) (w : World) : (binOp .eql 33 (.agg #[.int .u16 a, .int .u32 b]) (.agg #[.int .u16 a', .int .u32 b'])).run Try.prog w = .ok (.bool (decide (a = a' ∧ b = b'))) w ∧ (binOp .neq 33 (.agg #[.int .u16 a, .int .u32 b]) (.agg #[.int .u16 a', .int .u32 b'])).run Try.prog w = .ok (.bool (!decide (a = a' ∧ b = b'))) w := by
  have h := gq33 9998 a b a' b' w
  constructor
  · show ((do pure (.bool (← Op.equalIn 10000 33 _ _)) : Sem Value)).run Try.prog w = _
    simp [h]
  · show ((do pure (.bool (!(← Op.equalIn 10000 33 _ _))) : Sem Value)).run Try.prog w = _
    simp [h]
theorem eqg33 (x y : Operand) (a b a' b' : Int) (w : World) : (eqGuard .eql 33 x y (.agg #[.int .u16 a, .int .u32 b]) (.agg #[.int .u16 a', .int .u32 b'])).run Try.prog w = .ok () w ∧ (eqGuard .neq 33 x y (.agg #[.int .u16 a, .int .u32 b]) (.agg #[.int .u16 a', .int .u32 b'])).run Try.prog w = .ok () w := by
  constructor <;> simp [eqGuard]
theorem fld1 (x y : Int) (w : World) : (Instr.field 33 (.agg #[.int .u16 x, .int .u32 y]) 1).run Try.prog w = .ok (.int .u32 y) w := by kernel_rfl
section
variable {e : Operand → Value} {x y : Operand} {a b a' b' : Int} {w : World} {o : Oper}
theorem eqq (ho : o.op = .binOp .eql 33 x y 33) (hx : e x = .agg #[.int .u16 a, .int .u32 b]) (hy : e y = .agg #[.int .u16 a', .int .u32 b']) : (execOp e o).run Try.prog w = .ok (.value (.bool (decide (a = a' ∧ b = b')))) w := by
  unfold execOp
  simp only [ho, hx, hy, Sem.run_bind]
  have h := (gbin33 a b a' b' w).1
  have g := (eqg33 x y a b a' b' w).1
  simp [h, g]
theorem neqq (ho : o.op = .binOp .neq 33 x y 33) (hx : e x = .agg #[.int .u16 a, .int .u32 b]) (hy : e y = .agg #[.int .u16 a', .int .u32 b']) : (execOp e o).run Try.prog w = .ok (.value (.bool (!decide (a = a' ∧ b = b')))) w := by
  unfold execOp
  simp only [ho, hx, hy, Sem.run_bind]
  have h := (gbin33 a b a' b' w).2
  have g := (eqg33 x y a b a' b' w).2
  simp [h, g]
end
section
variable {ops : Array Oper} {rest : List Oper} {op : Oper} {a : Act} {w : World} {Q : Exit → Act → World → Prop}
theorem fd1 {x y : Int} (hgd : op.guard = none) (o : Operand) (ho : op.op = .field 33 o 1) (hx : a.eval o = .agg #[.int .u16 x, .int .u32 y]) (h : wpList Try.prog ops Q rest (a.put op.dst (.int .u32 y)) w) : wpList Try.prog ops Q (op :: rest) a w :=
  wpList_plain hgd fun K hK => by
    unfold Oper.wp execOp
    simp only [ho, hx, Sem.run_bind, fld1, Result.andThen_ok]
    exact hK _ _ h
/-- Two keys held against one another, in a plain region. -/
theorem eq_op {x y x' y' : Int} {z : Bool} (hgd : op.guard = none) (o p : Operand) (ho : op.op = .binOp .eql 33 o p 33) (hx : a.eval o = .agg #[.int .u16 x, .int .u32 y]) (hy : a.eval p = .agg #[.int .u16 x', .int .u32 y']) (hz : decide (x = x' ∧ y = y') = z)
    (h : wpList Try.prog ops Q rest (a.put op.dst (.bool z)) w) : wpList Try.prog ops Q (op :: rest) a w :=
  wpList_plain hgd fun K hK => by
    subst hz
    unfold Oper.wp
    rw [eqq ho hx hy]
    exact hK _ _ h
theorem neq_op {x y x' y' : Int} {z : Bool} (hgd : op.guard = none) (o p : Operand) (ho : op.op = .binOp .neq 33 o p 33) (hx : a.eval o = .agg #[.int .u16 x, .int .u32 y]) (hy : a.eval p = .agg #[.int .u16 x', .int .u32 y']) (hz : (!decide (x = x' ∧ y = y')) = z)
    (h : wpList Try.prog ops Q rest (a.put op.dst (.bool z)) w) : wpList Try.prog ops Q (op :: rest) a w :=
  wpList_plain hgd fun K hK => by
    subst hz
    unfold Oper.wp
    rw [neqq ho hx hy]
    exact hK _ _ h
end
end Go.Proofs.Ytahkgbhikkebhaa
