/- Two records that are the same are equal. -/
import Derived.Test.YthhgnflkplpklabRSeatRec
namespace Go.Proofs.Ythhgnflkplpklab.Frm
set_option maxRecDepth 20000
open Go.ChangeShapes Go.WideShapes Go.ChangeAt Go.RowKit

theorem eqi (d : Nat) (t : TypeId) (k : IntKind) (a : Int) (w : World) (h : Try.prog.underlying t = some (.int k)) : (Op.equalIn (d + 1) t (.int k a) (.int k a)).run Try.prog w = .ok true w := by
  simp [Op.equalIn, run_underlying h]
theorem eqs (d : Nat) (a : ByteArray) (w : World) : (Op.equalIn (d + 1) 9 (.string a) (.string a)).run Try.prog w = .ok true w := by
  simp [Op.equalIn, run_underlying Try.underlying9, (MapKept.bytes_beq a a).mpr rfl]
theorem eq27 (n : Nat) (a b c d : Int) (w : World) : (Op.equalIn (n + 2) 37 (.agg #[.int .i64 a, .int .i64 b, .int .i64 c, .int .i64 d]) (.agg #[.int .i64 a, .int .i64 b, .int .i64 c, .int .i64 d])).run Try.prog w = .ok true w := by
  have u3 := Try.underlying3
  have a3 := Try.isAgg3
  have z3 := Try.sizeOf3
  have e1 := eqi n 3 .i64 a
  have e2 := eqi n 3 .i64 b
  have e3 := eqi n 3 .i64 c
  have e4 := eqi n 3 .i64 d
  rw [Op.equalIn]
  simp only [Sem.run_bind, run_underlying Try.underlying37, Result.andThen_ok]
  simp only [Std.Legacy.Range.forIn_eq_forIn_range', Std.Legacy.Range.size, Nat.sub_zero, Nat.add_sub_cancel, Nat.div_one, List.range'_succ, List.range'_zero, List.forIn_cons, List.forIn_nil]
  go_simp
theorem held25 : Try.prog.stoodInHeld 35 = false := by kernel_rfl
theorem held29 : Try.prog.stoodInHeld 39 = false := by kernel_rfl
theorem eq25 (n : Nat) (a b : Int) (w : World) : (Op.equalIn (n + 2) 35 (.agg #[.int .u16 a, .int .u32 b]) (.agg #[.int .u16 a, .int .u32 b])).run Try.prog w = .ok true w := by
  have a22 := Try.isAgg32
  have z22 := Try.sizeOf32
  have a23 := Try.isAgg33
  have z23 := Try.sizeOf33
  have e1 := eqi n 32 .u16 a
  have e2 := eqi n 33 .u32 b
  have u22 := Try.underlying32
  have u23 := Try.underlying33
  have h25 := held25
  rw [Op.equalIn]
  simp only [Sem.run_bind, run_underlying Try.underlying35, Result.andThen_ok]
  go_simp
theorem eq29' (n : Nat) (ki te st am n0 n1 n2 n3 j0 j1 j2 j3 l0 l1 l2 l3 : Int) (pan : ByteArray) (w : World) :
    (Op.equalIn (n + 3) 39 (.agg #[.int .i64 ki, .int .u16 te, .int .u32 st, .string pan, .int .i64 am, .int .i64 n0, .int .i64 n1, .int .i64 n2, .int .i64 n3, .int .i64 j0, .int .i64 j1, .int .i64 j2, .int .i64 j3, .int .i64 l0, .int .i64 l1, .int .i64 l2, .int .i64 l3])
      (.agg #[.int .i64 ki, .int .u16 te, .int .u32 st, .string pan, .int .i64 am, .int .i64 n0, .int .i64 n1, .int .i64 n2, .int .i64 n3, .int .i64 j0, .int .i64 j1, .int .i64 j2, .int .i64 j3, .int .i64 l0, .int .i64 l1, .int .i64 l2, .int .i64 l3])).run Try.prog w = .ok true w := by
  have a3 := Try.isAgg3
  have z3 := Try.sizeOf3
  have a25 := Try.isAgg35
  have z25 := Try.sizeOf35
  have a9 := Try.isAgg9
  have z9 := Try.sizeOf9
  have a2 := Try.isAgg2
  have z2 := Try.sizeOf2
  have a27 := Try.isAgg37
  have z27 := Try.sizeOf37
  have e1 := eqi (n + 1) 3 .i64 ki
  have e2 := eq25 n te st
  have e3 := eqs (n + 1) pan
  have e4 := eqi (n + 1) 2 .i64 am
  have e5 := eq27 n n0 n1 n2 n3
  have e6 := eq27 n j0 j1 j2 j3
  have e7 := eq27 n l0 l1 l2 l3
  have u3 := Try.underlying3
  have u2 := Try.underlying2
  have h29 := held29
  rw [Op.equalIn]
  simp only [Sem.run_bind, run_underlying Try.underlying39, Result.andThen_ok]
  go_simp
theorem eq29 (r : Rc) (w : World) : (Op.equalIn 10000 39 r.val r.val).run Try.prog w = .ok true w := eq29' 9997 _ _ _ _ _ _ _ _ _ _ _ _ _ _ _ _ _ w
theorem eqg29 (r s : Rc) (x y : Operand) (w : World) : (eqGuard .eql 39 x y r.val s.val).run Try.prog w = .ok () w ∧ (eqGuard .neq 39 x y r.val s.val).run Try.prog w = .ok () w := by
  constructor <;> simp [eqGuard, Rc.val]
theorem bin29 (r : Rc) (w : World) : (binOp .eql 39 r.val r.val).run Try.prog w = .ok (.bool true) w ∧ (binOp .neq 39 r.val r.val).run Try.prog w = .ok (.bool false) w := by
  have h := eq29 r w
  constructor
  · show ((do pure (.bool (← Op.equalIn 10000 39 r.val r.val)) : Sem Value)).run Try.prog w = _
    simp [h]
  · show ((do pure (.bool (!(← Op.equalIn 10000 39 r.val r.val))) : Sem Value)).run Try.prog w = _
    simp [h]
section
variable {ops : Array Oper} {rest : List Oper} {op : Oper} {a : Act} {w : World} {Q : Exit → Act → World → Prop}
theorem wpList_want (hw : Region.wanted op (yielded ops a.tmps) = true) (h : ∀ K : Act → World → Prop, (∀ a w, wpList Try.prog ops Q rest a w → K a w) → op.wp Try.prog a w K Q) : wpList Try.prog ops Q (op :: rest) a w :=
  wpList_step fun K hK => by rw [if_pos hw]; exact h K hK
/-- The same behind a guard that holds. -/
theorem ldw29 {b : Nat} {r : Rc} (hr : RV w b r) (y : Operand) (ho : op.op = .load 39 y) (hw : Region.wanted op (yielded ops a.tmps) = true) (hx : a.eval y = .pointer (some ⟨b, 0, none⟩))
    (h : wpList Try.prog ops Q rest (a.put op.dst r.val) w) : wpList Try.prog ops Q (op :: rest) a w := by
  obtain ⟨d, hu, hd⟩ := row29
  exact wpList_want hw fun K hK => wp_load_mid 39 y ho b 0 hx r.cells d hr.at0 hu hd n29 (hK _ _ h)
theorem bdw29 (ho : op.op = .build 39 #[]) (hw : Region.wanted op (yielded ops a.tmps) = true)
    (h : wpList Try.prog ops Q rest (a.put op.dst Rc.zero.val) w) : wpList Try.prog ops Q (op :: rest) a w :=
  wpList_want hw fun K hK => by
    have hz := zero29 w
    unfold Oper.wp execOp
    simp [ho, Instr.build, hz, go_sem, Rc.val, Rc.cells, Rc.zero]
    exact hK _ _ h
end
end Go.Proofs.Ythhgnflkplpklab.Frm
