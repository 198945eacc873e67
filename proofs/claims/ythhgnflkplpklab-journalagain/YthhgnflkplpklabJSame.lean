/- Two records are held against one another, whatever they are. -/
import Derived.Test.YthhgnflkplpklabJAdd
namespace Go.Proofs.Ythhgnflkplpklab
set_option maxRecDepth 20000
open Go.ChangeShapes Go.WideShapes Go.ChangeAt Go.RowKit
open Dsc (hid)
open Frm (Rc eqi eqs held25 held29)
theorem gqi (d : Nat) (t : TypeId) (k : IntKind) (a b : Int) (w : World) (h : Try.prog.underlying t = some (.int k)) : (Op.equalIn (d + 1) t (.int k a) (.int k b)).run Try.prog w = .ok (decide (a = b)) w := by
  simp [Op.equalIn, run_underlying h]
  by_cases e : a = b <;> simp [e]
theorem gqs (d : Nat) (a b : ByteArray) (w : World) : (Op.equalIn (d + 1) 9 (.string a) (.string b)).run Try.prog w = .ok (decide (a = b)) w := by
  simp [Op.equalIn, run_underlying Try.underlying9]
  by_cases e : a = b
  · subst e; simp [(MapKept.bytes_beq a a).mpr rfl]
  · have : (a == b) = false := by
      cases h : (a == b) with
      | false => rfl
      | true => exact absurd ((MapKept.bytes_beq a b).mp h) e
    simp [this, e]
theorem gq27 (n : Nat) (a b c d a' b' c' d' : Int) (w : World) : (Op.equalIn (n + 2) 37 (.agg #[.int .i64 a, .int .i64 b, .int .i64 c, .int .i64 d]) (.agg #[.int .i64 a', .int .i64 b', .int .i64 c', .int .i64 d'])).run Try.prog w = .ok (decide (a = a' ∧ b = b' ∧ c = c' ∧ d = d')) w := by
  have u3 := Try.underlying3
  have a3 := Try.isAgg3
  have z3 := Try.sizeOf3
  have e1 := gqi n 3 .i64 a a'
  have e2 := gqi n 3 .i64 b b'
  have e3 := gqi n 3 .i64 c c'
  have e4 := gqi n 3 .i64 d d'
  rw [Op.equalIn]
  simp only [Sem.run_bind, run_underlying Try.underlying37, Result.andThen_ok]
  simp only [Std.Legacy.Range.forIn_eq_forIn_range', Std.Legacy.Range.size, Nat.sub_zero, Nat.add_sub_cancel, Nat.div_one, List.range'_succ, List.range'_zero, List.forIn_cons, List.forIn_nil]
  by_cases h1 : a = a'
  · by_cases h2 : b = b'
    · by_cases h3 : c = c'
      · by_cases h4 : d = d'
        · simp only [h1, h2, h3, h4] at *; go_simp
        · simp only [h1, h2, h3, h4] at *; go_simp
      · simp only [h1, h2, h3] at *; go_simp
    · simp only [h1, h2] at *; go_simp
  · simp only [h1] at *; go_simp
theorem gq25 (n : Nat) (a b a' b' : Int) (w : World) : (Op.equalIn (n + 2) 35 (.agg #[.int .u16 a, .int .u32 b]) (.agg #[.int .u16 a', .int .u32 b'])).run Try.prog w = .ok (decide (a = a' ∧ b = b')) w := by
  have a22 := Try.isAgg32
  have z22 := Try.sizeOf32
  have a23 := Try.isAgg33
  have z23 := Try.sizeOf33
  have e1 := gqi n 32 .u16 a a'
  have e2 := gqi n 33 .u32 b b'
  have u22 := Try.underlying32
  have u23 := Try.underlying33
  have h25 := held25
  rw [Op.equalIn]
  simp only [Sem.run_bind, run_underlying Try.underlying35, Result.andThen_ok]
  by_cases h1 : a = a'
  · by_cases h2 : b = b'
    · simp only [h1, h2] at *; go_simp
    · simp only [h1, h2] at *; go_simp
  · simp only [h1] at *; go_simp
set_option maxHeartbeats 2000000 in
theorem gq29 (n : Nat) (ki te st am n0 n1 n2 n3 j0 j1 j2 j3 l0 l1 l2 l3 ki' te' st' am' n0' n1' n2' n3' j0' j1' j2' j3' l0' l1' l2' l3' : Int) (pan pan' : ByteArray) (w : World) :
    (Op.equalIn (n + 3) 39 (.agg #[.int .i64 ki, .int .u16 te, .int .u32 st, .string pan, .int .i64 am, .int .i64 n0, .int .i64 n1, .int .i64 n2, .int .i64 n3, .int .i64 j0, .int .i64 j1, .int .i64 j2, .int .i64 j3, .int .i64 l0, .int .i64 l1, .int .i64 l2, .int .i64 l3])
      (.agg #[.int .i64 ki', .int .u16 te', .int .u32 st', .string pan', .int .i64 am', .int .i64 n0', .int .i64 n1', .int .i64 n2', .int .i64 n3', .int .i64 j0', .int .i64 j1', .int .i64 j2', .int .i64 j3', .int .i64 l0', .int .i64 l1', .int .i64 l2', .int .i64 l3'])).run Try.prog w = .ok (decide ((ki = ki') ∧ (te = te' ∧ st = st') ∧ (pan = pan') ∧ (am = am') ∧ (n0 = n0' ∧ n1 = n1' ∧ n2 = n2' ∧ n3 = n3') ∧ (j0 = j0' ∧ j1 = j1' ∧ j2 = j2' ∧ j3 = j3') ∧ (l0 = l0' ∧ l1 = l1' ∧ l2 = l2' ∧ l3 = l3'))) w := by
  have a3 := Try.isAgg3
  have z3 := Try.sizeOf3
  have a25 := Try.isAgg35
  have z25 := Try.sizeOf35
  have a9 := Try.isAgg9
  have z9 := Try.sizeOf9
  have a2 := Try.isAgg2
  have z2 := Try.sizeOf2
  have a27 := Try.isAgg37
  have z27 := Try.sizeOf37
  obtain ⟨B2, x2⟩ : ∃ B, decide (te = te' ∧ st = st') = B := ⟨_, rfl⟩
  obtain ⟨B5, x5⟩ : ∃ B, decide (n0 = n0' ∧ n1 = n1' ∧ n2 = n2' ∧ n3 = n3') = B := ⟨_, rfl⟩
  obtain ⟨B6, x6⟩ : ∃ B, decide (j0 = j0' ∧ j1 = j1' ∧ j2 = j2' ∧ j3 = j3') = B := ⟨_, rfl⟩
  obtain ⟨B7, x7⟩ : ∃ B, decide (l0 = l0' ∧ l1 = l1' ∧ l2 = l2' ∧ l3 = l3') = B := ⟨_, rfl⟩
  obtain ⟨B1, x1⟩ : ∃ B, decide (ki = ki') = B := ⟨_, rfl⟩
  obtain ⟨B3, x3⟩ : ∃ B, decide (pan = pan') = B := ⟨_, rfl⟩
  obtain ⟨B4, x4⟩ : ∃ B, decide (am = am') = B := ⟨_, rfl⟩
  have e1 := gqi (n + 1) 3 .i64 ki ki'
  have e2 := gq25 n te st te' st'
  have e3 := gqs (n + 1) pan pan'
  have e4 := gqi (n + 1) 2 .i64 am am'
  have e5 := gq27 n n0 n1 n2 n3 n0' n1' n2' n3'
  have e6 := gq27 n j0 j1 j2 j3 j0' j1' j2' j3'
  have e7 := gq27 n l0 l1 l2 l3 l0' l1' l2' l3'
  have hall : decide ((ki = ki') ∧ (te = te' ∧ st = st') ∧ (pan = pan') ∧ (am = am') ∧ (n0 = n0' ∧ n1 = n1' ∧ n2 = n2' ∧ n3 = n3') ∧ (j0 = j0' ∧ j1 = j1' ∧ j2 = j2' ∧ j3 = j3') ∧ (l0 = l0' ∧ l1 = l1' ∧ l2 = l2' ∧ l3 = l3')) = (B1 && (B2 && (B3 && (B4 && (B5 && (B6 && B7)))))) := by
    rw [← x1, ← x2, ← x3, ← x4, ← x5, ← x6, ← x7]; simp only [Bool.decide_and]
  rw [hall]
  rw [x1] at e1
  rw [x2] at e2
  rw [x3] at e3
  rw [x4] at e4
  rw [x5] at e5
  rw [x6] at e6
  rw [x7] at e7
  clear x1 x2 x3 x4 x5 x6 x7 hall
  have u3 := Try.underlying3
  have u2 := Try.underlying2
  have h29 := held29
  rw [Op.equalIn]
  simp only [Sem.run_bind, run_underlying Try.underlying39, Result.andThen_ok]
  cases B1
  · go_simp
  cases B2
  · go_simp
  cases B3
  · go_simp
  cases B4
  · go_simp
  cases B5
  · go_simp
  cases B6
  · go_simp
  cases B7
  · go_simp
  · go_simp
theorem same_iff (r s : Rc) : ((r.kind = s.kind) ∧ (r.term = s.term ∧ r.stan = s.stan) ∧ (r.pan = s.pan) ∧ (r.amt = s.amt) ∧ (r.n0 = s.n0 ∧ r.n1 = s.n1 ∧ r.n2 = s.n2 ∧ r.n3 = s.n3) ∧ (r.j0 = s.j0 ∧ r.j1 = s.j1 ∧ r.j2 = s.j2 ∧ r.j3 = s.j3) ∧ (r.l0 = s.l0 ∧ r.l1 = s.l1 ∧ r.l2 = s.l2 ∧ r.l3 = s.l3)) ↔ r = s := by
  cases r; cases s; simp only [Rc.mk.injEq, and_assoc]
open Classical in
theorem gqR (r s : Rc) (w : World) : (Op.equalIn 10000 39 r.val s.val).run Try.prog w = .ok (decide (r = s)) w := by
  have := gq29 9997 r.kind r.term r.stan r.amt r.n0 r.n1 r.n2 r.n3 r.j0 r.j1 r.j2 r.j3 r.l0 r.l1 r.l2 r.l3 s.kind s.term s.stan s.amt s.n0 s.n1 s.n2 s.n3 s.j0 s.j1 s.j2 s.j3 s.l0 s.l1 s.l2 s.l3 r.pan s.pan w
  rw [decide_eq_decide.2 (same_iff r s)] at this
  exact this
open Classical in
theorem gbin (r s : Rc) (w : World) : (binOp .eql 39 r.val s.val).run Try.prog w = .ok (.bool (decide (r = s))) w ∧ (binOp .neq 39 r.val s.val).run Try.prog w = .ok (.bool (!decide (r = s))) w := by
  have h := gqR r s w
  constructor
  · show ((do pure (.bool (← Op.equalIn 10000 39 r.val s.val)) : Sem Value)).run Try.prog w = _
    simp [h]
  · show ((do pure (.bool (!(← Op.equalIn 10000 39 r.val s.val))) : Sem Value)).run Try.prog w = _
    simp [h]
end Go.Proofs.Ythhgnflkplpklab
