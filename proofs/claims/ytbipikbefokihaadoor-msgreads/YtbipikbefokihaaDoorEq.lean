/- Two messages are held against one another, whatever they are. -/
import Derived.Test.YtbipikbefokihaaDoorKd
namespace Go.Proofs.YtbipikbefokihaaDoor
open Go.ChangeShapes Go.WideShapes Go.ChangeAt Go.RowKit

theorem held27 : Tryd.prog.stoodInHeld 27 = false := by kernel_rfl
theorem gqi (d : Nat) (t : TypeId) (k : IntKind) (a b : Int) (w : World) (h : Tryd.prog.underlying t = some (.int k)) : (Op.equalIn (d + 1) t (.int k a) (.int k b)).run Tryd.prog w = .ok (decide (a = b)) w := by
  simp [Op.equalIn, run_underlying h]
  by_cases e : a = b <;> simp [e]
theorem gqs (d : Nat) (a b : ByteArray) (w : World) : (Op.equalIn (d + 1) 9 (.string a) (.string b)).run Tryd.prog w = .ok (decide (a = b)) w := by
  simp [Op.equalIn, run_underlying Tryd.underlying9]
  by_cases e : a = b
  · subst e; simp [(MapKept.bytes_beq a a).mpr rfl]
  · have : (a == b) = false := by
      cases h : (a == b) with
      | false => rfl
      | true => exact absurd ((MapKept.bytes_beq a b).mp h) e
    simp [this, e]
theorem gq25 (n : Nat) (a b c d a' b' c' d' : Int) (w : World) : (Op.equalIn (n + 2) 25 (.agg #[.int .i64 a, .int .i64 b, .int .i64 c, .int .i64 d]) (.agg #[.int .i64 a', .int .i64 b', .int .i64 c', .int .i64 d'])).run Tryd.prog w = .ok (decide (a = a' ∧ b = b' ∧ c = c' ∧ d = d')) w := by
  have u3 := Tryd.underlying3
  have a3 := Tryd.isAgg3
  have z3 := Tryd.sizeOf3
  have e1 := gqi n 3 .i64 a a'
  have e2 := gqi n 3 .i64 b b'
  have e3 := gqi n 3 .i64 c c'
  have e4 := gqi n 3 .i64 d d'
  rw [Op.equalIn]
  simp only [Sem.run_bind, run_underlying Tryd.underlying25, Result.andThen_ok]
  simp only [Std.Legacy.Range.forIn_eq_forIn_range', Std.Legacy.Range.size, Nat.sub_zero, Nat.add_sub_cancel, Nat.div_one, List.range'_succ, List.range'_zero, List.forIn_cons, List.forIn_nil]
  by_cases h1 : a = a'
  · by_cases h2 : b = b'
    · by_cases h3 : c = c'
      · by_cases h4 : d = d'
        · simp only [h1, h2, h3, h4] at *; go_simp
        · simp only [h1, h2, h3, h4] at *; go_simp
      · simp only [h1, h2, h3] at *; go_simp
    · simp only [h1, h2] at *; go_simp
  · simp only [h1] at *; go_simp
set_option maxHeartbeats 4000000 in
theorem gq27 (n : Nat) (kind term stan amt n0 n1 n2 n3 j0 j1 j2 j3 c0 c1 c2 c3 d0 d1 d2 d3 loads l0 l1 l2 l3 kind' term' stan' amt' n0' n1' n2' n3' j0' j1' j2' j3' c0' c1' c2' c3' d0' d1' d2' d3' loads' l0' l1' l2' l3' : Int) (pan pan' : ByteArray) (w : World) :
    (Op.equalIn (n + 3) 27 (.agg #[.int .i64 kind, .int .u16 term, .int .u32 stan, .string pan, .int .i64 amt, .int .i64 n0, .int .i64 n1, .int .i64 n2, .int .i64 n3, .int .i64 j0, .int .i64 j1, .int .i64 j2, .int .i64 j3, .int .i64 c0, .int .i64 c1, .int .i64 c2, .int .i64 c3, .int .i64 d0, .int .i64 d1, .int .i64 d2, .int .i64 d3, .int .i64 loads, .int .i64 l0, .int .i64 l1, .int .i64 l2, .int .i64 l3]) (.agg #[.int .i64 kind', .int .u16 term', .int .u32 stan', .string pan', .int .i64 amt', .int .i64 n0', .int .i64 n1', .int .i64 n2', .int .i64 n3', .int .i64 j0', .int .i64 j1', .int .i64 j2', .int .i64 j3', .int .i64 c0', .int .i64 c1', .int .i64 c2', .int .i64 c3', .int .i64 d0', .int .i64 d1', .int .i64 d2', .int .i64 d3', .int .i64 loads', .int .i64 l0', .int .i64 l1', .int .i64 l2', .int .i64 l3'])).run Tryd.prog w = .ok (decide ((kind = kind') ∧ (term = term') ∧ (stan = stan') ∧ (pan = pan') ∧ (amt = amt') ∧ (n0 = n0' ∧ n1 = n1' ∧ n2 = n2' ∧ n3 = n3') ∧ (j0 = j0' ∧ j1 = j1' ∧ j2 = j2' ∧ j3 = j3') ∧ (c0 = c0' ∧ c1 = c1' ∧ c2 = c2' ∧ c3 = c3') ∧ (d0 = d0' ∧ d1 = d1' ∧ d2 = d2' ∧ d3 = d3') ∧ (loads = loads') ∧ (l0 = l0' ∧ l1 = l1' ∧ l2 = l2' ∧ l3 = l3'))) w := by
  have a3 := Tryd.isAgg3
  have z3 := Tryd.sizeOf3
  have a22 := Tryd.isAgg22
  have z22 := Tryd.sizeOf22
  have a23 := Tryd.isAgg23
  have z23 := Tryd.sizeOf23
  have a9 := Tryd.isAgg9
  have z9 := Tryd.sizeOf9
  have a2 := Tryd.isAgg2
  have z2 := Tryd.sizeOf2
  have a25 := Tryd.isAgg25
  have z25 := Tryd.sizeOf25
  obtain ⟨B1, x1⟩ : ∃ B, decide (kind = kind') = B := ⟨_, rfl⟩
  obtain ⟨B2, x2⟩ : ∃ B, decide (term = term') = B := ⟨_, rfl⟩
  obtain ⟨B3, x3⟩ : ∃ B, decide (stan = stan') = B := ⟨_, rfl⟩
  obtain ⟨B4, x4⟩ : ∃ B, decide (pan = pan') = B := ⟨_, rfl⟩
  obtain ⟨B5, x5⟩ : ∃ B, decide (amt = amt') = B := ⟨_, rfl⟩
  obtain ⟨B6, x6⟩ : ∃ B, decide (n0 = n0' ∧ n1 = n1' ∧ n2 = n2' ∧ n3 = n3') = B := ⟨_, rfl⟩
  obtain ⟨B7, x7⟩ : ∃ B, decide (j0 = j0' ∧ j1 = j1' ∧ j2 = j2' ∧ j3 = j3') = B := ⟨_, rfl⟩
  obtain ⟨B8, x8⟩ : ∃ B, decide (c0 = c0' ∧ c1 = c1' ∧ c2 = c2' ∧ c3 = c3') = B := ⟨_, rfl⟩
  obtain ⟨B9, x9⟩ : ∃ B, decide (d0 = d0' ∧ d1 = d1' ∧ d2 = d2' ∧ d3 = d3') = B := ⟨_, rfl⟩
  obtain ⟨B10, x10⟩ : ∃ B, decide (loads = loads') = B := ⟨_, rfl⟩
  obtain ⟨B11, x11⟩ : ∃ B, decide (l0 = l0' ∧ l1 = l1' ∧ l2 = l2' ∧ l3 = l3') = B := ⟨_, rfl⟩
  have e1 := gqi (n + 1) 3 .i64 kind kind'
  have e2 := gqi (n + 1) 22 .u16 term term'
  have e3 := gqi (n + 1) 23 .u32 stan stan'
  have e4 := gqs (n + 1) pan pan'
  have e5 := gqi (n + 1) 2 .i64 amt amt'
  have e6 := gq25 n n0 n1 n2 n3 n0' n1' n2' n3'
  have e7 := gq25 n j0 j1 j2 j3 j0' j1' j2' j3'
  have e8 := gq25 n c0 c1 c2 c3 c0' c1' c2' c3'
  have e9 := gq25 n d0 d1 d2 d3 d0' d1' d2' d3'
  have e10 := gqi (n + 1) 3 .i64 loads loads'
  have e11 := gq25 n l0 l1 l2 l3 l0' l1' l2' l3'
  have hall : decide ((kind = kind') ∧ (term = term') ∧ (stan = stan') ∧ (pan = pan') ∧ (amt = amt') ∧ (n0 = n0' ∧ n1 = n1' ∧ n2 = n2' ∧ n3 = n3') ∧ (j0 = j0' ∧ j1 = j1' ∧ j2 = j2' ∧ j3 = j3') ∧ (c0 = c0' ∧ c1 = c1' ∧ c2 = c2' ∧ c3 = c3') ∧ (d0 = d0' ∧ d1 = d1' ∧ d2 = d2' ∧ d3 = d3') ∧ (loads = loads') ∧ (l0 = l0' ∧ l1 = l1' ∧ l2 = l2' ∧ l3 = l3')) = (B1 && (B2 && (B3 && (B4 && (B5 && (B6 && (B7 && (B8 && (B9 && (B10 && B11)))))))))) := by
    rw [← x1, ← x2, ← x3, ← x4, ← x5, ← x6, ← x7, ← x8, ← x9, ← x10, ← x11]; simp only [Bool.decide_and]
  rw [hall]
  rw [x1] at e1
  rw [x2] at e2
  rw [x3] at e3
  rw [x4] at e4
  rw [x5] at e5
  rw [x6] at e6
  rw [x7] at e7
  rw [x8] at e8
  rw [x9] at e9
  rw [x10] at e10
  rw [x11] at e11
  clear x1 x2 x3 x4 x5 x6 x7 x8 x9 x10 x11 hall
  have u3 := Tryd.underlying3
  have u2 := Tryd.underlying2
  have u22 := Tryd.underlying22
  have u23 := Tryd.underlying23
  have h27 := held27
  rw [Op.equalIn]
  simp only [Sem.run_bind, run_underlying Tryd.underlying27, Result.andThen_ok]
  cases B1
  · go_simp
  cases B2
  · go_simp
  cases B3
  · go_simp
  cases B4
  · go_simp
  cases B5
  · go_simp
  cases B6
  · go_simp
  cases B7
  · go_simp
  cases B8
  · go_simp
  cases B9
  · go_simp
  cases B10
  · go_simp
  cases B11
  · go_simp
  · go_simp
theorem same_iff (r s : Ms) : ((r.kind = s.kind) ∧ (r.term = s.term) ∧ (r.stan = s.stan) ∧ (r.pan = s.pan) ∧ (r.amt = s.amt) ∧ (r.n0 = s.n0 ∧ r.n1 = s.n1 ∧ r.n2 = s.n2 ∧ r.n3 = s.n3) ∧ (r.j0 = s.j0 ∧ r.j1 = s.j1 ∧ r.j2 = s.j2 ∧ r.j3 = s.j3) ∧ (r.c0 = s.c0 ∧ r.c1 = s.c1 ∧ r.c2 = s.c2 ∧ r.c3 = s.c3) ∧ (r.d0 = s.d0 ∧ r.d1 = s.d1 ∧ r.d2 = s.d2 ∧ r.d3 = s.d3) ∧ (r.loads = s.loads) ∧ (r.l0 = s.l0 ∧ r.l1 = s.l1 ∧ r.l2 = s.l2 ∧ r.l3 = s.l3)) ↔ r = s := by
  cases r; cases s; simp only [Ms.mk.injEq, and_assoc]
open Classical in
theorem gqR (r s : Ms) (w : World) : (Op.equalIn 10000 27 r.val s.val).run Tryd.prog w = .ok (decide (r = s)) w := by
  have := gq27 9997 r.kind r.term r.stan r.amt r.n0 r.n1 r.n2 r.n3 r.j0 r.j1 r.j2 r.j3 r.c0 r.c1 r.c2 r.c3 r.d0 r.d1 r.d2 r.d3 r.loads r.l0 r.l1 r.l2 r.l3 s.kind s.term s.stan s.amt s.n0 s.n1 s.n2 s.n3 s.j0 s.j1 s.j2 s.j3 s.c0 s.c1 s.c2 s.c3 s.d0 s.d1 s.d2 s.d3 s.loads s.l0 s.l1 s.l2 s.l3 r.pan s.pan w
  rw [decide_eq_decide.2 (same_iff r s)] at this
  exact this
theorem eqg27 (r s : Ms) (x y : Operand) (w : World) : (eqGuard .eql 27 x y r.val s.val).run Tryd.prog w = .ok () w ∧ (eqGuard .neq 27 x y r.val s.val).run Tryd.prog w = .ok () w := by
  constructor <;> simp [eqGuard, Ms.val]
open Classical in
theorem gbin (r s : Ms) (w : World) : (binOp .eql 27 r.val s.val).run Tryd.prog w = .ok (.bool (decide (r = s))) w ∧ (binOp .neq 27 r.val s.val).run Tryd.prog w = .ok (.bool (!decide (r = s))) w := by
  have h := gqR r s w
  constructor
  · show ((do pure (.bool (← Op.equalIn 10000 27 r.val s.val)) : Sem Value)).run Tryd.prog w = _
    simp [h]
  · show ((do pure (.bool (!(← Op.equalIn 10000 27 r.val s.val))) : Sem Value)).run Tryd.prog w = _
    simp [h]
theorem bin25 (a b c d a' b' c' d' : Int) (w : World) : (binOp .neq 25 (.agg #[.int .i64 a, .int .i64 b, .int .i64 c, .int .i64 d]) (.agg #[.int .i64 a', .int .i64 b', .int .i64 c', .int .i64 d'])).run Tryd.prog w = .ok (.bool (!decide (a = a' ∧ b = b' ∧ c = c' ∧ d = d'))) w := by
  have h := gq25 9998 a b c d a' b' c' d' w
  show ((do pure (.bool (!(← Op.equalIn 10000 25 _ _))) : Sem Value)).run Tryd.prog w = _
  simp [h]
theorem eqg25 (a b c d a' b' c' d' : Int) (x y : Operand) (w : World) : (eqGuard .neq 25 x y (.agg #[.int .i64 a, .int .i64 b, .int .i64 c, .int .i64 d]) (.agg #[.int .i64 a', .int .i64 b', .int .i64 c', .int .i64 d'])).run Tryd.prog w = .ok () w := by
  simp [eqGuard]
end Go.Proofs.YtbipikbefokihaaDoor
