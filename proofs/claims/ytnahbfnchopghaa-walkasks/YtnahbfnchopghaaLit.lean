/- Literals: states, slices of states, slices of texts; two results are held against one another. -/
import Derived.Test.YtnahbfnchopghaaRunR
namespace Go.Proofs.Ytnahbfnchopghaa
open Go.ChangeShapes Go.WideShapes Go.ChangeAt Go.RowKit

theorem gqi (d : Nat) (t : TypeId) (k : IntKind) (a b : Int) (w : World) (h : Try.prog.underlying t = some (.int k)) : (Op.equalIn (d + 1) t (.int k a) (.int k b)).run Try.prog w = .ok (decide (a = b)) w := by
  simp [Op.equalIn, run_underlying h]
  by_cases e : a = b <;> simp [e]
theorem gqb (d : Nat) (a b : Bool) (w : World) : (Op.equalIn (d + 1) 4 (.bool a) (.bool b)).run Try.prog w = .ok (decide (a = b)) w := by
  simp [Op.equalIn, run_underlying Try.underlying4]
  by_cases e : a = b <;> simp [e]
theorem gqs (d : Nat) (a b : ByteArray) (w : World) : (Op.equalIn (d + 1) 9 (.string a) (.string b)).run Try.prog w = .ok (decide (a = b)) w := by
  simp [Op.equalIn, run_underlying Try.underlying9]
  by_cases e : a = b
  · subst e; simp [(MapKept.bytes_beq a a).mpr rfl]
  · have : (a == b) = false := by
      cases h : (a == b) with
      | false => rfl
      | true => exact absurd ((MapKept.bytes_beq a b).mp h) e
    simp [e, this]
set_option maxHeartbeats 4000000 in
theorem gq30 (n : Nat) (a b e a' b' e' : Int) (c c' : Bool) (d d' : ByteArray) (w : World) :
    (Op.equalIn (n + 2) 30 (.agg #[.int .i64 a, .int .i64 b, .bool c, .string d, .int .i64 e]) (.agg #[.int .i64 a', .int .i64 b', .bool c', .string d', .int .i64 e'])).run Try.prog w = .ok (decide (a = a' ∧ b = b' ∧ c = c' ∧ d = d' ∧ e = e')) w := by
  have a3 := Try.isAgg3
  have z3 := Try.sizeOf3
  have a4 := Try.isAgg4
  have z4 := Try.sizeOf4
  have a9 := Try.isAgg9
  have z9 := Try.sizeOf9
  have a2 := Try.isAgg2
  have z2 := Try.sizeOf2
  obtain ⟨B1, x1⟩ : ∃ B, decide (a = a') = B := ⟨_, rfl⟩
  obtain ⟨B2, x2⟩ : ∃ B, decide (b = b') = B := ⟨_, rfl⟩
  obtain ⟨B3, x3⟩ : ∃ B, decide (c = c') = B := ⟨_, rfl⟩
  obtain ⟨B4, x4⟩ : ∃ B, decide (d = d') = B := ⟨_, rfl⟩
  obtain ⟨B5, x5⟩ : ∃ B, decide (e = e') = B := ⟨_, rfl⟩
  have e1 := gqi n 3 .i64 a a'
  have e2 := gqi n 3 .i64 b b'
  have e3 := gqb n c c'
  have e4 := gqs n d d'
  have e5 := gqi n 2 .i64 e e'
  have hall : decide ((a = a') ∧ (b = b') ∧ (c = c') ∧ (d = d') ∧ (e = e')) = (B1 && (B2 && (B3 && (B4 && B5)))) := by
    rw [← x1, ← x2, ← x3, ← x4, ← x5]; simp only [Bool.decide_and]
  rw [hall]
  rw [x1] at e1
  rw [x2] at e2
  rw [x3] at e3
  rw [x4] at e4
  rw [x5] at e5
  clear x1 x2 x3 x4 x5 hall
  have u2 := Try.underlying2
  have u3 := Try.underlying3
  have u4 := Try.underlying4
  have h30 : Try.prog.stoodInHeld 30 = false := by kernel_rfl
  rw [Op.equalIn]
  simp only [Sem.run_bind, run_underlying Try.underlying30, Result.andThen_ok]
  cases B1
  · go_simp
  cases B2
  · go_simp
  cases B3
  · go_simp
  cases B4
  · go_simp
  cases B5
  · go_simp
  · go_simp
theorem same_iff (r s : Rs) : ((r.pos = s.pos) ∧ (r.steps = s.steps) ∧ (r.asked = s.asked) ∧ (r.pan = s.pan) ∧ (r.amt = s.amt)) ↔ r = s := by
  cases r; cases s; simp only [Rs.mk.injEq]
open Classical in
theorem gqR (r s : Rs) (w : World) : (Op.equalIn 10000 30 r.val s.val).run Try.prog w = .ok (decide (r = s)) w := by
  have := gq30 9998 r.pos r.steps r.amt s.pos s.steps s.amt r.asked s.asked r.pan s.pan w
  rw [decide_eq_decide.2 (same_iff r s)] at this
  exact this
theorem eqg30 (r s : Rs) (x y : Operand) (w : World) : (eqGuard .eql 30 x y r.val s.val).run Try.prog w = .ok () w := by simp [eqGuard, Rs.val]
theorem bin_same (r : Rs) (w : World) : (binOp .eql 30 r.val r.val).run Try.prog w = .ok (.bool true) w := by
  show ((do pure (.bool (← Op.equalIn 10000 30 r.val r.val)) : Sem Value)).run Try.prog w = _
  simp [gqR r r w]
section
variable {ops : Array Oper} {rest : List Oper} {op : Oper} {a : Act} {w : World} {Q : Exit → Act → World → Prop}
/-- A state made of three of its parts. -/
theorem bdQ34 {r : St} (hgd : op.guard = none) (x0 x1 x2 : Operand) (ho : op.op = .build 34 #[(0, x0), (1, x1), (2, x2)]) (h0 : a.eval x0 = .int .i64 r.id) (h1 : a.eval x1 = .int .u8 r.kind) (h2 : a.eval x2 = .int .i64 r.next) (h3 : r.other = 0)
    (h : wpList Try.prog ops Q rest (a.put op.dst r.val) w) : wpList Try.prog ops Q (op :: rest) a w :=
  wpList_plain hgd fun K hK => by
    have hz := zero34 w
    unfold Oper.wp execOp
    simp only [ho, List.map_toArray, List.map_cons, List.map_nil, h0, h1, h2]
    have e : r.val = .agg #[.int .i64 r.id, .int .u8 r.kind, .int .i64 r.next, .int .i64 0] := by simp [St.val, St.cells, h3]
    rw [e] at h
    simp [Instr.build, hz, go_sem, St.val, St.cells, St.zero]
    exact hK _ _ h
/-- A state made of two of its parts. -/
theorem bdT34 {r : St} (hgd : op.guard = none) (x0 x1 : Operand) (ho : op.op = .build 34 #[(0, x0), (1, x1)]) (h0 : a.eval x0 = .int .i64 r.id) (h1 : a.eval x1 = .int .u8 r.kind) (h2 : r.next = 0) (h3 : r.other = 0)
    (h : wpList Try.prog ops Q rest (a.put op.dst r.val) w) : wpList Try.prog ops Q (op :: rest) a w :=
  wpList_plain hgd fun K hK => by
    have hz := zero34 w
    unfold Oper.wp execOp
    simp only [ho, List.map_toArray, List.map_cons, List.map_nil, h0, h1]
    have e : r.val = .agg #[.int .i64 r.id, .int .u8 r.kind, .int .i64 0, .int .i64 0] := by simp [St.val, St.cells, h2, h3]
    rw [e] at h
    simp [Instr.build, hz, go_sem, St.val, St.cells, St.zero]
    exact hK _ _ h
theorem MkS.new (w : World) (l : List St) (n : Nat) (hn : l.length = n) (hm : n ≤ 1000000) : MkS w (w.alloc (.cells (flS l).toArray 34)) (.slice (some ⟨w.heap.size, 0, none⟩) n n) n l :=
  ⟨⟨by rw [flS_len, hn], .inr ⟨w.heap.size, n, (flS l).toArray, rfl, Nat.le_refl _, heap_alloc_new _ _, Nat.le_refl _, by unfold maxLen; omega, by rw [List.size_toArray, flS_len, hn], by rw [List.toList_toArray]; exact List.take_of_length_le (by rw [flS_len, hn]; exact Nat.le_refl _)⟩⟩, bel1 _ _⟩
theorem bsS3 {r0 r1 r2 : St} (hgd : op.guard = none) (x0 x1 x2 : Operand) (ho : op.op = .buildSlice 22 3 #[(0, x0), (1, x1), (2, x2)]) (h0 : a.eval x0 = r0.val) (h1 : a.eval x1 = r1.val) (h2 : a.eval x2 = r2.val)
    (h : ∀ ao w', MkS w w' (.slice ao 3 3) 3 [r0, r1, r2] → wpList Try.prog ops Q rest (a.put op.dst (.slice ao 3 3)) w') : wpList Try.prog ops Q (op :: rest) a w :=
  wpList_plain hgd fun K hK => by
    obtain ⟨i, hi, hz0, hz1, hz2⟩ := info_parts info34
    refine wp_buildSlice 22 34 3 _ ho (flS [r0, r1, r2]).toArray i _ Try.underlying22 hi hz0 (by rw [hz1]; decide) (by rw [hz1]; decide) ?_ (hK _ _ (h _ _ (MkS.new w [r0, r1, r2] 3 rfl (by omega))))
    have := Great.fill_whole (s := 4) (by decide) [r0.val, r1.val, r2.val] ((Array.range (3 * i.size)).map (St.zero.val.cells[· % St.zero.val.cells.size]!))
      (by intro v hv; simp at hv; rcases hv with hv | hv | hv <;> subst hv <;> simp [St.val, Value.cells, St.len]) (by simp [hz1])
    rw [hz1] at this ⊢
    simpa [h0, h1, h2, Value.cells, St.val, flS] using this
theorem bsS4 {r0 r1 r2 r3 : St} (hgd : op.guard = none) (x0 x1 x2 x3 : Operand) (ho : op.op = .buildSlice 22 4 #[(0, x0), (1, x1), (2, x2), (3, x3)]) (h0 : a.eval x0 = r0.val) (h1 : a.eval x1 = r1.val) (h2 : a.eval x2 = r2.val) (h3 : a.eval x3 = r3.val)
    (h : ∀ ao w', MkS w w' (.slice ao 4 4) 4 [r0, r1, r2, r3] → wpList Try.prog ops Q rest (a.put op.dst (.slice ao 4 4)) w') : wpList Try.prog ops Q (op :: rest) a w :=
  wpList_plain hgd fun K hK => by
    obtain ⟨i, hi, hz0, hz1, hz2⟩ := info_parts info34
    refine wp_buildSlice 22 34 4 _ ho (flS [r0, r1, r2, r3]).toArray i _ Try.underlying22 hi hz0 (by rw [hz1]; decide) (by rw [hz1]; decide) ?_ (hK _ _ (h _ _ (MkS.new w [r0, r1, r2, r3] 4 rfl (by omega))))
    have := Great.fill_whole (s := 4) (by decide) [r0.val, r1.val, r2.val, r3.val] ((Array.range (4 * i.size)).map (St.zero.val.cells[· % St.zero.val.cells.size]!))
      (by intro v hv; simp at hv; rcases hv with hv | hv | hv | hv <;> subst hv <;> simp [St.val, Value.cells, St.len]) (by simp [hz1])
    rw [hz1] at this ⊢
    simpa [h0, h1, h2, h3, Value.cells, St.val, flS] using this
theorem bsS6 {r0 r1 r2 r3 r4 r5 : St} (hgd : op.guard = none) (x0 x1 x2 x3 x4 x5 : Operand) (ho : op.op = .buildSlice 22 6 #[(0, x0), (1, x1), (2, x2), (3, x3), (4, x4), (5, x5)]) (h0 : a.eval x0 = r0.val) (h1 : a.eval x1 = r1.val) (h2 : a.eval x2 = r2.val) (h3 : a.eval x3 = r3.val) (h4 : a.eval x4 = r4.val) (h5 : a.eval x5 = r5.val)
    (h : ∀ ao w', MkS w w' (.slice ao 6 6) 6 [r0, r1, r2, r3, r4, r5] → wpList Try.prog ops Q rest (a.put op.dst (.slice ao 6 6)) w') : wpList Try.prog ops Q (op :: rest) a w :=
  wpList_plain hgd fun K hK => by
    obtain ⟨i, hi, hz0, hz1, hz2⟩ := info_parts info34
    refine wp_buildSlice 22 34 6 _ ho (flS [r0, r1, r2, r3, r4, r5]).toArray i _ Try.underlying22 hi hz0 (by rw [hz1]; decide) (by rw [hz1]; decide) ?_ (hK _ _ (h _ _ (MkS.new w [r0, r1, r2, r3, r4, r5] 6 rfl (by omega))))
    have := Great.fill_whole (s := 4) (by decide) [r0.val, r1.val, r2.val, r3.val, r4.val, r5.val] ((Array.range (6 * i.size)).map (St.zero.val.cells[· % St.zero.val.cells.size]!))
      (by intro v hv; simp at hv; rcases hv with hv | hv | hv | hv | hv | hv <;> subst hv <;> simp [St.val, Value.cells, St.len]) (by simp [hz1])
    rw [hz1] at this ⊢
    simpa [h0, h1, h2, h3, h4, h5, Value.cells, St.val, flS] using this
theorem bsT1 {r0 : ByteArray} (hgd : op.guard = none) (x0 : Operand) (ho : op.op = .buildSlice 26 1 #[(0, x0)]) (h0 : a.eval x0 = .string r0)
    (h : ∀ ao w', T.Mk w w' (.slice ao 1 1) 1 [r0] → wpList Try.prog ops Q rest (a.put op.dst (.slice ao 1 1)) w') : wpList Try.prog ops Q (op :: rest) a w :=
  wpList_plain hgd fun K hK => by
    obtain ⟨i, hi, hz0, hz1, hz2⟩ := info_parts Try.info9
    refine wp_buildSlice 26 9 1 _ ho (T.cellsOf [r0]) i _ Try.underlying26 hi hz0 (by rw [hz1]; decide) (by rw [hz1]; decide) ?_ (hK _ _ (h _ _ (T.Mk.new w [r0] 1 rfl (by omega))))
    have := Great.fill_whole (s := 1) (by decide) [Value.string r0] ((Array.range (1 * i.size)).map ((Value.string ⟨#[]⟩).cells[· % (Value.string ⟨#[]⟩).cells.size]!))
      (by intro v hv; simp at hv; subst hv; rfl) (by simp [hz1])
    rw [hz1] at this ⊢
    simpa [h0, Value.cells, T.cellsOf] using this
theorem bsT2 {r0 r1 : ByteArray} (hgd : op.guard = none) (x0 x1 : Operand) (ho : op.op = .buildSlice 26 2 #[(0, x0), (1, x1)]) (h0 : a.eval x0 = .string r0) (h1 : a.eval x1 = .string r1)
    (h : ∀ ao w', T.Mk w w' (.slice ao 2 2) 2 [r0, r1] → wpList Try.prog ops Q rest (a.put op.dst (.slice ao 2 2)) w') : wpList Try.prog ops Q (op :: rest) a w :=
  wpList_plain hgd fun K hK => by
    obtain ⟨i, hi, hz0, hz1, hz2⟩ := info_parts Try.info9
    refine wp_buildSlice 26 9 2 _ ho (T.cellsOf [r0, r1]) i _ Try.underlying26 hi hz0 (by rw [hz1]; decide) (by rw [hz1]; decide) ?_ (hK _ _ (h _ _ (T.Mk.new w [r0, r1] 2 rfl (by omega))))
    have := Great.fill_whole (s := 1) (by decide) [Value.string r0, Value.string r1] ((Array.range (2 * i.size)).map ((Value.string ⟨#[]⟩).cells[· % (Value.string ⟨#[]⟩).cells.size]!))
      (by intro v hv; simp at hv; rcases hv with hv | hv <;> subst hv <;> rfl) (by simp [hz1])
    rw [hz1] at this ⊢
    simpa [h0, h1, Value.cells, T.cellsOf] using this
end
end Go.Proofs.Ytnahbfnchopghaa
