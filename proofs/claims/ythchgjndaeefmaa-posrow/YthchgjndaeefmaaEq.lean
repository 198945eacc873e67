/- Two requests are held against one another, whatever they are; a request that came in. -/
import Derived.Test.YthchgjndaeefmaaReadR
namespace Go.Proofs.Ythchgjndaeefmaa
open Go.ChangeShapes Go.WideShapes Go.ChangeAt Go.RowKit

theorem gqi (d : Nat) (t : TypeId) (k : IntKind) (a b : Int) (w : World) (h : Try.prog.underlying t = some (.int k)) : (Op.equalIn (d + 1) t (.int k a) (.int k b)).run Try.prog w = .ok (decide (a = b)) w := by
  simp [Op.equalIn, run_underlying h]
  by_cases e : a = b <;> simp [e]
theorem gqs (d : Nat) (a b : ByteArray) (w : World) : (Op.equalIn (d + 1) 9 (.string a) (.string b)).run Try.prog w = .ok (decide (a = b)) w := by
  simp [Op.equalIn, run_underlying Try.underlying9]
  by_cases e : a = b
  · subst e; simp [(MapKept.bytes_beq a a).mpr rfl]
  · have : (a == b) = false := by
      cases h : (a == b) with
      | false => rfl
      | true => exact absurd ((MapKept.bytes_beq a b).mp h) e
    simp [this, e]
set_option maxHeartbeats 4000000 in
theorem gq25 (n : Nat) (t s a t' s' a' : Int) (p p' : ByteArray) (w : World) :
    (Op.equalIn (n + 2) 25 (.agg #[.int .u16 t, .int .u32 s, .string p, .int .i64 a]) (.agg #[.int .u16 t', .int .u32 s', .string p', .int .i64 a'])).run Try.prog w = .ok (decide (t = t' ∧ s = s' ∧ p = p' ∧ a = a')) w := by
  have a22 := Try.isAgg22
  have z22 := Try.sizeOf22
  have a23 := Try.isAgg23
  have z23 := Try.sizeOf23
  have a9 := Try.isAgg9
  have z9 := Try.sizeOf9
  have a2 := Try.isAgg2
  have z2 := Try.sizeOf2
  obtain ⟨B1, x1⟩ : ∃ B, decide (t = t') = B := ⟨_, rfl⟩
  obtain ⟨B2, x2⟩ : ∃ B, decide (s = s') = B := ⟨_, rfl⟩
  obtain ⟨B3, x3⟩ : ∃ B, decide (p = p') = B := ⟨_, rfl⟩
  obtain ⟨B4, x4⟩ : ∃ B, decide (a = a') = B := ⟨_, rfl⟩
  have e1 := gqi n 22 .u16 t t'
  have e2 := gqi n 23 .u32 s s'
  have e3 := gqs n p p'
  have e4 := gqi n 2 .i64 a a'
  have hall : decide ((t = t') ∧ (s = s') ∧ (p = p') ∧ (a = a')) = (B1 && (B2 && (B3 && B4))) := by
    rw [← x1, ← x2, ← x3, ← x4]; simp only [Bool.decide_and]
  rw [hall]
  rw [x1] at e1
  rw [x2] at e2
  rw [x3] at e3
  rw [x4] at e4
  clear x1 x2 x3 x4 hall
  have u2 := Try.underlying2
  have u22 := Try.underlying22
  have u23 := Try.underlying23
  have h25 : Try.prog.stoodInHeld 25 = false := by kernel_rfl
  rw [Op.equalIn]
  simp only [Sem.run_bind, run_underlying Try.underlying25, Result.andThen_ok]
  cases B1
  · go_simp
  cases B2
  · go_simp
  cases B3
  · go_simp
  cases B4
  · go_simp
  · go_simp
theorem same_iff (r s : Ps) : ((r.term = s.term) ∧ (r.seq = s.seq) ∧ (r.pan = s.pan) ∧ (r.amt = s.amt)) ↔ r = s := by
  cases r; cases s; simp only [Ps.mk.injEq]
open Classical in
theorem gqR (r s : Ps) (w : World) : (Op.equalIn 10000 25 r.val s.val).run Try.prog w = .ok (decide (r = s)) w := by
  have := gq25 9998 r.term r.seq r.amt s.term s.seq s.amt r.pan s.pan w
  rw [decide_eq_decide.2 (same_iff r s)] at this
  exact this
theorem eqg25 (r s : Ps) (x y : Operand) (w : World) : (eqGuard .eql 25 x y r.val s.val).run Try.prog w = .ok () w ∧ (eqGuard .neq 25 x y r.val s.val).run Try.prog w = .ok () w := by
  constructor <;> simp [eqGuard, Ps.val]
open Classical in
theorem gbin (r s : Ps) (w : World) : (binOp .eql 25 r.val s.val).run Try.prog w = .ok (.bool (decide (r = s))) w ∧ (binOp .neq 25 r.val s.val).run Try.prog w = .ok (.bool (!decide (r = s))) w := by
  have h := gqR r s w
  constructor
  · show ((do pure (.bool (← Op.equalIn 10000 25 r.val s.val)) : Sem Value)).run Try.prog w = _
    simp [h]
  · show ((do pure (.bool (!(← Op.equalIn 10000 25 r.val s.val))) : Sem Value)).run Try.prog w = _
    simp [h]

theorem cells22 : Try.prog.cellsOf 22 = 1 := by kernel_rfl
theorem cells23 : Try.prog.cellsOf 23 = 1 := by kernel_rfl
theorem cells25 : Try.prog.cellsOf 25 = 4 := by kernel_rfl
theorem cells2 : Try.prog.cellsOf 2 = 1 := by kernel_rfl
theorem cells9 : Try.prog.cellsOf 9 = 1 := by kernel_rfl
theorem list4 {α : Type} (l : List α) (h : l.length = 4) : ∃ q0 q1 q2 q3, l = [q0, q1, q2, q3] := by
  match l, h with
  | [q0, q1, q2, q3], _ => exact ⟨q0, q1, q2, q3, rfl⟩
section
variable {H : Type} {enc : TypeId × Value → H} {W : World} {n : Nat} {xs : List (DataW H × List MemPlace)}
theorem some_of {i : Nat} (h : i < xs.length) {o : Option (DataW H × List MemPlace)} (e : o = xs[i]?) : ∃ y, o = some y := ⟨xs[i], by rw [e, List.getElem?_eq_getElem h]⟩
theorem int_at {t : TypeId} {k : IntKind} {c : Value} (ht : Try.prog.underlying t = some (.int k)) (h : ∃ y, DataW.trod enc Try.prog W 0 (fun _ => true) true n t [c] = some y) : ∃ z, c = .int k z ∧ (Lit.int k z).wf = true := by
  obtain ⟨y, hy⟩ := h
  obtain ⟨z, e, _, hw⟩ := DataW.trod_int ht hy
  simp at e
  exact ⟨z, e, hw⟩
end
set_option maxRecDepth 40000 in
set_option maxHeartbeats 4000000 in
theorem open_rec {H : Type} {enc : TypeId × Value → H} {W : World} {base : Nat} {v : Value} {d : DataW H} {ps : List MemPlace} (hval : Value.okWide Try.prog W .any base 25 v) (hd : DataW.Trod enc Try.prog W 0 (fun _ => true) true 25 v d ps) :
    ∃ r : Ps, v = r.val ∧ r.Ok ∧ r.pan.size ≤ maxLen ∧ (-9223372036854775808 ≤ r.amt ∧ r.amt ≤ 9223372036854775807) := by
  obtain ⟨cs, rfl, hsz⟩ := okWide_struct Try.underlying25 hval
  obtain ⟨fuel, hf⟩ := hd
  rw [cells25] at hsz
  obtain ⟨q0, q1, q2, q3, hcs⟩ := list4 cs.toList (by simpa using hsz)
  have ecs : cs = #[q0, q1, q2, q3] := by
    apply Array.toList_inj.1; rw [hcs]
  subst ecs
  have hf' : DataW.trod enc Try.prog W 0 (fun _ => true) true fuel 25 [q0, q1, q2, q3] = some (d, ps) := hf
  clear hf hval hsz hcs
  obtain ⟨xs, m, _, _, _, hl, hg⟩ := DataW.trod_struct Try.underlying25 hf'
  simp at hl
  obtain ⟨t, rfl, wt⟩ := int_at (c := q0) Try.underlying22 (some_of (xs := xs) (i := 0) (by omega) (by have g : DataW.trod enc Try.prog W 0 (fun _ => true) true m 22 (List.take (Try.prog.cellsOf 22) (List.drop 0 _)) = xs[0]? := hg 0 _ rfl; rw [cells22] at g; exact g))
  obtain ⟨s, rfl, ws⟩ := int_at (c := q1) Try.underlying23 (some_of (xs := xs) (i := 1) (by omega) (by have g : DataW.trod enc Try.prog W 0 (fun _ => true) true m 23 (List.take (Try.prog.cellsOf 23) (List.drop 1 _)) = xs[1]? := hg 1 _ rfl; rw [cells23] at g; exact g))
  obtain ⟨y, hy⟩ := some_of (xs := xs) (i := 2) (by omega) (show DataW.trod enc Try.prog W 0 (fun _ => true) true m 9 [q2] = xs[2]? by have g : DataW.trod enc Try.prog W 0 (fun _ => true) true m 9 (List.take (Try.prog.cellsOf 9) (List.drop 2 _)) = xs[2]? := hg 2 _ rfl; rw [cells9] at g; exact g)
  obtain ⟨p, ep, _, hp⟩ := DataW.trod_string Try.underlying9 hy
  simp at ep
  subst ep
  obtain ⟨a, rfl, wa⟩ := int_at (c := q3) Try.underlying2 (some_of (xs := xs) (i := 3) (by omega) (by have g : DataW.trod enc Try.prog W 0 (fun _ => true) true m 2 (List.take (Try.prog.cellsOf 2) (List.drop 3 _)) = xs[3]? := hg 3 _ rfl; rw [cells2] at g; exact g))
  have bt := bounds_u16 wt
  have bs := bounds_u32 ws
  have ba := bounds_i64 wa
  exact ⟨⟨t, s, p, a⟩, rfl, ⟨by show 0 ≤ t ∧ t < 65536; omega, by show 0 ≤ s ∧ s < 4294967296; omega⟩, hp, by show -9223372036854775808 ≤ a ∧ a ≤ 9223372036854775807; omega⟩
end Go.Proofs.Ythchgjndaeefmaa
