/- A message that came in. -/
import Derived.Test.YtbipikbefokihaaDoorWide
import Derived.Test.YtbipikbefokihaaDoorNums37
namespace Go.Proofs.YtbipikbefokihaaDoor
open Go.ChangeShapes Go.WideShapes Go.ChangeAt Go.RowKit

theorem cells27 : Tryd.prog.cellsOf 27 = 26 := by kernel_rfl
theorem cells25 : Tryd.prog.cellsOf 25 = 4 := by kernel_rfl
theorem cells3 : Tryd.prog.cellsOf 3 = 1 := by kernel_rfl
theorem cells2 : Tryd.prog.cellsOf 2 = 1 := by kernel_rfl
theorem cells22 : Tryd.prog.cellsOf 22 = 1 := by kernel_rfl
theorem cells23 : Tryd.prog.cellsOf 23 = 1 := by kernel_rfl
theorem cells9 : Tryd.prog.cellsOf 9 = 1 := by kernel_rfl
theorem list26 {α : Type} (l : List α) (h : l.length = 26) : ∃ q0 q1 q2 q3 q4 q5 q6 q7 q8 q9 q10 q11 q12 q13 q14 q15 q16 q17 q18 q19 q20 q21 q22 q23 q24 q25, l = [q0, q1, q2, q3, q4, q5, q6, q7, q8, q9, q10, q11, q12, q13, q14, q15, q16, q17, q18, q19, q20, q21, q22, q23, q24, q25] := by
  match l, h with
  | [q0, q1, q2, q3, q4, q5, q6, q7, q8, q9, q10, q11, q12, q13, q14, q15, q16, q17, q18, q19, q20, q21, q22, q23, q24, q25], _ => exact ⟨q0, q1, q2, q3, q4, q5, q6, q7, q8, q9, q10, q11, q12, q13, q14, q15, q16, q17, q18, q19, q20, q21, q22, q23, q24, q25, rfl⟩
section
variable {H : Type} {enc : TypeId × Value → H} {W : World} {n : Nat} {xs : List (DataW H × List MemPlace)}
theorem some_of {i : Nat} (h : i < xs.length) {o : Option (DataW H × List MemPlace)} (e : o = xs[i]?) : ∃ y, o = some y := ⟨xs[i], by rw [e, List.getElem?_eq_getElem h]⟩
theorem int_at {t : TypeId} {k : IntKind} {c : Value} (ht : Tryd.prog.underlying t = some (.int k)) (h : ∃ y, DataW.trod enc Tryd.prog W 0 (fun _ => true) true n t [c] = some y) : ∃ z, c = .int k z ∧ (Lit.int k z).wf = true := by
  obtain ⟨y, hy⟩ := h
  obtain ⟨z, e, _, hw⟩ := DataW.trod_int ht hy
  simp at e
  exact ⟨z, e, hw⟩
theorem four_at {c0 c1 c2 c3 : Value} (h : ∃ y, DataW.trod enc Tryd.prog W 0 (fun _ => true) true n 25 [c0, c1, c2, c3] = some y) : ∃ x0 x1 x2 x3, c0 = .int .i64 x0 ∧ c1 = .int .i64 x1 ∧ c2 = .int .i64 x2 ∧ c3 = .int .i64 x3 := by
  obtain ⟨y, hy⟩ := h
  obtain ⟨xs, m, _, _, _, hl, hf⟩ := DataW.trod_array Tryd.underlying25 hy
  rw [cells3] at hf
  obtain ⟨x0, e0, _⟩ := int_at (c := c0) Tryd.underlying3 (some_of (xs := xs) (by omega) (hf 0 (by omega)))
  obtain ⟨x1, e1, _⟩ := int_at (c := c1) Tryd.underlying3 (some_of (xs := xs) (by omega) (hf 1 (by omega)))
  obtain ⟨x2, e2, _⟩ := int_at (c := c2) Tryd.underlying3 (some_of (xs := xs) (by omega) (hf 2 (by omega)))
  obtain ⟨x3, e3, _⟩ := int_at (c := c3) Tryd.underlying3 (some_of (xs := xs) (by omega) (hf 3 (by omega)))
  exact ⟨x0, x1, x2, x3, e0, e1, e2, e3⟩
end
set_option maxRecDepth 40000 in
set_option maxHeartbeats 4000000 in
theorem open_rec {H : Type} {enc : TypeId × Value → H} {W : World} {base : Nat} {v : Value} {d : DataW H} {ps : List MemPlace} (hval : Value.okWide Tryd.prog W .any base 27 v) (hd : DataW.Trod enc Tryd.prog W 0 (fun _ => true) true 27 v d ps) :
    ∃ r : Ms, v = r.val ∧ r.Ok ∧ r.pan.size ≤ maxLen := by
  obtain ⟨cs, rfl, hsz⟩ := okWide_struct Tryd.underlying27 hval
  obtain ⟨fuel, hf⟩ := hd
  rw [cells27] at hsz
  obtain ⟨q0, q1, q2, q3, q4, q5, q6, q7, q8, q9, q10, q11, q12, q13, q14, q15, q16, q17, q18, q19, q20, q21, q22, q23, q24, q25, hcs⟩ := list26 cs.toList (by simpa using hsz)
  have ecs : cs = #[q0, q1, q2, q3, q4, q5, q6, q7, q8, q9, q10, q11, q12, q13, q14, q15, q16, q17, q18, q19, q20, q21, q22, q23, q24, q25] := by
    apply Array.toList_inj.1; rw [hcs]
  subst ecs
  have hf' : DataW.trod enc Tryd.prog W 0 (fun _ => true) true fuel 27 [q0, q1, q2, q3, q4, q5, q6, q7, q8, q9, q10, q11, q12, q13, q14, q15, q16, q17, q18, q19, q20, q21, q22, q23, q24, q25] = some (d, ps) := hf
  clear hf hval hsz hcs
  obtain ⟨xs, m, _, _, _, hl, hg⟩ := DataW.trod_struct Tryd.underlying27 hf'
  simp at hl
  obtain ⟨k, rfl, wk⟩ := int_at (c := q0) Tryd.underlying3 (some_of (xs := xs) (i := 0) (by omega) (by have g : DataW.trod enc Tryd.prog W 0 (fun _ => true) true m 3 (List.take (Tryd.prog.cellsOf 3) (List.drop 0 _)) = xs[0]? := hg 0 _ rfl; rw [cells3] at g; exact g))
  obtain ⟨t, rfl, wt⟩ := int_at (c := q1) Tryd.underlying22 (some_of (xs := xs) (i := 1) (by omega) (by have g : DataW.trod enc Tryd.prog W 0 (fun _ => true) true m 22 (List.take (Tryd.prog.cellsOf 22) (List.drop 1 _)) = xs[1]? := hg 1 _ rfl; rw [cells22] at g; exact g))
  obtain ⟨s, rfl, ws⟩ := int_at (c := q2) Tryd.underlying23 (some_of (xs := xs) (i := 2) (by omega) (by have g : DataW.trod enc Tryd.prog W 0 (fun _ => true) true m 23 (List.take (Tryd.prog.cellsOf 23) (List.drop 2 _)) = xs[2]? := hg 2 _ rfl; rw [cells23] at g; exact g))
  obtain ⟨y, hy⟩ := some_of (xs := xs) (i := 3) (by omega) (show DataW.trod enc Tryd.prog W 0 (fun _ => true) true m 9 [q3] = xs[3]? by have g : DataW.trod enc Tryd.prog W 0 (fun _ => true) true m 9 (List.take (Tryd.prog.cellsOf 9) (List.drop 3 _)) = xs[3]? := hg 3 _ rfl; rw [cells9] at g; exact g)
  obtain ⟨p, ep, _, hp⟩ := DataW.trod_string Tryd.underlying9 hy
  simp at ep
  subst ep
  obtain ⟨a, rfl, wa⟩ := int_at (c := q4) Tryd.underlying2 (some_of (xs := xs) (i := 4) (by omega) (by have g : DataW.trod enc Tryd.prog W 0 (fun _ => true) true m 2 (List.take (Tryd.prog.cellsOf 2) (List.drop 4 _)) = xs[4]? := hg 4 _ rfl; rw [cells2] at g; exact g))
  obtain ⟨n0, n1, n2, n3, rfl, rfl, rfl, rfl⟩ := four_at (c0 := q5) (c1 := q6) (c2 := q7) (c3 := q8) (some_of (xs := xs) (i := 5) (by omega) (by have g : DataW.trod enc Tryd.prog W 0 (fun _ => true) true m 25 (List.take (Tryd.prog.cellsOf 25) (List.drop 5 _)) = xs[5]? := hg 5 _ rfl; rw [cells25] at g; exact g))
  obtain ⟨j0, j1, j2, j3, rfl, rfl, rfl, rfl⟩ := four_at (c0 := q9) (c1 := q10) (c2 := q11) (c3 := q12) (some_of (xs := xs) (i := 6) (by omega) (by have g : DataW.trod enc Tryd.prog W 0 (fun _ => true) true m 25 (List.take (Tryd.prog.cellsOf 25) (List.drop 9 _)) = xs[6]? := hg 6 _ rfl; rw [cells25] at g; exact g))
  obtain ⟨c0, c1, c2, c3, rfl, rfl, rfl, rfl⟩ := four_at (c0 := q13) (c1 := q14) (c2 := q15) (c3 := q16) (some_of (xs := xs) (i := 7) (by omega) (by have g : DataW.trod enc Tryd.prog W 0 (fun _ => true) true m 25 (List.take (Tryd.prog.cellsOf 25) (List.drop 13 _)) = xs[7]? := hg 7 _ rfl; rw [cells25] at g; exact g))
  obtain ⟨d0, d1, d2, d3, rfl, rfl, rfl, rfl⟩ := four_at (c0 := q17) (c1 := q18) (c2 := q19) (c3 := q20) (some_of (xs := xs) (i := 8) (by omega) (by have g : DataW.trod enc Tryd.prog W 0 (fun _ => true) true m 25 (List.take (Tryd.prog.cellsOf 25) (List.drop 17 _)) = xs[8]? := hg 8 _ rfl; rw [cells25] at g; exact g))
  obtain ⟨lo, rfl, wlo⟩ := int_at (c := q21) Tryd.underlying3 (some_of (xs := xs) (i := 9) (by omega) (by have g : DataW.trod enc Tryd.prog W 0 (fun _ => true) true m 3 (List.take (Tryd.prog.cellsOf 3) (List.drop 21 _)) = xs[9]? := hg 9 _ rfl; rw [cells3] at g; exact g))
  obtain ⟨l0, l1, l2, l3, rfl, rfl, rfl, rfl⟩ := four_at (c0 := q22) (c1 := q23) (c2 := q24) (c3 := q25) (some_of (xs := xs) (i := 10) (by omega) (by have g : DataW.trod enc Tryd.prog W 0 (fun _ => true) true m 25 (List.take (Tryd.prog.cellsOf 25) (List.drop 22 _)) = xs[10]? := hg 10 _ rfl; rw [cells25] at g; exact g))
  have bt := bounds_u16 wt
  have bs := bounds_u32 ws
  exact ⟨⟨k, t, s, p, a, n0, n1, n2, n3, j0, j1, j2, j3, c0, c1, c2, c3, d0, d1, d2, d3, lo, l0, l1, l2, l3⟩, rfl, ⟨by show 0 ≤ t ∧ t < 65536; omega, by show 0 ≤ s ∧ s < 4294967296; omega⟩, hp⟩
end Go.Proofs.YtbipikbefokihaaDoor
