/- A record that came in. -/
import Derived.Test.YthhgnflkplpklaaRPutR
namespace Go.Proofs.Ythhgnflkplpklaa.Frm
set_option maxRecDepth 20000
open Go.ChangeShapes Go.WideShapes Go.ChangeAt Go.RowKit

theorem cells29 : Try.prog.cellsOf 50 = 17 := by kernel_rfl
theorem cells27 : Try.prog.cellsOf 48 = 4 := by kernel_rfl
theorem cells25 : Try.prog.cellsOf 46 = 2 := by kernel_rfl
theorem cells3 : Try.prog.cellsOf 3 = 1 := by kernel_rfl
theorem cells2 : Try.prog.cellsOf 2 = 1 := by kernel_rfl
theorem cells22 : Try.prog.cellsOf 23 = 1 := by kernel_rfl
theorem cells23 : Try.prog.cellsOf 44 = 1 := by kernel_rfl
theorem cells9 : Try.prog.cellsOf 9 = 1 := by kernel_rfl
theorem list17 {α : Type} (l : List α) (h : l.length = 17) : ∃ c0 c1 c2 c3 c4 c5 c6 c7 c8 c9 c10 c11 c12 c13 c14 c15 c16, l = [c0, c1, c2, c3, c4, c5, c6, c7, c8, c9, c10, c11, c12, c13, c14, c15, c16] := by
  have g : ∀ i, i < 17 → ∃ c, l[i]? = some c := fun i hi => ⟨l[i]'(by omega), List.getElem?_eq_getElem (by omega)⟩
  obtain ⟨c0, h0⟩ := g 0 (by omega)
  obtain ⟨c1, h1⟩ := g 1 (by omega)
  obtain ⟨c2, h2⟩ := g 2 (by omega)
  obtain ⟨c3, h3⟩ := g 3 (by omega)
  obtain ⟨c4, h4⟩ := g 4 (by omega)
  obtain ⟨c5, h5⟩ := g 5 (by omega)
  obtain ⟨c6, h6⟩ := g 6 (by omega)
  obtain ⟨c7, h7⟩ := g 7 (by omega)
  obtain ⟨c8, h8⟩ := g 8 (by omega)
  obtain ⟨c9, h9⟩ := g 9 (by omega)
  obtain ⟨c10, h10⟩ := g 10 (by omega)
  obtain ⟨c11, h11⟩ := g 11 (by omega)
  obtain ⟨c12, h12⟩ := g 12 (by omega)
  obtain ⟨c13, h13⟩ := g 13 (by omega)
  obtain ⟨c14, h14⟩ := g 14 (by omega)
  obtain ⟨c15, h15⟩ := g 15 (by omega)
  obtain ⟨c16, h16⟩ := g 16 (by omega)
  refine ⟨c0, c1, c2, c3, c4, c5, c6, c7, c8, c9, c10, c11, c12, c13, c14, c15, c16, ?_⟩
  apply List.ext_getElem?
  intro i
  by_cases hi : i < 17
  · have hh : i = 0 ∨ i = 1 ∨ i = 2 ∨ i = 3 ∨ i = 4 ∨ i = 5 ∨ i = 6 ∨ i = 7 ∨ i = 8 ∨ i = 9 ∨ i = 10 ∨ i = 11 ∨ i = 12 ∨ i = 13 ∨ i = 14 ∨ i = 15 ∨ i = 16 := by omega
    rcases hh with rfl | rfl | rfl | rfl | rfl | rfl | rfl | rfl | rfl | rfl | rfl | rfl | rfl | rfl | rfl | rfl | rfl <;> assumption
  · rw [List.getElem?_eq_none (by omega), List.getElem?_eq_none (by simp; omega)]
section
variable {H : Type} {enc : TypeId × Value → H} {W : World} {n : Nat} {xs : List (DataW H × List MemPlace)}
theorem some_of {i : Nat} (h : i < xs.length) {o : Option (DataW H × List MemPlace)} (e : o = xs[i]?) : ∃ y, o = some y := ⟨xs[i], by rw [e, List.getElem?_eq_getElem h]⟩
theorem int_at {t : TypeId} {k : IntKind} {c : Value} (ht : Try.prog.underlying t = some (.int k)) (h : ∃ y, DataW.trod enc Try.prog W 0 (fun _ => true) true n t [c] = some y) : ∃ z, c = .int k z ∧ (Lit.int k z).wf = true := by
  obtain ⟨y, hy⟩ := h
  obtain ⟨z, e, _, hw⟩ := DataW.trod_int ht hy
  simp at e
  exact ⟨z, e, hw⟩
theorem four_at {c0 c1 c2 c3 : Value} (h : ∃ y, DataW.trod enc Try.prog W 0 (fun _ => true) true n 48 [c0, c1, c2, c3] = some y) : ∃ x0 x1 x2 x3, c0 = .int .i64 x0 ∧ c1 = .int .i64 x1 ∧ c2 = .int .i64 x2 ∧ c3 = .int .i64 x3 := by
  obtain ⟨y, hy⟩ := h
  obtain ⟨xs, m, _, _, _, hl, hf⟩ := DataW.trod_array Try.underlying48 hy
  rw [cells3] at hf
  obtain ⟨x0, e0, _⟩ := int_at (c := c0) Try.underlying3 (some_of (xs := xs) (by omega) (hf 0 (by omega)))
  obtain ⟨x1, e1, _⟩ := int_at (c := c1) Try.underlying3 (some_of (xs := xs) (by omega) (hf 1 (by omega)))
  obtain ⟨x2, e2, _⟩ := int_at (c := c2) Try.underlying3 (some_of (xs := xs) (by omega) (hf 2 (by omega)))
  obtain ⟨x3, e3, _⟩ := int_at (c := c3) Try.underlying3 (some_of (xs := xs) (by omega) (hf 3 (by omega)))
  exact ⟨x0, x1, x2, x3, e0, e1, e2, e3⟩
theorem key_at {c0 c1 : Value} (h : ∃ y, DataW.trod enc Try.prog W 0 (fun _ => true) true n 46 [c0, c1] = some y) : ∃ x0 x1, (c0 = .int .u16 x0 ∧ 0 ≤ x0 ∧ x0 < 65536) ∧ (c1 = .int .u32 x1 ∧ 0 ≤ x1 ∧ x1 < 4294967296) := by
  obtain ⟨y, hy⟩ := h
  obtain ⟨xs, m, _, _, _, hl, hf⟩ := DataW.trod_struct Try.underlying46 hy
  simp at hl
  obtain ⟨x0, e0, w0⟩ := int_at (c := c0) Try.underlying23 (some_of (xs := xs) (i := 0) (by omega) (by have g : DataW.trod enc Try.prog W 0 (fun _ => true) true m 23 (List.take (Try.prog.cellsOf 23) (List.drop 0 _)) = xs[0]? := hf 0 _ rfl; rw [cells22] at g; exact g))
  obtain ⟨x1, e1, w1⟩ := int_at (c := c1) Try.underlying44 (some_of (xs := xs) (i := 1) (by omega) (by have g : DataW.trod enc Try.prog W 0 (fun _ => true) true m 44 (List.take (Try.prog.cellsOf 44) (List.drop 1 _)) = xs[1]? := hf 1 _ rfl; rw [cells23] at g; exact g))
  have b0 := bounds_u16 w0
  have b1 := bounds_u32 w1
  exact ⟨x0, x1, ⟨e0, by omega⟩, ⟨e1, by omega⟩⟩
end
theorem open_rec {H : Type} {enc : TypeId × Value → H} {W : World} {base : Nat} {v : Value} {d : DataW H} {ps : List MemPlace} (hval : Value.okWide Try.prog W .any base 50 v) (hd : DataW.Trod enc Try.prog W 0 (fun _ => true) true 50 v d ps) :
    ∃ r : Rc, v = r.val ∧ r.Ok ∧ r.pan.size ≤ maxLen := by
  obtain ⟨cs, rfl, hsz⟩ := okWide_struct Try.underlying50 hval
  obtain ⟨fuel, hf⟩ := hd
  rw [cells29] at hsz
  obtain ⟨c0, c1, c2, c3, c4, c5, c6, c7, c8, c9, c10, c11, c12, c13, c14, c15, c16, hcs⟩ := list17 cs.toList (by simpa using hsz)
  have ecs : cs = #[c0, c1, c2, c3, c4, c5, c6, c7, c8, c9, c10, c11, c12, c13, c14, c15, c16] := by
    apply Array.toList_inj.1; rw [hcs]
  subst ecs
  have hf' : DataW.trod enc Try.prog W 0 (fun _ => true) true fuel 50 [c0, c1, c2, c3, c4, c5, c6, c7, c8, c9, c10, c11, c12, c13, c14, c15, c16] = some (d, ps) := hf
  clear hf hval hsz hcs
  obtain ⟨xs, m, _, _, _, hl, hg⟩ := DataW.trod_struct Try.underlying50 hf'
  simp at hl
  obtain ⟨k, rfl, _⟩ := int_at (c := c0) Try.underlying3 (some_of (xs := xs) (i := 0) (by omega) (by have g : DataW.trod enc Try.prog W 0 (fun _ => true) true m 3 (List.take (Try.prog.cellsOf 3) (List.drop 0 _)) = xs[0]? := hg 0 _ rfl; rw [cells3] at g; exact g))
  obtain ⟨t, s, ⟨rfl, ht⟩, ⟨rfl, hs⟩⟩ := key_at (c0 := c1) (c1 := c2) (some_of (xs := xs) (i := 1) (by omega) (by have g : DataW.trod enc Try.prog W 0 (fun _ => true) true m 46 (List.take (Try.prog.cellsOf 46) (List.drop 1 _)) = xs[1]? := hg 1 _ rfl; rw [cells25] at g; exact g))
  obtain ⟨y, hy⟩ := some_of (xs := xs) (i := 2) (by omega) (show DataW.trod enc Try.prog W 0 (fun _ => true) true m 9 [c3] = xs[2]? by have g : DataW.trod enc Try.prog W 0 (fun _ => true) true m 9 (List.take (Try.prog.cellsOf 9) (List.drop 3 _)) = xs[2]? := hg 2 _ rfl; rw [cells9] at g; exact g)
  obtain ⟨p, ep, _, hp⟩ := DataW.trod_string Try.underlying9 hy
  simp at ep
  subst ep
  obtain ⟨a, rfl, _⟩ := int_at (c := c4) Try.underlying2 (some_of (xs := xs) (i := 3) (by omega) (by have g : DataW.trod enc Try.prog W 0 (fun _ => true) true m 2 (List.take (Try.prog.cellsOf 2) (List.drop 4 _)) = xs[3]? := hg 3 _ rfl; rw [cells2] at g; exact g))
  obtain ⟨n0, n1, n2, n3, rfl, rfl, rfl, rfl⟩ := four_at (c0 := c5) (c1 := c6) (c2 := c7) (c3 := c8) (some_of (xs := xs) (i := 4) (by omega) (by have g : DataW.trod enc Try.prog W 0 (fun _ => true) true m 48 (List.take (Try.prog.cellsOf 48) (List.drop 5 _)) = xs[4]? := hg 4 _ rfl; rw [cells27] at g; exact g))
  obtain ⟨j0, j1, j2, j3, rfl, rfl, rfl, rfl⟩ := four_at (c0 := c9) (c1 := c10) (c2 := c11) (c3 := c12) (some_of (xs := xs) (i := 5) (by omega) (by have g : DataW.trod enc Try.prog W 0 (fun _ => true) true m 48 (List.take (Try.prog.cellsOf 48) (List.drop 9 _)) = xs[5]? := hg 5 _ rfl; rw [cells27] at g; exact g))
  obtain ⟨l0, l1, l2, l3, rfl, rfl, rfl, rfl⟩ := four_at (c0 := c13) (c1 := c14) (c2 := c15) (c3 := c16) (some_of (xs := xs) (i := 6) (by omega) (by have g : DataW.trod enc Try.prog W 0 (fun _ => true) true m 48 (List.take (Try.prog.cellsOf 48) (List.drop 13 _)) = xs[6]? := hg 6 _ rfl; rw [cells27] at g; exact g))
  exact ⟨⟨k, t, s, p, a, n0, n1, n2, n3, j0, j1, j2, j3, l0, l1, l2, l3⟩, rfl, ⟨ht, hs⟩, hp⟩
end Go.Proofs.Ythhgnflkplpklaa.Frm
