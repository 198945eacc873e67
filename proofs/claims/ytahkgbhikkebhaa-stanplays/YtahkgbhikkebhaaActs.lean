/- A script that came in. -/
import Derived.Test.YtahkgbhikkebhaaOpen
import Derived.Deep.Slices
namespace Go.Proofs.Ytahkgbhikkebhaa
open Go.ChangeShapes Go.WideShapes Go.ChangeAt Go.RowKit

theorem cells30 : Try.prog.cellsOf 30 = 3 := by kernel_rfl
theorem cells5 : Try.prog.cellsOf 5 = 1 := by kernel_rfl
theorem cells27' : Try.prog.cellsOf 27 = 1 := by kernel_rfl
theorem cells28' : Try.prog.cellsOf 28 = 1 := by kernel_rfl
theorem list3 {α : Type} {cs : List α} (h : cs.length = 3) : ∃ c0 c1 c2, cs = [c0, c1, c2] := by
  match cs, h with
  | [c0, c1, c2], _ => exact ⟨c0, c1, c2, rfl⟩
/-- Act i of the script, in these cells. -/
def ActAt (W : World) (b o : Nat) (x y z : Int) : Prop :=
  W.cell? ⟨b, o, none⟩ = some (.int .u8 x) ∧ W.cell? ⟨b, o + 1, none⟩ = some (.int .u16 y) ∧ W.cell? ⟨b, o + 2, none⟩ = some (.int .u32 z) ∧ (0 ≤ x ∧ x < 256) ∧ (0 ≤ y ∧ y < 65536) ∧ (0 ≤ z ∧ z < 4294967296)
theorem ActAt.lt {W : World} {b o : Nat} {x y z : Int} (h : ActAt W b o x y z) : b < W.heap.size := World.block_lt_of_cell? W ⟨b, o, none⟩ h.1
theorem ActAt.below {W w : World} {b o : Nat} {x y z : Int} (h : ActAt W b o x y z) (hb : Below W.heap.size W w) : ActAt w b o x y z :=
  ⟨(hb.cell (p := ⟨b, o, none⟩) h.lt).trans h.1, (hb.cell (p := ⟨b, o + 1, none⟩) h.lt).trans h.2.1, (hb.cell (p := ⟨b, o + 2, none⟩) h.lt).trans h.2.2.1, h.2.2.2⟩
def InA (W : World) (a : Option Addr) (len _cap : Nat) (_l : List Int) : Prop :=
  (∀ i, i < len → ∃ b o x y z, a = some ⟨b, o, none⟩ ∧ ActAt W b (o + i * 3) x y z) ∧ len ≤ 9223372036854775807
section
variable {H : Type} {enc : TypeId × Value → H} {W : World} {n : Nat} {v : Value} {d : DataW H} {p : List MemPlace}
theorem some_of {xs : List (DataW H × List MemPlace)} {i : Nat} (h : i < xs.length) {o : Option (DataW H × List MemPlace)} (e : o = xs[i]?) : ∃ y, o = some y := ⟨xs[i], by rw [e, List.getElem?_eq_getElem h]⟩
theorem int_at {t : TypeId} {k : IntKind} {c : Value} (ht : Try.prog.underlying t = some (.int k)) (h : ∃ y, DataW.trod enc Try.prog W 0 (fun _ => true) true n t [c] = some y) : ∃ z, c = .int k z ∧ (Lit.int k z).wf = true := by
  obtain ⟨y, hy⟩ := h
  obtain ⟨z, e, _, hw⟩ := DataW.trod_int ht hy
  simp at e
  exact ⟨z, e, hw⟩
theorem open_act {cs : List Value} (h : DataW.trod enc Try.prog W 0 (fun _ => true) true n 30 cs = some (d, p)) : ∃ x y z : Int, cs = [.int .u8 x, .int .u16 y, .int .u32 z] ∧ (0 ≤ x ∧ x < 256) ∧ (0 ≤ y ∧ y < 65536) ∧ (0 ≤ z ∧ z < 4294967296) := by
  obtain ⟨xs, m, _, _, hl, hx, hf⟩ := DataW.trod_struct Try.underlying30 h
  rw [cells30] at hl
  obtain ⟨c0, c1, c2, rfl⟩ := list3 hl
  simp at hx
  obtain ⟨x, rfl, wx⟩ := int_at (c := c0) Try.underlying5 (some_of (xs := xs) (i := 0) (by omega) (by have g : DataW.trod enc Try.prog W 0 (fun _ => true) true m 5 (List.take (Try.prog.cellsOf 5) (List.drop 0 _)) = xs[0]? := hf 0 _ rfl; rw [cells5] at g; exact g))
  obtain ⟨y, rfl, wy⟩ := int_at (c := c1) Try.underlying27 (some_of (xs := xs) (i := 1) (by omega) (by have g : DataW.trod enc Try.prog W 0 (fun _ => true) true m 27 (List.take (Try.prog.cellsOf 27) (List.drop 1 _)) = xs[1]? := hf 1 _ rfl; rw [cells27'] at g; exact g))
  obtain ⟨z, rfl, wz⟩ := int_at (c := c2) Try.underlying28 (some_of (xs := xs) (i := 2) (by omega) (by have g : DataW.trod enc Try.prog W 0 (fun _ => true) true m 28 (List.take (Try.prog.cellsOf 28) (List.drop 2 _)) = xs[2]? := hf 2 _ rfl; rw [cells28'] at g; exact g))
  have := bounds_u8 wx
  have := bounds_u16 wy
  have := bounds_u32 wz
  exact ⟨x, y, z, rfl, by omega, by omega, by omega⟩
theorem open_inA (h : DataW.trod enc Try.prog W 0 (fun _ => true) true n 22 [v] = some (d, p)) : ∃ a len cap l, v = .slice a len cap ∧ InA W a len cap l := by
  rcases Deep.open_slice Try.underlying22 h with ⟨hcs, _⟩ | ⟨x, len, cap, m, n', D, Pl, hcs, _, hl, hcap, hm, _, hel⟩
  · simp at hcs; subst hcs
    exact ⟨none, 0, 0, [], rfl, fun i hi => absurd hi (by omega), by omega⟩
  · simp at hcs; subst hcs
    have hmc : m = cap := by simpa using hm
    rw [cells30] at hel
    refine ⟨some x, len, cap, [], rfl, fun i hi => ?_, by unfold maxLen at hcap; omega⟩
    obtain ⟨cs', h1, h2⟩ := hel i (by omega)
    obtain ⟨a, b, c, rfl, ha, hb, hc⟩ := open_act h2
    obtain ⟨bk, off, spot⟩ := x
    obtain ⟨_, _, hs⟩ := World.cells?_some h1
    have hspot : spot = none := by
      obtain ⟨cs0, g1, g2⟩ := hel 0 (by omega)
      obtain ⟨a', b', c', rfl, _, _, _⟩ := open_act g2
      obtain ⟨_, _, gs⟩ := World.cells?_some g1
      have g00 := gs 0 (by decide)
      have e : ([.int .u8 a', .int .u16 b', .int .u32 c'] : List Value)[0]? = some (.int .u8 a') := rfl
      rw [e] at g00
      simpa [Addr.add] using World.cell?_spot g00
    subst hspot
    have h00 := hs 0 (by decide)
    have h1' := hs 1 (by decide)
    have h2' := hs 2 (by decide)
    rw [Addr.add_mid, Addr.add_mid] at h00 h1' h2'
    exact ⟨bk, off, a, b, c, rfl, h00, h1', h2', ha, hb, hc⟩
end
end Go.Proofs.Ytahkgbhikkebhaa
