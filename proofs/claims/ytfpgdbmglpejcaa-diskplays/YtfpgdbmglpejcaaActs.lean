/- A script that came in: a row of acts, each with its bytes and its flags. -/
import Derived.Test.YtfpgdbmglpejcaaRel
namespace Go.Proofs.Ytfpgdbmglpejcaa
open Go.ChangeShapes Go.WideShapes Go.ChangeAt Go.RowKit

/-- An act, as it lies in memory, and what its two slices hold. -/
structure Act1 where
  what : Nat
  s : Nat
  n : Nat
  ba : Option Addr
  bl : Nat
  bc : Nat
  b : List Int
  ka : Option Addr
  kl : Nat
  kc : Nat
  k : List Bool
def Act1.cells (x : Act1) : List Value := [.int .u8 (x.what : Int), .int .u8 (x.s : Int), .int .u8 (x.n : Int), .slice x.ba x.bl x.bc, .slice x.ka x.kl x.kc]
structure Act1.Ok (w : World) (x : Act1) : Prop where
  what : x.what ≤ 255
  s : x.s ≤ 255
  n : x.n ≤ 255
  b : InB w x.ba x.bl x.b
  k : InF w x.ka x.kl x.k
/-- A script that came in. -/
def InA (w : World) (a : Option Addr) (len : Nat) (l : List Act1) : Prop :=
  l.length = len ∧ (∀ x ∈ l, x.Ok w) ∧ (l = [] ∨ ∃ b o, a = some ⟨b, o, none⟩ ∧ b < w.heap.size ∧ ∀ i x, l[i]? = some x → w.rangeAt b (o + i * 5) x.cells)

theorem cells31 : Try.prog.cellsOf 31 = 5 := by kernel_rfl
theorem list5 {α : Type} {cs : List α} (h : cs.length = 5) : ∃ c0 c1 c2 c3 c4, cs = [c0, c1, c2, c3, c4] := by
  match cs, h with
  | [c0, c1, c2, c3, c4], _ => exact ⟨c0, c1, c2, c3, c4, rfl⟩
section
variable {H : Type} {enc : TypeId × Value → H} {W : World} {n : Nat} {v : Value} {d : DataW H} {p : List MemPlace}
theorem open_act {cs : List Value} (h : DataW.trod enc Try.prog W 0 (fun _ => true) true n 31 cs = some (d, p)) : ∃ x : Act1, cs = x.cells ∧ x.Ok W := by
  obtain ⟨xs, m, _, _, hl, _, hf⟩ := DataW.trod_struct Try.underlying31 h
  rw [cells31] at hl
  obtain ⟨c0, c1, c2, c3, c4, rfl⟩ := list5 hl
  have k5 : Try.prog.cellsOf 5 = 1 := by kernel_rfl
  have k28 : Try.prog.cellsOf 28 = 1 := by kernel_rfl
  have k29 : Try.prog.cellsOf 29 = 1 := by kernel_rfl
  have hxl : xs.length = 5 := by assumption
  obtain ⟨y0, y1, y2, y3, y4, rfl⟩ := list5 hxl
  have f0 : DataW.trod enc Try.prog W 0 (fun _ => true) true m 5 [c0] = some y0 := by
    have := hf 0 { name := "What", type := 5, offset := 0, embedded := false, tag := "", pkgPath := "", byteOffset := 0 } rfl
    simp only [k5] at this
    exact this
  have f1 : DataW.trod enc Try.prog W 0 (fun _ => true) true m 5 [c1] = some y1 := by
    have := hf 1 { name := "S", type := 5, offset := 1, embedded := false, tag := "", pkgPath := "", byteOffset := 1 } rfl
    simp only [k5] at this
    exact this
  have f2 : DataW.trod enc Try.prog W 0 (fun _ => true) true m 5 [c2] = some y2 := by
    have := hf 2 { name := "N", type := 5, offset := 2, embedded := false, tag := "", pkgPath := "", byteOffset := 2 } rfl
    simp only [k5] at this
    exact this
  have f3 : DataW.trod enc Try.prog W 0 (fun _ => true) true m 28 [c3] = some y3 := by
    have := hf 3 { name := "B", type := 28, offset := 3, embedded := false, tag := "", pkgPath := "", byteOffset := 8 } rfl
    simp only [k28] at this
    exact this
  have f4 : DataW.trod enc Try.prog W 0 (fun _ => true) true m 29 [c4] = some y4 := by
    have := hf 4 { name := "Keep", type := 29, offset := 4, embedded := false, tag := "", pkgPath := "", byteOffset := 32 } rfl
    simp only [k29] at this
    exact this
  obtain ⟨z0, e0, _, w0⟩ := DataW.trod_int Try.underlying5 f0
  obtain ⟨z1, e1, _, w1⟩ := DataW.trod_int Try.underlying5 f1
  obtain ⟨z2, e2, _, w2⟩ := DataW.trod_int Try.underlying5 f2
  obtain ⟨a3, l3, q3, b3, e3, i3⟩ := open_inB (d := y3.1) (p := y3.2) f3
  obtain ⟨a4, l4, q4, b4, e4, i4⟩ := open_inF (d := y4.1) (p := y4.2) f4
  simp only [List.cons.injEq, and_true] at e0 e1 e2
  subst e0 e1 e2 e3 e4
  have g0 := bounds_u8 w0
  have g1 := bounds_u8 w1
  have g2 := bounds_u8 w2
  obtain ⟨z0, rfl⟩ := Int.eq_ofNat_of_zero_le g0.1
  obtain ⟨z1, rfl⟩ := Int.eq_ofNat_of_zero_le g1.1
  obtain ⟨z2, rfl⟩ := Int.eq_ofNat_of_zero_le g2.1
  exact ⟨⟨z0, z1, z2, a3, l3, q3, b3, a4, l4, q4, b4⟩, rfl, ⟨by show z0 ≤ 255; omega, by show z1 ≤ 255; omega, by show z2 ≤ 255; omega, i3, i4⟩⟩
theorem open_inA (h : DataW.trod enc Try.prog W 0 (fun _ => true) true n 22 [v] = some (d, p)) : ∃ a len cap l, v = .slice a len cap ∧ InA W a len l := by
  rcases Deep.open_slice Try.underlying22 h with ⟨hcs, _⟩ | ⟨x, len, cap, m, n', D, Pl, hcs, _, hl, _, hm, _, hel⟩
  · simp at hcs; subst hcs
    exact ⟨none, 0, 0, [], rfl, rfl, fun z hz => (by cases hz), .inl rfl⟩
  · simp at hcs; subst hcs
    have hmc : m = cap := by simpa using hm
    rw [cells31] at hel
    have key : ∀ i, ∃ y : Act1, i < len → W.cells? 0 (x.add (i * 5)) 5 = some y.cells ∧ y.Ok W := by
      intro i
      by_cases hi : i < len
      · obtain ⟨cs', h1, h2⟩ := hel i (by omega)
        obtain ⟨y, rfl, hy⟩ := open_act h2
        exact ⟨y, fun _ => ⟨h1, hy⟩⟩
      · exact ⟨⟨0, 0, 0, none, 0, 0, [], none, 0, 0, []⟩, fun h => absurd h hi⟩
    obtain ⟨f, hf⟩ := Classical.axiomOfChoice key
    refine ⟨some x, len, cap, (List.range len).map f, rfl, by simp, fun y hy => ?_, ?_⟩
    · obtain ⟨i, hi, rfl⟩ := List.mem_map.1 hy
      exact (hf i (by simpa using hi)).2
    · by_cases h0 : len = 0
      · subst h0; exact .inl (by simp)
      · obtain ⟨b, off, spot⟩ := x
        have hc := (hf 0 (by omega)).1
        have hb := World.cells?_block hc (by decide)
        obtain ⟨_, _, hs⟩ := World.cells?_some hc
        have h00 := hs 0 (by decide)
        have hspot : spot = none := by
          have e : (f 0).cells[0]? = some (.int .u8 ((f 0).what : Int)) := rfl
          rw [e] at h00
          simpa [Addr.add] using World.cell?_spot h00
        subst hspot
        rw [Addr.add_mid] at hb
        refine .inr ⟨b, off, rfl, hb, fun i y hy j u hu => ?_⟩
        have hi : i < len := by
          have := (List.getElem?_eq_some_iff.1 hy).1
          simpa using this
        rw [List.getElem?_map, List.getElem?_range hi] at hy
        cases hy
        obtain ⟨_, _, hs⟩ := World.cells?_some (hf i hi).1
        have hj : j < 5 := (List.getElem?_eq_some_iff.1 hu).1
        have := hs j hj
        rw [Addr.add_mid, Addr.add_mid] at this
        rw [this]; exact hu
end
end Go.Proofs.Ytfpgdbmglpejcaa
