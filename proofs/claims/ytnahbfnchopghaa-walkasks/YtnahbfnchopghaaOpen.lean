/- Tables and parts of tables that came in. -/
import Derived.Test.YtnahbfnchopghaaOk
import Derived.Deep.Slices
namespace Go.Proofs.Ytnahbfnchopghaa
set_option maxRecDepth 20000
open Go.ChangeShapes Go.WideShapes Go.ChangeAt Go.RowKit

theorem cells34 : Try.prog.cellsOf 34 = 4 := by kernel_rfl
theorem cells52 : Try.prog.cellsOf 42 = 4 := by kernel_rfl
theorem cells3 : Try.prog.cellsOf 3 = 1 := by kernel_rfl
theorem cells5 : Try.prog.cellsOf 5 = 1 := by kernel_rfl
theorem list4 {α : Type} {cs : List α} (h : cs.length = 4) : ∃ c0 c1 c2 c3, cs = [c0, c1, c2, c3] := by
  match cs, h with
  | [c0, c1, c2, c3], _ => exact ⟨c0, c1, c2, c3, rfl⟩
def OkSt (s : St) : Prop := I64 s.id ∧ I64 s.next ∧ I64 s.other ∧ 0 ≤ s.kind ∧ s.kind < 256
theorem okT_of {l : List St} (h : ∀ s ∈ l, OkSt s) : OkT l := by
  intro i
  by_cases hi : i < l.length
  · exact h _ (sAt_mem hi)
  · have : sAt l i = St.zero := by unfold sAt; rw [List.getD_eq_getElem?_getD, List.getElem?_eq_none (by omega)]; rfl
    rw [this]; unfold I64 St.zero; dsimp only; omega
theorem okT_at {l : List St} (h : OkT l) {s : St} (hs : s ∈ l) : OkSt s := by
  obtain ⟨i, hi, rfl⟩ := mem_sAt hs
  exact h i
theorem okT_nil : OkT [] := okT_of fun s hs => by cases hs
theorem okT_snoc {l : List St} {s : St} (h : OkT l) (hs : OkSt s) : OkT (l ++ [s]) := okT_of fun r hr => by
  rcases List.mem_append.1 hr with h1 | h1
  · exact okT_at h h1
  · have : r = s := by simpa using h1
    rw [this]; exact hs
section
variable {H : Type} {enc : TypeId × Value → H} {W : World} {n : Nat} {v : Value} {d : DataW H} {p : List MemPlace}
theorem some_of {xs : List (DataW H × List MemPlace)} {i : Nat} (h : i < xs.length) {o : Option (DataW H × List MemPlace)} (e : o = xs[i]?) : ∃ y, o = some y := ⟨xs[i], by rw [e, List.getElem?_eq_getElem h]⟩
theorem int_at {t : TypeId} {k : IntKind} {c : Value} (ht : Try.prog.underlying t = some (.int k)) (h : ∃ y, DataW.trod enc Try.prog W 0 (fun _ => true) true n t [c] = some y) : ∃ z, c = .int k z ∧ (Lit.int k z).wf = true := by
  obtain ⟨y, hy⟩ := h
  obtain ⟨z, e, _, hw⟩ := DataW.trod_int ht hy
  simp at e
  exact ⟨z, e, hw⟩
theorem open_st {cs : List Value} (h : DataW.trod enc Try.prog W 0 (fun _ => true) true n 34 cs = some (d, p)) : ∃ r : St, cs = r.cells ∧ OkSt r := by
  obtain ⟨xs, m, _, _, hl, hx, hf⟩ := DataW.trod_struct Try.underlying34 h
  rw [cells34] at hl
  obtain ⟨c0, c1, c2, c3, rfl⟩ := list4 hl
  simp at hx
  obtain ⟨z0, rfl, w0⟩ := int_at (c := c0) Try.underlying3 (some_of (xs := xs) (i := 0) (by omega) (by have g : DataW.trod enc Try.prog W 0 (fun _ => true) true m 3 (List.take (Try.prog.cellsOf 3) (List.drop 0 _)) = xs[0]? := hf 0 _ rfl; rw [cells3] at g; exact g))
  obtain ⟨z1, rfl, w1⟩ := int_at (c := c1) Try.underlying5 (some_of (xs := xs) (i := 1) (by omega) (by have g : DataW.trod enc Try.prog W 0 (fun _ => true) true m 5 (List.take (Try.prog.cellsOf 5) (List.drop 1 _)) = xs[1]? := hf 1 _ rfl; rw [cells5] at g; exact g))
  obtain ⟨z2, rfl, w2⟩ := int_at (c := c2) Try.underlying3 (some_of (xs := xs) (i := 2) (by omega) (by have g : DataW.trod enc Try.prog W 0 (fun _ => true) true m 3 (List.take (Try.prog.cellsOf 3) (List.drop 2 _)) = xs[2]? := hf 2 _ rfl; rw [cells3] at g; exact g))
  obtain ⟨z3, rfl, w3⟩ := int_at (c := c3) Try.underlying3 (some_of (xs := xs) (i := 3) (by omega) (by have g : DataW.trod enc Try.prog W 0 (fun _ => true) true m 3 (List.take (Try.prog.cellsOf 3) (List.drop 3 _)) = xs[3]? := hf 3 _ rfl; rw [cells3] at g; exact g))
  have b0 := bounds_i64 w0
  have b1 := bounds_u8 w1
  have b2 := bounds_i64 w2
  have b3 := bounds_i64 w3
  refine ⟨⟨z0, z1, z2, z3⟩, rfl, ?_⟩
  unfold OkSt I64
  dsimp only
  omega
/-- A table that came in. -/
def InA (W : World) (a : Option Addr) (len cap : Nat) (l : List St) : Prop := SG W a len cap l ∧ OkT l
theorem open_inA (h : DataW.trod enc Try.prog W 0 (fun _ => true) true n 22 [v] = some (d, p)) : ∃ a len cap l, v = .slice a len cap ∧ InA W a len cap l := by
  rcases Deep.open_slice Try.underlying22 h with ⟨hcs, _⟩ | ⟨x, len, cap, m, n', D, Pl, hcs, _, hl, hcap, hm, _, hel⟩
  · simp at hcs; subst hcs
    exact ⟨none, 0, 0, [], rfl, SG.none W, okT_nil⟩
  · simp at hcs; subst hcs
    have hmc : m = cap := by simpa using hm
    rw [cells34] at hel
    have key : ∀ i, ∃ y : St, i < len → W.cells? 0 (x.add (i * 4)) 4 = some y.cells ∧ OkSt y := by
      intro i
      by_cases hi : i < len
      · obtain ⟨cs', h1, h2⟩ := hel i (by omega)
        obtain ⟨y, rfl, hy⟩ := open_st h2
        exact ⟨y, fun _ => ⟨h1, hy⟩⟩
      · exact ⟨St.zero, fun h => absurd h hi⟩
    obtain ⟨f, hf⟩ := Classical.axiomOfChoice key
    refine ⟨some x, len, cap, (List.range len).map f, rfl, ⟨by simp, ?_, hl, by unfold maxLen at hcap; omega, fun e => by cases e⟩, okT_of fun y hy => ?_⟩
    · by_cases h0 : len = 0
      · subst h0; exact .inl (by simp)
      · obtain ⟨b, off, spot⟩ := x
        have hc := (hf 0 (by omega)).1
        obtain ⟨_, _, hs⟩ := World.cells?_some hc
        have h00 := hs 0 (by decide)
        have hspot : spot = none := by
          have e : (f 0).cells[0]? = some (.int .i64 (f 0).id) := rfl
          rw [e] at h00
          simpa [Addr.add] using World.cell?_spot h00
        subst hspot
        refine .inr ⟨b, off, rfl, fun j u hu => ?_⟩
        have hj : j < len * 4 := by
          have := (List.getElem?_eq_some_iff.1 hu).1
          rw [flS_len] at this
          simpa using this
        obtain ⟨i, r, hir, hr⟩ : ∃ i r, j = i * 4 + r ∧ r < 4 := ⟨j / 4, j % 4, by omega, by omega⟩
        subst hir
        have hi : i < len := by omega
        have hli : ((List.range len).map f)[i]? = some (f i) := by rw [List.getElem?_map, List.getElem?_range hi]; rfl
        unfold flS at hu
        rw [flat_get St.cells _ (fun r _ => r.len) i (f i) hli r hr] at hu
        obtain ⟨_, _, hs⟩ := World.cells?_some (hf i hi).1
        have := hs r hr
        rw [Addr.add_mid, Addr.add_mid] at this
        rw [← Nat.add_assoc, this]; exact hu
    · obtain ⟨i, hi, rfl⟩ := List.mem_map.1 hy
      exact (hf i (by simpa using hi)).2
theorem open_in {cs : List Value} (h : DataW.trod enc Try.prog W 0 (fun _ => true) true n 42 cs = some (d, p)) : ∃ (A K X O : Int), cs = [.int .u8 A, .int .u8 K, .int .u8 X, .int .u8 O] ∧ (0 ≤ A ∧ A < 256) ∧ (0 ≤ K ∧ K < 256) ∧ (0 ≤ X ∧ X < 256) ∧ (0 ≤ O ∧ O < 256) := by
  obtain ⟨xs, m, _, _, hl, hx, hf⟩ := DataW.trod_struct Try.underlying42 h
  rw [cells52] at hl
  obtain ⟨c0, c1, c2, c3, rfl⟩ := list4 hl
  simp at hx
  obtain ⟨z0, rfl, w0⟩ := int_at (c := c0) Try.underlying5 (some_of (xs := xs) (i := 0) (by omega) (by have g : DataW.trod enc Try.prog W 0 (fun _ => true) true m 5 (List.take (Try.prog.cellsOf 5) (List.drop 0 _)) = xs[0]? := hf 0 _ rfl; rw [cells5] at g; exact g))
  obtain ⟨z1, rfl, w1⟩ := int_at (c := c1) Try.underlying5 (some_of (xs := xs) (i := 1) (by omega) (by have g : DataW.trod enc Try.prog W 0 (fun _ => true) true m 5 (List.take (Try.prog.cellsOf 5) (List.drop 1 _)) = xs[1]? := hf 1 _ rfl; rw [cells5] at g; exact g))
  obtain ⟨z2, rfl, w2⟩ := int_at (c := c2) Try.underlying5 (some_of (xs := xs) (i := 2) (by omega) (by have g : DataW.trod enc Try.prog W 0 (fun _ => true) true m 5 (List.take (Try.prog.cellsOf 5) (List.drop 2 _)) = xs[2]? := hf 2 _ rfl; rw [cells5] at g; exact g))
  obtain ⟨z3, rfl, w3⟩ := int_at (c := c3) Try.underlying5 (some_of (xs := xs) (i := 3) (by omega) (by have g : DataW.trod enc Try.prog W 0 (fun _ => true) true m 5 (List.take (Try.prog.cellsOf 5) (List.drop 3 _)) = xs[3]? := hf 3 _ rfl; rw [cells5] at g; exact g))
  have b0 := bounds_u8 w0
  have b1 := bounds_u8 w1
  have b2 := bounds_u8 w2
  have b3 := bounds_u8 w3
  exact ⟨z0, z1, z2, z3, rfl, by omega, by omega, by omega, by omega⟩
/-- Parts of a table, in memory. -/
def InC (W : World) (a : Option Addr) (len : Nat) : Prop := ∀ i, i < len → ∃ (A K X O : Int) (b off : Nat), (0 ≤ A ∧ A < 256) ∧ (0 ≤ K ∧ K < 256) ∧ (0 ≤ X ∧ X < 256) ∧ (0 ≤ O ∧ O < 256) ∧ a = some ⟨b, off, none⟩ ∧
  W.cell? ⟨b, off + i * 4, none⟩ = some (.int .u8 A) ∧ W.cell? ⟨b, off + i * 4 + 1, none⟩ = some (.int .u8 K) ∧ W.cell? ⟨b, off + i * 4 + 2, none⟩ = some (.int .u8 X) ∧ W.cell? ⟨b, off + i * 4 + 3, none⟩ = some (.int .u8 O)
theorem InC.below {W w : World} {a : Option Addr} {len : Nat} (h : InC W a len) (hb : Below W.heap.size W w) : InC w a len := by
  intro i hi
  obtain ⟨A, K, X, O, b, off, hA, hK, hX, hO, e, c0, c1, c2, c3⟩ := h i hi
  have lt : b < W.heap.size := World.block_lt_of_cell? W _ c0
  exact ⟨A, K, X, O, b, off, hA, hK, hX, hO, e, (hb.cell (p := ⟨b, off + i * 4, none⟩) lt).trans c0, (hb.cell (p := ⟨b, off + i * 4 + 1, none⟩) lt).trans c1, (hb.cell (p := ⟨b, off + i * 4 + 2, none⟩) lt).trans c2, (hb.cell (p := ⟨b, off + i * 4 + 3, none⟩) lt).trans c3⟩
/-- Parts of a table that came in. -/
def InN (W : World) (a : Option Addr) (len _cap : Nat) (_l : List Int) : Prop := InC W a len ∧ len ≤ 9223372036854775807
theorem open_inN (h : DataW.trod enc Try.prog W 0 (fun _ => true) true n 23 [v] = some (d, p)) : ∃ a len cap l, v = .slice a len cap ∧ InN W a len cap l := by
  rcases Deep.open_slice Try.underlying23 h with ⟨hcs, _⟩ | ⟨x, len, cap, m, n', D, Pl, hcs, _, hl, hcap, hm, _, hel⟩
  · simp at hcs; subst hcs
    exact ⟨none, 0, 0, [], rfl, fun i hi => by omega, by omega⟩
  · simp at hcs; subst hcs
    have hmc : m = cap := by simpa using hm
    rw [cells52] at hel
    by_cases h00 : len = 0
    · subst h00
      exact ⟨some x, 0, cap, [], rfl, fun i hi => by omega, by omega⟩
    obtain ⟨b, off, spot⟩ := x
    have hspot : spot = none := by
      obtain ⟨cs', h1, h2⟩ := hel 0 (by omega)
      obtain ⟨A, K, X, O, rfl, _⟩ := open_in h2
      obtain ⟨_, _, hs⟩ := World.cells?_some h1
      have h0 := hs 0 (by decide)
      have e : ([Value.int .u8 A, .int .u8 K, .int .u8 X, .int .u8 O] : List Value)[0]? = some (.int .u8 A) := rfl
      rw [e] at h0
      simpa [Addr.add] using World.cell?_spot h0
    subst hspot
    refine ⟨some ⟨b, off, none⟩, len, cap, [], rfl, fun i hi => ?_, by unfold maxLen at hcap; omega⟩
    obtain ⟨cs', h1, h2⟩ := hel i (by omega)
    obtain ⟨A, K, X, O, rfl, b0, b1, b2, b3⟩ := open_in h2
    obtain ⟨_, _, hs⟩ := World.cells?_some h1
    have g : ∀ r, r < 4 → W.cell? ⟨b, off + i * 4 + r, none⟩ = ([Value.int .u8 A, .int .u8 K, .int .u8 X, .int .u8 O] : List Value)[r]? := by
      intro r hr
      have := hs r hr
      rw [Addr.add_mid, Addr.add_mid] at this
      exact this
    exact ⟨A, K, X, O, b, off, b0, b1, b2, b3, rfl, g 0 (by decide), g 1 (by decide), g 2 (by decide), g 3 (by decide)⟩
end
end Go.Proofs.Ytnahbfnchopghaa
