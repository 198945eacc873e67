/- What MapBack needs: an array of two numbers that came in; copies; the two slices. -/
import Derived.Test.YtdbionhkfjokiaaKnown
namespace Go.Proofs.Ytdbionhkfjokiaa
open Go.ChangeShapes Go.WideShapes Go.ChangeAt Go.RowKit

theorem cells23 : Try.prog.cellsOf 23 = 1 := by kernel_rfl
theorem cells24 : Try.prog.cellsOf 24 = 2 := by kernel_rfl
theorem list2 {α : Type} (l : List α) (h : l.length = 2) : ∃ a b, l = [a, b] := by
  match l, h with
  | [a, b], _ => exact ⟨a, b, rfl⟩
theorem open_mask {H : Type} {enc : TypeId × Value → H} {W : World} {base : Nat} {v : Value} {d : DataW H} {ps : List MemPlace} (hval : Value.okWide Try.prog W .any base 24 v) (hd : DataW.Trod enc Try.prog W 0 (fun _ => true) true 24 v d ps) :
    ∃ m0 m1 : Int, v = .agg #[.int .u64 m0, .int .u64 m1] ∧ (0 ≤ m0 ∧ m0 < 18446744073709551616) ∧ (0 ≤ m1 ∧ m1 < 18446744073709551616) := by
  obtain ⟨cs, rfl, hsz, _⟩ : ∃ cs, v = .agg cs ∧ cs.size = Try.prog.cellsOf 24 ∧ Row.okWide Try.prog W .any base 24 cs := by
    simpa [Value.okWide, Try.underlying24] using hval
  rw [cells24] at hsz
  obtain ⟨l⟩ := cs
  obtain ⟨c0, c1, rfl⟩ := list2 l hsz
  obtain ⟨fuel, hf⟩ := hd
  obtain ⟨xs, m, _, _, _, hl, hg⟩ := DataW.trod_array Try.underlying24 hf
  rw [cells23] at hg
  have g0 := hg 0 (by omega)
  have g1 := hg 1 (by omega)
  rw [List.getElem?_eq_getElem (by omega)] at g0 g1
  obtain ⟨z0, e0, _, w0⟩ := DataW.trod_int Try.underlying23 g0
  obtain ⟨z1, e1, _, w1⟩ := DataW.trod_int Try.underlying23 g1
  simp [Value.cells] at e0 e1
  subst e0 e1
  have b0 := bounds_u64 w0
  have b1 := bounds_u64 w1
  exact ⟨z0, z1, rfl, by omega, by omega⟩
/-- A copy of a row. -/
theorem app_copy {ops : Array Oper} {rest : List Oper} {o : Oper} {a : Act} {w : World} {Q : Exit → Act → World → Prop} {n2 c2 : Nat} {ad : Addr} {l2 : List Int}
    (hrow : RowAt w (some ad) l2) (hn2 : l2.length = n2) (hsmall : n2 ≤ 1000000)
    (hgd : o.guard = none) (x : Operand) (ho : o.op = .call { callee := .builtin .append, args := #[.const (.slice none 0 0), x], argTypes := #[25, 25] })
    (hx : a.eval x = .slice (some ad) n2 c2)
    (h : ∀ ao cap w', Mk w w' (.slice ao n2 cap) n2 l2 → wpList Try.prog ops Q rest (a.put o.dst (.slice ao n2 cap)) w') :
    wpList Try.prog ops Q (o :: rest) a w := by
  refine app_row (Row.nil w.heap.size w) hrow hn2 (fun e => by cases e) (Nat.le_refl _) (by omega) hgd _ x ho rfl hx ?_
  intro ao cap w' hr ht
  rw [Nat.zero_add, List.nil_append] at hr
  rw [Nat.zero_add]
  exact h ao cap w' ⟨hr, ht.below (fun k e => by cases e) (Nat.le_refl _)⟩
/-- Each of two cells holds numbers. -/
def Two (b : Nat) (w : World) : Prop := ∀ j, j < 2 → ∃ a n c zs, w.cell? ⟨b, j, none⟩ = some (.slice a n c) ∧ I.Given w a n c zs
theorem Two.below {b : Nat} {w w' : World} (h : Two b w) (hb : Below w.heap.size w w') : Two b w' := by
  intro j hj
  obtain ⟨a, n, c, zs, hc, hg⟩ := h j hj
  exact ⟨a, n, c, zs, (hb.cell (p := ⟨b, j, none⟩) (World.block_lt_of_cell? w ⟨b, j, none⟩ hc)).trans hc, hg.below hb⟩
theorem Two.new {w : World} {v0 v1 : Value} (t : TypeId) (h : ∀ v, v = v0 ∨ v = v1 → ∃ a n c zs, v = .slice a n c ∧ I.Given w a n c zs) : Two w.heap.size (w.alloc (.cells #[v0, v1] t)) := by
  have hn := heap_alloc_new w (.cells #[v0, v1] t)
  intro j hj
  have hj' : j = 0 ∨ j = 1 := by omega
  rcases hj' with rfl | rfl
  · obtain ⟨a, n, c, zs, rfl, hg⟩ := h v0 (by simp)
    exact ⟨a, n, c, zs, by rw [cell_of_head hn]; rfl, hg.below (bel1 _ _)⟩
  · obtain ⟨a, n, c, zs, rfl, hg⟩ := h v1 (by simp)
    exact ⟨a, n, c, zs, by rw [cell_of_head hn]; rfl, hg.below (bel1 _ _)⟩
theorem putR_yes (ao : Option Addr) (len cap m : Nat) (zs : List Int) (w : World) (h : I.Given w ao len cap zs) (hr : riseL zs 1 = true) (hm : sizeL zs = m) :
    Calls Try.prog 8 #[.slice ao len cap] w fun e w' => ∃ b, e = .returned (.tuple #[.slice (some ⟨b, 0, none⟩) m 16, .bool true]) ∧ RowAt w' (some ⟨b, 0, none⟩) (putL zs) ∧ Below w.heap.size w w' := by
  refine (putR_any ao len cap zs w h).mono ?_
  rintro e w' (⟨_, rfl, h1, h2⟩ | ⟨h0, _⟩)
  · exact ⟨_, by rw [hm], h1, h2⟩
  · rw [hr] at h0; cases h0
theorem putR_no (ao : Option Addr) (len cap : Nat) (zs : List Int) (w : World) (h : I.Given w ao len cap zs) (hr : riseL zs 1 = false) :
    Calls Try.prog 8 #[.slice ao len cap] w fun e w' => e = .returned (.tuple #[.slice none 0 0, .bool false]) ∧ Below w.heap.size w w' := by
  refine (putR_any ao len cap zs w h).mono ?_
  rintro e w' (⟨h0, _⟩ | ⟨_, rfl, h2⟩)
  · rw [hr] at h0; cases h0
  · exact ⟨rfl, h2⟩
/-- Read of what Put made, with anything behind. -/
theorem read_back (ao : Option Addr) (len cap m : Nat) (zs more : List Int) (w : World) (h : Given w ao len cap (putL zs ++ more)) (hr : riseL zs 1 = true) (hm : sizeL zs = m) (hw : Wid zs) :
    Calls Try.prog 9 #[.slice ao len cap] w fun e w' => ∃ a n c, e = .returned (.tuple #[.slice a n c, .int .i64 (m : Int), .bool true]) ∧ I.Given w' a n c zs ∧ Below w.heap.size w w' := by
  refine (read9 ao len cap _ w h).mono ?_
  rintro e w' ⟨a, n, c, rfl, hk⟩
  obtain ⟨h1, h2, h3⟩ := read_put (more := more) hr
  rw [h2] at hk
  exact ⟨a, n, c, by rw [h1, h3, hm], hk.given hw, hk.2⟩
end Go.Proofs.Ytdbionhkfjokiaa
