/- Unframe: the first good frame. -/
import Derived.Test.YtbipikbefokihaaDoorStrs
namespace Go.Proofs.YtbipikbefokihaaDoor
open Go.ChangeShapes Go.WideShapes Go.ChangeAt Go.RowKit

theorem Given.cell {w : World} {ao : Option Addr} {len cap : Nat} {zs : List Int} (h : Given w ao len cap zs) (i : Nat) (hi : i < len) : ∃ b o, ao = some ⟨b, o, none⟩ ∧ w.cell? ⟨b, o + i, none⟩ = some (.int .u8 (zs.getD i 0)) := by
  rcases h.row with h0 | ⟨b, o, e, hc⟩
  · subst h0; have := h.leq; simp at this; omega
  · exact ⟨b, o, e, hc i (by rw [h.leq]; exact hi)⟩
theorem drewN_cell (w : World) (m : Nat) (p : Addr) : (w.drewN m).cell? p = w.cell? p := by
  induction m with
  | zero => rfl
  | succ m ih => exact ih
theorem RowAt.drewN {w : World} {ao : Option Addr} {l : List Int} (h : RowAt w ao l) (m : Nat) : RowAt (w.drewN m) ao l := by
  rcases h with h | ⟨b, o, e, hc⟩
  · exact .inl h
  · exact .inr ⟨b, o, e, fun i hi => by rw [drewN_cell]; exact hc i hi⟩
theorem Given.drewN {w : World} {ao : Option Addr} {len cap : Nat} {zs : List Int} (h : Given w ao len cap zs) (m : Nat) : Given (w.drewN m) ao len cap zs := ⟨h.leq, h.byt, h.row.drewN m, h.cap1, h.cap2⟩

theorem sub_lh {ao : Option Addr} {len cap : Nat} (i j : Nat) (hi : i ≤ j) (hj : j ≤ len) (hc : len ≤ cap) :
    ∃ ao', (∀ w, (Instr.sliceAt 31 (.slice ao len cap) (some (.int .i64 (i : Int))) (some (.int .i64 (j : Int))) none).run Tryd.prog w = .ok (.slice ao' (j - i) (cap - i)) w) ∧ (∀ w zs, Given w ao len cap zs → Given w ao' (j - i) (cap - i) (pc zs i (j - i))) ∧ (ao' = none → ao = none) := by
  refine ⟨if cap = i then ao else ao.map (·.add (i * 1)), fun w => ?_, fun w zs h => ?_, fun e => ?_⟩
  · have h1 : (i : Int) ≤ j := by omega
    have h2 : (j : Int) ≤ cap := by omega
    simp [Instr.sliceAt, Instr.slice, Instr.sliceBounds, Instr.sliceBound, run_underlying Tryd.underlying31, asIntOf]
    rw [if_pos (by omega), if_pos (by omega)]
  · have h1 := h.leq
    have h2 := h.cap2
    refine ⟨pc_len (by omega), byt_take (byt_drop h.byt _) _, ?_, by omega, by omega⟩
    by_cases hc : cap = i
    · left; unfold pc; rw [List.drop_of_length_le (by omega)]; simp
    · rw [if_neg hc]
      rcases h.row with e | ⟨b, o, e, hr⟩
      · left; rw [e]; simp [pc]
      · subst e
        have := (h.row).piece i (j - i) (by omega)
        simpa [Addr.add_mid] using this
  · by_cases hc : cap = i
    · rwa [if_pos hc] at e
    · rw [if_neg hc] at e
      cases ao with
      | none => rfl
      | some a => cases e
theorem sub_l {ao : Option Addr} {len cap : Nat} (i : Nat) (t : Int) (ht : t = i) (hi : i ≤ len) (hc : len ≤ cap) :
    ∃ ao', (∀ w, (Instr.sliceAt 31 (.slice ao len cap) (some (.int .i64 t)) none none).run Tryd.prog w = .ok (.slice ao' (len - i) (cap - i)) w) ∧ (∀ w zs, Given w ao len cap zs → Given w ao' (len - i) (cap - i) (zs.drop i)) ∧ (ao' = none → ao = none) := by
  subst ht
  refine ⟨if cap = i then ao else ao.map (·.add (i * 1)), fun w => ?_, fun w zs h => ?_, fun e => ?_⟩
  · have h1 : (i : Int) ≤ len := by omega
    have h2 : (len : Int) ≤ cap := by omega
    simp [Instr.sliceAt, Instr.slice, Instr.sliceBounds, Instr.sliceBound, run_underlying Tryd.underlying31, asIntOf]
    intro hj; omega
  · have h1 := h.leq
    have h2 := h.cap2
    refine ⟨by rw [List.length_drop]; omega, byt_drop h.byt _, ?_, by omega, by omega⟩
    by_cases hc : cap = i
    · left; rw [List.drop_of_length_le (by omega)]
    · rw [if_neg hc]
      rcases h.row with e | ⟨b, o, e, hr⟩
      · left; rw [e]; simp
      · subst e
        have := (h.row).tail i
        simpa [Addr.add_mid] using this
  · by_cases hc : cap = i
    · rwa [if_pos hc] at e
    · rw [if_neg hc] at e
      cases ao with
      | none => rfl
      | some a => cases e
def ufX (zs : List Int) : List Int := match unf none 0 zs with | none => [] | some r => r.1
def ufN (zs : List Int) : Nat := match unf none 0 zs with | none => 0 | some r => r.2
def ufB (zs : List Int) : Bool := match unf none 0 zs with | none => false | some _ => true
theorem uf_none {zs : List Int} (h : unf none 0 zs = none) : ufX zs = [] ∧ ufN zs = 0 ∧ ufB zs = false := by unfold ufX ufN ufB; rw [h]; exact ⟨rfl, rfl, rfl⟩
theorem uf_some {zs x : List Int} {n : Nat} (h : unf none 0 zs = some (x, n)) : ufX zs = x ∧ ufN zs = n ∧ ufB zs = true := by unfold ufX ufN ufB; rw [h]; exact ⟨rfl, rfl, rfl⟩
/-- What Unframe answers. -/
def UfAns (w : World) (zs : List Int) (e : Ending) (w' : World) : Prop :=
  ∃ ao n c, e = .returned (.tuple #[.slice ao n c, .int .i64 (ufN zs : Int), .bool (ufB zs)]) ∧ Mk w w' (.slice ao n c) n (ufX zs)
theorem ans_none {w w' : World} {zs : List Int} (h : unf none 0 zs = none) (hb : Below w.heap.size w w') : UfAns w zs (.returned (.tuple #[.slice none 0 0, .int .i64 0, .bool false])) w' := by
  obtain ⟨h1, h2, h3⟩ := uf_none h
  exact ⟨none, 0, 0, by rw [h2, h3]; rfl, by rw [h1]; exact (Mk.nil w).more hb⟩
theorem ans_some {w w' : World} {zs x : List Int} {n m c : Nat} {ao : Option Addr} (h : unf none 0 zs = some (x, m)) (hm : Mk w w' (.slice ao n c) n x) : UfAns w zs (.returned (.tuple #[.slice ao n c, .int .i64 (m : Int), .bool true])) w' := by
  obtain ⟨h1, h2, h3⟩ := uf_some h
  exact ⟨ao, n, c, by rw [h2, h3], by rw [h1]; exact hm⟩
end Go.Proofs.YtbipikbefokihaaDoor
