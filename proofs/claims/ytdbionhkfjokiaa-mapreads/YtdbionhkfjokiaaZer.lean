/- append(s, make([]byte, k)...) onto a row of the call's own. No function is walked. -/
import Derived.Test.YtdbionhkfjokiaaBase
import Derived.Lib.AppendZerosOnto
namespace Go.Proofs.Ytdbionhkfjokiaa
open Go.ChangeShapes Go.WideShapes Go.ChangeAt Go.RowKit

theorem zero_cells (k : Nat) : (Builtin.zeroCells (Value.int .u8 0).cells k).toList = by8 (List.replicate k 0) := by
  apply List.ext_getElem
  · simp [Builtin.zeroCells, Value.cells]
  · intro i h1 h2
    simp [Builtin.zeroCells, Value.cells, Nat.mod_one]
theorem run_zeros_own (w : World) (ty : TypeId) (B n k c : Nat) (a : Option Addr) (l : List Int) (h : Row B w (.slice a n c) n l) (hn : 0 < n) (hk : 0 < k) (hB : B ≤ w.heap.size) (hs : n + k ≤ 1000000) :
    ∃ a' c' w', (Builtin.append_ #[25, 3] ty #[.slice a n c, .int .i64 (k : Int)]).run Try.prog w = .ok (.slice a' (n + k) c') w' ∧ Row B w' (.slice a' (n + k) c') (n + k) (l ++ List.replicate k 0) ∧ w.grownBy w' (Value.slice a n c).ownBlock := by
  obtain ⟨i0, hi, hz0, hz1, hz2⟩ := info_parts Try.info5
  have hlen : (by8 (l ++ List.replicate k 0)).length = (n + k) * 1 := by simp [h.len]
  have hxs : (by8 l).length = n := by simp [h.len]
  rcases h.2 with ⟨_, h0⟩ | ⟨g, cap, cur, e, hbg, hg, hnc, hcm, hcs, htake⟩
  · omega
  cases e
  by_cases hroom : n + k ≤ c
  · have hfit : n * 1 + (by8 (List.replicate k 0)).length ≤ cur.size := by rw [hcs]; simp; omega
    have hst := run_storeCells_at Try.prog g (n * 1) 5 (by8 (List.replicate k 0)) 0 cur w hg (by simpa using hfit) (one8 _)
    simp only [Nat.add_zero] at hst
    have hw : IntKind.i64.wrap (k : Int) = k := by rw [IntKind.wrap_i64]; omega
    have hk0 : k ≠ 0 := by omega
    have hneg : ¬ ((k : Int) < 0) := by omega
    have h48 : ¬ (281474976710656 < (k : Int)) := by omega
    have hzc := zero_cells k
    refine ⟨some ⟨g, 0, none⟩, c, w.setRow g (cur.toList.take (n * 1) ++ by8 (List.replicate k 0) ++ cur.toList.drop (n * 1 + (by8 (List.replicate k 0)).length)).toArray, ?_, ⟨hlen, .inr ⟨g, c, _, rfl, hbg, setRow_heap w g cur _ 5 _ hg, hroom, hcm, ?_, ?_⟩⟩, ⟨rfl, rfl, rfl, by simp, fun q _ hq => setRow_other w g q _ (fun e => hq (by simp [Value.ownBlock, e]))⟩⟩
    · simp [Builtin.append_, run_underlying Try.underlying25, run_underlying Try.underlying3, sizeOf, typeInfo, zeroValue, hi, hz0, hz1, hz2, asInt, asIntOf, hw, hk0, hneg, h48, hroom, Addr.add_lit, hzc]
      simp [by8] at hst
      rw [hst]
      simp
    · simp only [List.size_toArray, List.length_append, List.length_take, List.length_drop, Array.length_toList]
      omega
    · rw [htake]
      rw [← hlen, by8, List.map_append]
      exact List.take_left
  · have holds : ∀ j u, (by8 l)[j]? = some u → w.cell? ((⟨g, 0, none⟩ : Addr).add j) = some u := h.cells (g := g) rfl
    have hold := run_firstCells_some (P := Try.prog) w.drew i0.size n ⟨g, 0, none⟩ n c (by8 l) (by rw [hz1, hxs, Nat.mul_one]) (by simpa using holds)
    have hr := Go.Lib.run_append_grow_zeros (P := Try.prog) w 25 3 ty 5 i0 (.int .u8 0) .i64 .i64 Try.underlying25 Try.underlying3 hi hz0 (some ⟨g, 0, none⟩) n c (by8 l) hold k hk (by omega) (by omega) (by omega) (by rw [hz2]; omega) (growslice_fits (by omega) (by rw [hz2]; omega))
    have hge := grownCap_ge w (n + k) c 5
    have hcm' : grownCap w (n + k) c 5 ≤ maxLen := grownCap_le_maxLen w (n + k) c 5 (by unfold maxLen; omega)
    refine ⟨_, _, _, hr, ⟨hlen, .inr ⟨w.heap.size, _, _, rfl, hB, heap_alloc_new w.drew _, hge, hcm', ?_, ?_⟩⟩, ⟨rfl, rfl, rfl, by simp, fun q hq _ => heap_alloc_old w.drew _ hq⟩⟩
    · simp only [Array.size_append, List.size_toArray, size_zeroCells, hxs]
      simp [Value.cells]
      omega
    · simp only [Array.toList_append, List.append_assoc, zero_cells]
      rw [← List.append_assoc, ← hlen, by8, List.map_append]
      exact List.take_left
theorem app_zeros_step {ops : Array Oper} {o : Oper} {a : Act} {w : World} {K : Act → World → Prop} {Q : Exit → Act → World → Prop} {E : Prop} {B n c k : Nat} {ao : Option Addr} {l : List Int}
    (h1 : Row B w (.slice ao n c) n l) (hn : 0 < n) (hk : 0 < k) (hBw : B ≤ w.heap.size) (hsmall : n + k ≤ 1000000)
    (hgd : o.guard = none) (s x : Operand) (ho : o.op = .call { callee := .builtin .append, args := #[s, x], argTypes := #[25, 3] })
    (hs : a.eval s = .slice ao n c) (hx : a.eval x = .int .i64 (k : Int))
    (h : ∀ a' c' w', Row B w' (.slice a' (n + k) c') (n + k) (l ++ List.replicate k 0) → Turned (fun q => (Value.slice ao n c).ownBlock = some q) w w' → K (a.put o.dst (.slice a' (n + k) c')) w') :
    if Region.wanted o (yielded ops a.tmps) = true then Oper.wp Try.prog o a w K Q else E := by
  rw [if_pos (wanted_none hgd)]
  obtain ⟨a', c', w', hr, h2, h3⟩ := run_zeros_own w o.type B n k c ao l h1 hn hk hBw hsmall
  exact Go.Lib.wp_append_run w s x 25 3 ho _ _ hs hx _ w' hr (h a' c' w' h2 (Turned.grown h3 (fun q e => e)))
end Go.Proofs.Ytdbionhkfjokiaa
