/- A write that waits, as 65 cells: made, laid into memory, read, appended to a row; bytes that are copied. Laws for the walk. -/
import Derived.Test.YthhgnflkplpklabDRead
import Derived.Great.BuildSlice
namespace Go.Proofs.Ythhgnflkplpklab.Dsc
open Go.ChangeShapes Go.WideShapes Go.ChangeAt Go.RowKit

def zer : List Int := List.replicate 64 0
theorem zer_sec : Sec zer := by unfold Sec zer Byt; decide
theorem z60 : (Try.prog.info? 72).map (fun i => (i.zero, i.size)) = some (some (.agg (encW (0, zer)).toArray), 65) := by kernel_rfl
theorem n60 : (Try.prog.info? 72).map (·.size) = some 65 := (zero_of_info z60).2
theorem encW_len {x : Nat × List Int} (h : Sec x.2) : (encW x).length = 65 := by simp [encW, h.1]

theorem build60 (n : Nat) (w : World) : (Instr.build 72 #[(0, .int .i64 (n : Int))]).run Try.prog w = .ok (.agg (encW (n, zer)).toArray) w := by
  have hz := (zero_of_info z60).1 w
  unfold Instr.build
  simp [hz, go_sem, encW]
section
variable {ops : Array Oper} {rest : List Oper} {op : Oper} {a : Act} {w : World} {Q : Exit → Act → World → Prop}
theorem bd60 {n : Nat} (hgd : op.guard = none) (x : Operand) (ho : op.op = .build 72 #[(0, x)]) (hx : a.eval x = .int .i64 (n : Int))
    (h : wpList Try.prog ops Q rest (a.put op.dst (.agg (encW (n, zer)).toArray)) w) : wpList Try.prog ops Q (op :: rest) a w :=
  wpList_plain hgd fun K hK => by
    unfold Oper.wp execOp
    simp only [ho, List.map_toArray, List.map_cons, List.map_nil, hx, Sem.run_bind, build60, Result.andThen_ok]
    exact hK _ _ h
theorem al60 (hgd : op.guard = none) (ho : op.op = .alloc 72)
    (h : ∀ w', w.alloc (.cells (encW (0, zer)).toArray 72) = w' → wpList Try.prog ops Q rest (a.put op.dst (.pointer (some ⟨w.heap.size, 0, none⟩))) w') : wpList Try.prog ops Q (op :: rest) a w :=
  wpList_plain hgd fun K hK => by
    have hz := (zero_of_info z60).1 w
    unfold Oper.wp execOp
    simp [ho, Instr.alloc, hz, newVar, newRow, go_sem]
    exact hK _ _ (h _ rfl)
theorem ld60 {b o : Nat} {x : Nat × List Int} (hr : w.rangeAt b o (encW x)) (hs : Sec x.2) (hgd : op.guard = none) (y : Operand) (ho : op.op = .load 72 y) (hx : a.eval y = .pointer (some ⟨b, o, none⟩))
    (h : wpList Try.prog ops Q rest (a.put op.dst (.agg (encW x).toArray)) w) : wpList Try.prog ops Q (op :: rest) a w :=
  wpList_load_mid hgd 72 y ho b o hx (encW x) _ hr Try.underlying72 rfl (by rw [n60, encW_len hs]) h
theorem st60 {b o : Nat} {x : Nat × List Int} (ht : w.there b o 65) (hs : Sec x.2) (hgd : op.guard = none) (y z : Operand) (ho : op.op = .store 72 y z) (hx : a.eval y = .pointer (some ⟨b, o, none⟩)) (hy : a.eval z = .agg (encW x).toArray)
    (h : ∀ w', w.setCells b o (encW x) = w' → wpList Try.prog ops Q rest (a.put op.dst undef) w') : wpList Try.prog ops Q (op :: rest) a w :=
  wpList_store_mid hgd 72 y z ho b o (encW x).toArray hx hy (by simpa [encW_len hs] using ht) (by rw [n60]; simp [encW_len hs]) (all_oneCell_toArray (oneW x)) (by simpa using h _ rfl)
end

/-- A block of the call's own that holds a write: its number, its bytes. -/
structure Var (w : World) (b : Nat) (x : Nat × List Int) : Prop where
  at0 : w.rangeAt b 0 (encW x)
  th : w.there b 0 65
  sec : Sec x.2
theorem Var.num {w : World} {b : Nat} {x : Nat × List Int} (h : Var w b x) : w.cell? ⟨b, 0, none⟩ = some (.int .i64 (x.1 : Int)) := h.at0 0 _ rfl
theorem Var.data {w : World} {b : Nat} {x : Nat × List Int} (h : Var w b x) : w.rangeAt b 1 (by8 x.2) := fun j v hv => by
  have := h.at0 (j + 1) v (by simpa [encW] using hv)
  rw [show 1 + j = 0 + (j + 1) by omega]; exact this
theorem Var.lt {w : World} {b : Nat} {x : Nat × List Int} (h : Var w b x) : b < w.heap.size := World.block_lt_of_cell? w _ h.num
theorem range_kept {w w' : World} {b o : Nat} {cs : List Value} (h : w.rangeAt b o cs) (hk : w'.heap[b]? = w.heap[b]?) : w'.rangeAt b o cs := fun j v hv => by
  rw [World.cell?_of_block (a := ⟨b, o + j, none⟩) hk]; exact h j v hv
theorem there_kept {w w' : World} {b o n : Nat} (h : w.there b o n) (hk : w'.heap[b]? = w.heap[b]?) : w'.there b o n := fun j hj => by
  rw [World.cell?_of_block (a := ⟨b, o + j, none⟩) hk, World.frozen?_of_block (a := ⟨b, o + j, none⟩) hk]; exact h j hj
theorem Var.kept {w w' : World} {b : Nat} {x : Nat × List Int} (h : Var w b x) (hk : w'.heap[b]? = w.heap[b]?) : Var w' b x := ⟨range_kept h.at0 hk, there_kept h.th hk, h.sec⟩
/-- A new one. -/
theorem var_new {w w1 w2 : World} {t : TypeId} {x : Nat × List Int} (h1 : w.alloc (.cells (encW (0, zer)).toArray t) = w1) (h2 : w1.setCells w.heap.size 0 (encW x) = w2) (hs : Sec x.2) :
    Var w2 w.heap.size x ∧ Below w.heap.size w w2 := by
  have ht : w1.there w.heap.size 0 65 := by rw [← h1]; exact new_there _ _ _ (by simp [encW, zer])
  have hb : Below w.heap.size w w1 := by rw [← h1]; exact (Below.refl _ _).alloc (Nat.le_refl _) _
  subst h2
  exact ⟨⟨World.rangeAt_setCells_same _ _ _ _ (by rw [encW_len hs]; exact ht), World.there_setCells ht _ _ _, hs⟩, setCells_below hb 0⟩

/-- Bytes as a sector has them: the first 64, noughts behind them. -/
def padS (l : List Int) : List Int := lay (min 64 l.length) l zer
theorem padS_sec {l : List Int} (h : ∀ z ∈ l, Byt z) : Sec (padS l) := by
  unfold padS lay
  have hz : zer.length = 64 := by decide
  refine ⟨by rw [List.length_append, List.length_take, List.length_drop, hz]; omega, fun z hz => ?_⟩
  rcases List.mem_append.1 hz with h1 | h1
  · exact h z (List.mem_of_mem_take h1)
  · exact zer_sec.2 z (List.mem_of_mem_drop h1)
theorem i5 : (Try.prog.info? 5).map (·.size) = some 1 := by kernel_rfl
/-- Bytes are copied to where there is room. -/
theorem cp_step {op : Oper} {a : Act} {w : World} {K : Act → World → Prop} {Q : Exit → Act → World → Prop} (x y : Operand) (ho : op.op = .call { callee := .builtin .copy, args := #[x, y], argTypes := #[22, 22] })
    (b o n c : Nat) (ao : Option Addr) (m c2 : Nat) (l : List Int) (hx : a.eval x = .slice (some ⟨b, o, none⟩) n c) (hy : a.eval y = .slice ao m c2) (hm : l.length = m) (hr : RowOf (Value.int .u8) w ao l)
    (ht : w.there b o n) (h : ∀ u, K (a.put op.dst u) (w.setCells b o (by8 (l.take n)))) : op.wp Try.prog a w K Q := by
  have hrun : ∃ u, (Builtin.copy_ #[22, 22] op.type #[.slice (some ⟨b, o, none⟩) n c, .slice ao m c2]).run Try.prog w = .ok u (w.setCells b o (by8 (l.take n))) := by
    rcases hr with rfl | ⟨b2, o2, rfl, hc⟩
    · refine ⟨goInt 0, ?_⟩
      have : m = 0 := by simpa using hm.symm
      subst this
      have := run_copy_none (P := Try.prog) w 22 22 op.type 5 (some ⟨b, o, none⟩) ao n c 0 c2 Try.underlying22 i5 (by simp)
      simpa [World.setCells] using this
    · refine ⟨_, run_copy_cells w 22 22 op.type 5 b o n c _ m c2 (by8 (l.take n)) Try.underlying22 i5 ?_ ?_ ?_ ?_ (one8 _)⟩
      · rw [List.length_map, List.length_take, hm]; exact Nat.min_comm _ _
      · intro j v hv
        rw [Addr.add_mid]
        simp only [by8, List.getElem?_map, List.getElem?_take] at hv
        split at hv
        · cases hl : l[j]? with
          | none => rw [hl] at hv; cases hv
          | some z => rw [hl] at hv; cases hv; exact hc j z hl
        · cases hv
      · intro j hj; exact (ht j (by simp at hj; omega)).1
      · intro j hj; exact (ht j (by simp at hj; omega)).2
  obtain ⟨u, hu⟩ := hrun
  unfold Oper.wp execOp
  simp only [ho, resolve, invoke, builtin, Sem.run_bind, Sem.run_pure, Result.andThen_ok, List.map_toArray, List.map_cons, List.map_nil, hx, hy, hu]
  exact h u
theorem cp_list {ops : Array Oper} {rest : List Oper} {op : Oper} {a : Act} {w : World} {Q : Exit → Act → World → Prop} (hgd : op.guard = none) (x y : Operand) (ho : op.op = .call { callee := .builtin .copy, args := #[x, y], argTypes := #[22, 22] })
    (b o n c : Nat) (ao : Option Addr) (m c2 : Nat) (l : List Int) (hx : a.eval x = .slice (some ⟨b, o, none⟩) n c) (hy : a.eval y = .slice ao m c2) (hm : l.length = m) (hr : RowOf (Value.int .u8) w ao l)
    (ht : w.there b o n) (h : ∀ u w', w.setCells b o (by8 (l.take n)) = w' → wpList Try.prog ops Q rest (a.put op.dst u) w') : wpList Try.prog ops Q (op :: rest) a w :=
  wpList_plain hgd fun _ hK => cp_step x y ho b o n c ao m c2 l hx hy hm hr ht fun u => hK _ _ (h u _ rfl)

theorem step_of {P : Program} {ops : Array Oper} {o : Oper} {a : Act} {w : World} {K : Act → World → Prop} {Q : Exit → Act → World → Prop} {E : Prop} (hg : o.guard = none) (h : Oper.wp P o a w K Q) :
    if Region.wanted o (yielded ops a.tmps) = true then Oper.wp P o a w K Q else E := by
  rw [if_pos (by simp [Region.wanted, hg])]; exact h

/-- A slice of one write. -/
theorem bs_step {op : Oper} {a : Act} {w : World} {K : Act → World → Prop} {Q : Exit → Act → World → Prop} (t e : TypeId) (hu : Try.prog.underlying t = some (.slice e)) (hz : (Try.prog.info? e).map (fun i => (i.zero, i.size)) = some (some (.agg (encW (0, zer)).toArray), 65))
    (y : Operand) (ho : op.op = .buildSlice t 1 #[(0, y)]) (x : Nat × List Int) (hs : Sec x.2) (hy : a.eval y = .agg (encW x).toArray)
    (h : K (a.put op.dst (.slice (some ⟨w.heap.size, 0, none⟩) 1 1)) (w.alloc (.cells (encW x).toArray e))) : op.wp Try.prog a w K Q := by
  cases hq : Try.prog.info? e with
  | none => simp [hq] at hz
  | some i =>
    simp [hq] at hz
    refine wp_buildSlice t e 1 _ ho (encW x).toArray i _ hu hq hz.1 (by rw [hz.2]; decide) (by rw [hz.2]; decide) ?_ h
    have := Great.fill_whole (s := 65) (by decide) [Value.agg (encW x).toArray] ((Array.range (1 * i.size)).map ((Value.agg (encW (0, zer)).toArray).cells[· % (Value.agg (encW (0, zer)).toArray).cells.size]!))
      (by intro v hv; simp at hv; subst hv; simp [Value.cells, encW_len hs]) (by simp [hz.2])
    rw [hz.2] at this ⊢
    simpa [hy, Value.cells] using this
end Go.Proofs.Ythhgnflkplpklab.Dsc
