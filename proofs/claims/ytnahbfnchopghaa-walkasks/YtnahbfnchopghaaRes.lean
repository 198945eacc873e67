/- A result as five cells, a walk as eight: laid into memory, read, stored, handed back. Laws for the walk. -/
import Derived.Test.YtnahbfnchopghaaStp
import Derived.Test.YtnahbfnchopghaaLay
namespace Go.Proofs.Ytnahbfnchopghaa
open Go.ChangeShapes Go.WideShapes Go.ChangeAt Go.RowKit

def Rs.zero : Rs := ⟨0, 0, false, ⟨#[]⟩, 0⟩
def Rs.cells (m : Rs) : List Value := [.int .i64 m.pos, .int .i64 m.steps, .bool m.asked, .string m.pan, .int .i64 m.amt]
def Rs.val (m : Rs) : Value := .agg m.cells.toArray
theorem Rs.len (m : Rs) : m.cells.length = 5 := rfl
theorem Rs.one (m : Rs) : ∀ u ∈ m.cells, u.oneCell' = true := by
  intro u hu; simp [Rs.cells] at hu
  rcases hu with h | h | h | h | h <;> subst h <;> rfl
theorem z30 : (Try.prog.info? 30).map (fun i => (i.zero, i.size)) = some (some Rs.zero.val, 5) := by kernel_rfl
theorem n30 : (Try.prog.info? 30).map (·.size) = some 5 := (zero_of_info z30).2
theorem row30 : ∃ d, Try.prog.underlying 30 = some d ∧ d.isRow = true := ⟨_, Try.underlying30, rfl⟩
theorem zero30 (w : World) : (zeroValue 30).run Try.prog w = .ok Rs.zero.val w := (zero_of_info z30).1 w
/-- At block b lies the result r, and it may be written. -/
structure RR (w : World) (b : Nat) (r : Rs) : Prop where
  at0 : w.rangeAt b 0 r.cells
  th : w.there b 0 5
theorem RR.lt {w : World} {b : Nat} {r : Rs} (h : RR w b r) : b < w.heap.size := World.block_lt_of_cell? w _ (h.at0 0 _ rfl)
theorem RR.kept {w w' : World} {b : Nat} {r : Rs} (h : RR w b r) (hk : w'.heap[b]? = w.heap[b]?) : RR w' b r := ⟨range_kept h.at0 hk, there_kept h.th hk⟩
theorem RR.below {w w' : World} {b : Nat} {r : Rs} (h : RR w b r) (hb : Below w.heap.size w w') : RR w' b r := h.kept (hb.block b h.lt)
theorem RR.new (w : World) (r : Rs) (t : TypeId) : RR (w.alloc (.cells r.cells.toArray t)) w.heap.size r :=
  ⟨by have := range_new w r.cells.toArray t; simpa using this, new_there w _ t rfl⟩
theorem RR.set {w : World} {b : Nat} {r0 : Rs} (h : RR w b r0) (r : Rs) : RR (w.setCells b 0 r.cells) b r :=
  ⟨World.rangeAt_setCells_same _ _ _ _ h.th, World.there_setCells h.th _ _ _⟩
section
variable {ops : Array Oper} {rest : List Oper} {op : Oper} {a : Act} {w : World} {Q : Exit → Act → World → Prop}
theorem al30 (hgd : op.guard = none) (ho : op.op = .alloc 30)
    (h : ∀ b w', w.heap.size ≤ b → RR w' b Rs.zero → Below w.heap.size w w' → wpList Try.prog ops Q rest (a.put op.dst (.pointer (some ⟨b, 0, none⟩))) w') : wpList Try.prog ops Q (op :: rest) a w :=
  wpList_plain hgd fun K hK => by
    have hz := zero30 w
    unfold Oper.wp execOp
    simp [ho, Instr.alloc, hz, newVar, newRow, go_sem, Rs.val, Value.cells]
    exact hK _ _ (h _ _ (Nat.le_refl _) (RR.new w Rs.zero 30) (bel1 _ _))
theorem ld30 {b : Nat} {r : Rs} (hr : RR w b r) (hgd : op.guard = none) (y : Operand) (ho : op.op = .load 30 y) (hx : a.eval y = .pointer (some ⟨b, 0, none⟩))
    (h : wpList Try.prog ops Q rest (a.put op.dst r.val) w) : wpList Try.prog ops Q (op :: rest) a w := by
  obtain ⟨d, hu, hd⟩ := row30
  exact wpList_load_mid hgd 30 y ho b 0 hx r.cells d hr.at0 hu hd n30 h
theorem st30 {b : Nat} {r0 r : Rs} {w0 : World} (hr : RR w b r0) (hB : Below w0.heap.size w0 w) (hb : w0.heap.size ≤ b) (hgd : op.guard = none) (y z : Operand) (ho : op.op = .store 30 y z) (hx : a.eval y = .pointer (some ⟨b, 0, none⟩)) (hy : a.eval z = r.val)
    (h : ∀ w', RR w' b r → Below w0.heap.size w0 w' → wpList Try.prog ops Q rest (a.put op.dst undef) w') : wpList Try.prog ops Q (op :: rest) a w :=
  wpList_store_mid hgd 30 y z ho b 0 r.cells.toArray hx hy (by simpa [Rs.len] using hr.th) (by rw [n30]; simp [Rs.len]) (all_oneCell_toArray r.one) (by simpa using h _ (hr.set r) (setCells_in hB hb 0))
theorem bd30 (hgd : op.guard = none) (ho : op.op = .build 30 #[])
    (h : wpList Try.prog ops Q rest (a.put op.dst Rs.zero.val) w) : wpList Try.prog ops Q (op :: rest) a w :=
  wpList_plain hgd fun K hK => by
    have hz := zero30 w
    unfold Oper.wp execOp
    simp [ho, Instr.build, hz, go_sem, Rs.val, Rs.cells, Rs.zero]
    exact hK _ _ h
/-- A result that has its place alone. -/
theorem bdA30 {x : Int} (hgd : op.guard = none) (x0 : Operand) (ho : op.op = .build 30 #[(0, x0)]) (h0 : a.eval x0 = .int .i64 x)
    (h : wpList Try.prog ops Q rest (a.put op.dst (Rs.val ⟨x, 0, false, ⟨#[]⟩, 0⟩)) w) : wpList Try.prog ops Q (op :: rest) a w :=
  wpList_plain hgd fun K hK => by
    have hz := zero30 w
    unfold Oper.wp execOp
    simp only [ho, List.map_toArray, List.map_cons, List.map_nil, h0]
    simp [Instr.build, hz, go_sem, Rs.val, Rs.cells, Rs.zero]
    exact hK _ _ h
/-- A result made of its parts. -/
theorem bdP30 {r : Rs} (hgd : op.guard = none) (x0 x1 x2 x3 x4 : Operand) (ho : op.op = .build 30 #[(0, x0), (1, x1), (2, x2), (3, x3), (4, x4)]) (h0 : a.eval x0 = .int .i64 r.pos) (h1 : a.eval x1 = .int .i64 r.steps) (h2 : a.eval x2 = .bool r.asked) (h3 : a.eval x3 = .string r.pan) (h4 : a.eval x4 = .int .i64 r.amt)
    (h : wpList Try.prog ops Q rest (a.put op.dst r.val) w) : wpList Try.prog ops Q (op :: rest) a w :=
  wpList_plain hgd fun K hK => by
    have hz := zero30 w
    unfold Oper.wp execOp
    simp only [ho, List.map_toArray, List.map_cons, List.map_nil, h0, h1, h2, h3, h4]
    simp [Instr.build, hz, go_sem, Rs.val, Rs.cells, Rs.zero]
    exact hK _ _ h
end
theorem res_c0 {fn : Func} {t : Tmp} {b : Nat} {r : Rs} (h : fn.results = #[.cell t 30]) (tmps : Array Value) (w : World) (ht : tmps.getD t undef = .pointer (some ⟨b, 0, none⟩))
    (hr : RR w b r) : (results fn tmps).run Try.prog w = .ok r.val w := by
  obtain ⟨d, hu, hd⟩ := row30
  have hl := run_loadVar_mid (P := Try.prog) w b 0 30 r.cells d hr.at0 hu hd n30
  have ht' : tmps[t]?.getD undef = .pointer (some ⟨b, 0, none⟩) := by simpa using ht
  simp [results, h, ht', asAddr, hl, Rs.val]
theorem RR.cell {w : World} {b : Nat} {r : Rs} (h : RR w b r) (i : Nat) {v : Value} (hv : r.cells[i]? = some v) : w.cell? ⟨b, i, none⟩ = some v := by
  have := h.at0 i v hv; rwa [Nat.zero_add] at this
theorem RR.free {w : World} {b : Nat} {r : Rs} (h : RR w b r) (i : Nat) (hi : i < 5) : w.frozen? ⟨b, i, none⟩ = false := by
  have := (h.th i hi).2; rwa [Nat.zero_add] at this
theorem ldw30 {ops : Array Oper} {rest : List Oper} {op : Oper} {a : Act} {w : World} {Q : Exit → Act → World → Prop} {b : Nat} {r : Rs} (hr : RR w b r) (y : Operand) (ho : op.op = .load 30 y) (hw : Region.wanted op (yielded ops a.tmps) = true) (hx : a.eval y = .pointer (some ⟨b, 0, none⟩))
    (h : wpList Try.prog ops Q rest (a.put op.dst r.val) w) : wpList Try.prog ops Q (op :: rest) a w := by
  obtain ⟨d, hu, hd⟩ := row30
  exact wpList_want hw fun K hK => wp_load_mid 30 y ho b 0 hx r.cells d hr.at0 hu hd n30 (hK _ _ h)
/-- One cell of a range is written anew. -/
theorem range_put {w : World} {b n i : Nat} {cs : List Value} {v : Value} (h : w.rangeAt b 0 cs) (ht : w.there b 0 n) (hi : i < n) : (w.setCell ⟨b, i, none⟩ v).rangeAt b 0 (cs.set i v) ∧ (w.setCell ⟨b, i, none⟩ v).there b 0 n := by
  have ha := (ht i hi).1
  rw [Nat.zero_add] at ha
  obtain ⟨u, hu⟩ := Option.isSome_iff_exists.1 ha
  refine ⟨fun j x hx => ?_, fun j hj => ?_⟩
  · by_cases e : j = i
    · subst e
      have : x = v := by
        have h1 := List.getElem?_eq_some_iff.1 hx
        obtain ⟨h2, h3⟩ := h1
        simpa using h3.symm
      rw [Nat.zero_add, this]
      exact World.cell?_setCell_same _ _ _ hu
    · rw [List.getElem?_set_ne (fun e2 => e e2.symm)] at hx
      rw [World.cell?_setCell_other _ _ _ _ (by intro e2; apply e; simp at e2)]
      exact h j x hx
  · have h1 := ht j hj
    refine ⟨?_, by rw [World.frozen?_setCell]; exact h1.2⟩
    by_cases e : j = i
    · subst e; rw [Nat.zero_add, World.cell?_setCell_same _ _ _ hu]; rfl
    · rw [World.cell?_setCell_other _ _ _ _ (by intro e2; apply e; simp at e2)]; exact h1.1
theorem RR.put {w : World} {b i : Nat} {r r' : Rs} {v : Value} (h : RR w b r) (hi : i < 5) (e : r.cells.set i v = r'.cells) : RR (w.setCell ⟨b, i, none⟩ v) b r' :=
  ⟨e ▸ (range_put h.at0 h.th hi).1, (range_put (cs := r.cells) h.at0 h.th hi).2⟩
/-- A walk's cells: the inputs that are left lie in a slice. -/
def wkc (k : Wk) (ao : Option Addr) (len cap : Nat) : List Value := [.int .i64 k.r.pos, .int .i64 k.r.steps, .bool k.r.asked, .string k.r.pan, .int .i64 k.r.amt, .string k.pan, .int .i64 k.amt, .slice ao len cap]
theorem wkc_len (k : Wk) (ao : Option Addr) (len cap : Nat) : (wkc k ao len cap).length = 8 := rfl
theorem wkc_one (k : Wk) (ao : Option Addr) (len cap : Nat) : ∀ u ∈ wkc k ao len cap, u.oneCell' = true := by
  intro u hu; simp [wkc] at hu
  rcases hu with h | h | h | h | h | h | h | h <;> subst h <;> rfl
def wkz : List Value := [.int .i64 0, .int .i64 0, .bool false, .string ⟨#[]⟩, .int .i64 0, .string ⟨#[]⟩, .int .i64 0, .slice none 0 0]
theorem z44 : (Try.prog.info? 44).map (fun i => (i.zero, i.size)) = some (some (.agg wkz.toArray), 8) := by kernel_rfl
theorem n44 : (Try.prog.info? 44).map (·.size) = some 8 := (zero_of_info z44).2
theorem zero44 (w : World) : (zeroValue 44).run Try.prog w = .ok (.agg wkz.toArray) w := (zero_of_info z44).1 w
/-- At block b lies a walk, and it may be written. -/
structure WV (w : World) (b : Nat) (k : Wk) (ao : Option Addr) (len cap : Nat) : Prop where
  at0 : w.rangeAt b 0 (wkc k ao len cap)
  th : w.there b 0 8
theorem WV.lt {w : World} {b : Nat} {k : Wk} {ao : Option Addr} {len cap : Nat} (h : WV w b k ao len cap) : b < w.heap.size := World.block_lt_of_cell? w _ (h.at0 0 _ rfl)
theorem WV.kept {w w' : World} {b : Nat} {k : Wk} {ao : Option Addr} {len cap : Nat} (h : WV w b k ao len cap) (hk : w'.heap[b]? = w.heap[b]?) : WV w' b k ao len cap := ⟨range_kept h.at0 hk, there_kept h.th hk⟩
theorem WV.below {w w' : World} {b : Nat} {k : Wk} {ao : Option Addr} {len cap : Nat} (h : WV w b k ao len cap) (hb : Below w.heap.size w w') : WV w' b k ao len cap := h.kept (hb.block b h.lt)
theorem WV.cell {w : World} {b : Nat} {k : Wk} {ao : Option Addr} {len cap : Nat} (h : WV w b k ao len cap) (i : Nat) {v : Value} (hv : (wkc k ao len cap)[i]? = some v) : w.cell? ⟨b, i, none⟩ = some v := by
  have := h.at0 i v hv; rwa [Nat.zero_add] at this
theorem WV.free {w : World} {b : Nat} {k : Wk} {ao : Option Addr} {len cap : Nat} (h : WV w b k ao len cap) (i : Nat) (hi : i < 8) : w.frozen? ⟨b, i, none⟩ = false := by
  have := (h.th i hi).2; rwa [Nat.zero_add] at this
theorem WV.put {w : World} {b i : Nat} {k k' : Wk} {ao ao' : Option Addr} {len cap len' cap' : Nat} {v : Value} (h : WV w b k ao len cap) (hi : i < 8) (e : (wkc k ao len cap).set i v = wkc k' ao' len' cap') : WV (w.setCell ⟨b, i, none⟩ v) b k' ao' len' cap' :=
  ⟨e ▸ (range_put h.at0 h.th hi).1, (range_put (cs := wkc k ao len cap) h.at0 h.th hi).2⟩
section
variable {ops : Array Oper} {rest : List Oper} {op : Oper} {a : Act} {w : World} {Q : Exit → Act → World → Prop}
theorem al44 (hgd : op.guard = none) (ho : op.op = .alloc 44)
    (h : ∀ b w', w.heap.size ≤ b → WV w' b (Wk.new 0 []) none 0 0 → Below w.heap.size w w' → wpList Try.prog ops Q rest (a.put op.dst (.pointer (some ⟨b, 0, none⟩))) w') : wpList Try.prog ops Q (op :: rest) a w :=
  wpList_plain hgd fun K hK => by
    have hz := zero44 w
    unfold Oper.wp execOp
    simp [ho, Instr.alloc, hz, newVar, newRow, go_sem, Value.cells]
    exact hK _ _ (h _ _ (Nat.le_refl _) ⟨by have := range_new w wkz.toArray 44; rw [List.toList_toArray] at this; exact this, new_there w _ 44 rfl⟩ (bel1 _ _))
theorem bd44 {r : Rs} {ao : Option Addr} {len cap : Nat} (hgd : op.guard = none) (x0 x3 : Operand) (ho : op.op = .build 44 #[(0, x0), (3, x3)]) (h0 : a.eval x0 = r.val) (h3 : a.eval x3 = .slice ao len cap)
    (h : wpList Try.prog ops Q rest (a.put op.dst (.agg (wkc ⟨r, ⟨#[]⟩, 0, []⟩ ao len cap).toArray)) w) : wpList Try.prog ops Q (op :: rest) a w :=
  wpList_plain hgd fun K hK => by
    have hz := zero44 w
    unfold Oper.wp execOp
    simp only [ho, List.map_toArray, List.map_cons, List.map_nil, h0, h3]
    simp [Instr.build, hz, go_sem, Rs.val, Rs.cells, wkz]
    exact hK _ _ h
theorem st44 {b : Nat} {k0 k : Wk} {ao0 ao : Option Addr} {l0 c0 len cap : Nat} {w0 : World} (hr : WV w b k0 ao0 l0 c0) (hB : Below w0.heap.size w0 w) (hb : w0.heap.size ≤ b) (hgd : op.guard = none) (y z : Operand) (ho : op.op = .store 44 y z) (hx : a.eval y = .pointer (some ⟨b, 0, none⟩)) (hy : a.eval z = .agg (wkc k ao len cap).toArray)
    (h : ∀ w', WV w' b k ao len cap → Below w0.heap.size w0 w' → wpList Try.prog ops Q rest (a.put op.dst undef) w') : wpList Try.prog ops Q (op :: rest) a w :=
  wpList_store_mid hgd 44 y z ho b 0 (wkc k ao len cap).toArray hx hy (by simpa [wkc_len] using hr.th) (by rw [n44]; simp [wkc_len]) (all_oneCell_toArray (wkc_one k ao len cap)) (by simpa using h _ ⟨World.rangeAt_setCells_same _ _ _ _ hr.th, World.there_setCells hr.th _ _ _⟩ (setCells_in hB hb 0))
/-- The result within a walk is read. -/
theorem ldR {b : Nat} {k : Wk} {ao : Option Addr} {len cap : Nat} (hr : WV w b k ao len cap) (hgd : op.guard = none) (y : Operand) (ho : op.op = .load 30 y) (hx : a.eval y = .pointer (some ⟨b, 0, none⟩))
    (h : wpList Try.prog ops Q rest (a.put op.dst k.r.val) w) : wpList Try.prog ops Q (op :: rest) a w := by
  obtain ⟨d, hu, hd⟩ := row30
  exact wpList_load_mid hgd 30 y ho b 0 hx k.r.cells d (fun j v hv => hr.at0 j v (by
    have hj : j < 5 := by have := (List.getElem?_eq_some_iff.1 hv).1; simpa [Rs.cells] using this
    rcases (show j = 0 ∨ j = 1 ∨ j = 2 ∨ j = 3 ∨ j = 4 by omega) with rfl | rfl | rfl | rfl | rfl <;> exact hv)) hu hd n30 h
end
end Go.Proofs.Ytnahbfnchopghaa
