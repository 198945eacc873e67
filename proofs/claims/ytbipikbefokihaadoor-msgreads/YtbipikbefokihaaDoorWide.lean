/- A message as 26 cells: laid into memory, read, stored, handed back; four numbers as an array. Laws for the walk. -/
import Derived.Test.YtbipikbefokihaaDoorBk
import Derived.Deep.WholeRow
import Derived.Deep.DeepMust
namespace Go.Proofs.YtbipikbefokihaaDoor
open Go.ChangeShapes Go.WideShapes Go.ChangeAt Go.RowKit

def Ms.cells (m : Ms) : List Value := [.int .i64 m.kind, .int .u16 m.term, .int .u32 m.stan, .string m.pan, .int .i64 m.amt, .int .i64 m.n0, .int .i64 m.n1, .int .i64 m.n2, .int .i64 m.n3, .int .i64 m.j0, .int .i64 m.j1, .int .i64 m.j2, .int .i64 m.j3,
  .int .i64 m.c0, .int .i64 m.c1, .int .i64 m.c2, .int .i64 m.c3, .int .i64 m.d0, .int .i64 m.d1, .int .i64 m.d2, .int .i64 m.d3, .int .i64 m.loads, .int .i64 m.l0, .int .i64 m.l1, .int .i64 m.l2, .int .i64 m.l3]
def Ms.val (m : Ms) : Value := .agg m.cells.toArray
theorem Ms.len (m : Ms) : m.cells.length = 26 := rfl
theorem Ms.one (m : Ms) : ∀ u ∈ m.cells, u.oneCell' = true := by
  intro u hu; simp [Ms.cells] at hu
  rcases hu with h | h | h | h | h | h | h | h | h | h | h | h | h | h | h | h | h | h | h | h | h | h | h | h | h | h <;> subst h <;> rfl
theorem range_kept {w w' : World} {b o : Nat} {cs : List Value} (h : w.rangeAt b o cs) (hk : w'.heap[b]? = w.heap[b]?) : w'.rangeAt b o cs := fun j v hv => by
  rw [World.cell?_of_block (w := w) (a := ⟨b, o + j, none⟩) hk]; exact h j v hv
theorem range_new (w : World) (cs : Array Value) (t : TypeId) : (w.alloc (.cells cs t)).rangeAt w.heap.size 0 cs.toList := by
  intro j v hv
  rw [Nat.zero_add, cell_of_head (heap_alloc_new w _)]
  simpa using hv
theorem z27 : (Tryd.prog.info? 27).map (fun i => (i.zero, i.size)) = some (some Ms.zero.val, 26) := by kernel_rfl
theorem n27 : (Tryd.prog.info? 27).map (·.size) = some 26 := (zero_of_info z27).2
theorem row27 : ∃ d, Tryd.prog.underlying 27 = some d ∧ d.isRow = true := ⟨_, Tryd.underlying27, rfl⟩
theorem zero27 (w : World) : (zeroValue 27).run Tryd.prog w = .ok Ms.zero.val w := (zero_of_info z27).1 w

/-- At block b lies the record r, and it may be written. -/
structure RV (w : World) (b : Nat) (r : Ms) : Prop where
  at0 : w.rangeAt b 0 r.cells
  th : w.there b 0 26
theorem RV.lt {w : World} {b : Nat} {r : Ms} (h : RV w b r) : b < w.heap.size := World.block_lt_of_cell? w _ (h.at0 0 _ rfl)
theorem there_kept {w w' : World} {b o n : Nat} (h : w.there b o n) (hk : w'.heap[b]? = w.heap[b]?) : w'.there b o n := fun j hj => by
  rw [World.cell?_of_block (w := w) (a := ⟨b, o + j, none⟩) hk, World.frozen?_of_block (a := ⟨b, o + j, none⟩) hk]; exact h j hj
theorem RV.kept {w w' : World} {b : Nat} {r : Ms} (h : RV w b r) (hk : w'.heap[b]? = w.heap[b]?) : RV w' b r := ⟨range_kept h.at0 hk, there_kept h.th hk⟩
theorem RV.below {w w' : World} {b : Nat} {r : Ms} (h : RV w b r) (hb : Below w.heap.size w w') : RV w' b r := h.kept (hb.block b h.lt)
theorem new_there (w : World) (C : Array Value) (t : TypeId) {n : Nat} (h : C.size = n) : (w.alloc (.cells C t)).there w.heap.size 0 n := by
  intro j hj
  have hb := heap_alloc_new w (.cells C t)
  subst h
  refine ⟨?_, froz_of_head hb _⟩
  rw [cell_of_head hb]; simp [hj]
theorem RV.new (w : World) (r : Ms) (t : TypeId) : RV (w.alloc (.cells r.cells.toArray t)) w.heap.size r :=
  ⟨by have := range_new w r.cells.toArray t; simpa using this, new_there w _ t rfl⟩
theorem setCells_in {B : Nat} {w wr : World} {b : Nat} {s : List Value} (h : Below B w wr) (hb : B ≤ b) (o : Nat) : Below B w (wr.setCells b o s) := by
  induction s generalizing wr o with
  | nil => exact h
  | cons v r ih => exact ih (h.setCell hb v) (o + 1)
theorem RV.set {w : World} {b : Nat} {r0 : Ms} (h : RV w b r0) (r : Ms) : RV (w.setCells b 0 r.cells) b r :=
  ⟨World.rangeAt_setCells_same _ _ _ _ h.th, World.there_setCells h.th _ _ _⟩
section
variable {ops : Array Oper} {rest : List Oper} {op : Oper} {a : Act} {w : World} {Q : Exit → Act → World → Prop}
/-- A parameter's box. -/
theorem bx27 {r : Ms} (hgd : op.guard = none) (x : Operand) (ho : op.op = .box 27 x) (hx : a.eval x = r.val)
    (h : ∀ b w', w.heap.size ≤ b → RV w' b r → Below w.heap.size w w' → wpList Tryd.prog ops Q rest (a.put op.dst (.pointer (some ⟨b, 0, none⟩))) w') : wpList Tryd.prog ops Q (op :: rest) a w :=
  wpList_plain hgd fun K hK => by
    unfold Oper.wp execOp
    simp only [ho, hx]
    simp [Instr.box, newVar, newRow, go_sem, Ms.val, Value.cells]
    exact hK _ _ (h _ _ (Nat.le_refl _) (RV.new w r 27) (bel1 _ _))
theorem al27 (hgd : op.guard = none) (ho : op.op = .alloc 27)
    (h : ∀ b w', w.heap.size ≤ b → RV w' b Ms.zero → Below w.heap.size w w' → wpList Tryd.prog ops Q rest (a.put op.dst (.pointer (some ⟨b, 0, none⟩))) w') : wpList Tryd.prog ops Q (op :: rest) a w :=
  wpList_plain hgd fun K hK => by
    have hz := zero27 w
    unfold Oper.wp execOp
    simp [ho, Instr.alloc, hz, newVar, newRow, go_sem, Ms.val, Value.cells]
    exact hK _ _ (h _ _ (Nat.le_refl _) (RV.new w Ms.zero 27) (bel1 _ _))
theorem ld27 {b : Nat} {r : Ms} (hr : RV w b r) (hgd : op.guard = none) (y : Operand) (ho : op.op = .load 27 y) (hx : a.eval y = .pointer (some ⟨b, 0, none⟩))
    (h : wpList Tryd.prog ops Q rest (a.put op.dst r.val) w) : wpList Tryd.prog ops Q (op :: rest) a w := by
  obtain ⟨d, hu, hd⟩ := row27
  exact wpList_load_mid hgd 27 y ho b 0 hx r.cells d hr.at0 hu hd n27 h
theorem st27 {b : Nat} {r0 r : Ms} {w0 : World} (hr : RV w b r0) (hB : Below w0.heap.size w0 w) (hb : w0.heap.size ≤ b) (hgd : op.guard = none) (y z : Operand) (ho : op.op = .store 27 y z) (hx : a.eval y = .pointer (some ⟨b, 0, none⟩)) (hy : a.eval z = r.val)
    (h : ∀ w', RV w' b r → Below w0.heap.size w0 w' → wpList Tryd.prog ops Q rest (a.put op.dst undef) w') : wpList Tryd.prog ops Q (op :: rest) a w :=
  wpList_store_mid hgd 27 y z ho b 0 r.cells.toArray hx hy (by simpa [Ms.len] using hr.th) (by rw [n27]; simp [Ms.len]) (all_oneCell_toArray r.one) (by simpa using h _ (hr.set r) (setCells_in hB hb 0))
theorem bd27 (hgd : op.guard = none) (ho : op.op = .build 27 #[])
    (h : wpList Tryd.prog ops Q rest (a.put op.dst Ms.zero.val) w) : wpList Tryd.prog ops Q (op :: rest) a w :=
  wpList_plain hgd fun K hK => by
    have hz := zero27 w
    unfold Oper.wp execOp
    simp [ho, Instr.build, hz, go_sem, Ms.val, Ms.cells, Ms.zero]
    exact hK _ _ h
end
theorem results_c1 {fn : Func} {t s : Tmp} {b : Nat} {r : Ms} {v : Value} (h : fn.results = #[.cell t 27, .tmp s]) (tmps : Array Value) (w : World) (ht : tmps.getD t undef = .pointer (some ⟨b, 0, none⟩))
    (hs : tmps.getD s undef = v) (hr : RV w b r) : (results fn tmps).run Tryd.prog w = .ok (.tuple #[r.val, v]) w := by
  obtain ⟨d, hu, hd⟩ := row27
  have hl := run_loadVar_mid (P := Tryd.prog) w b 0 27 r.cells d hr.at0 hu hd n27
  have ht' : tmps[t]?.getD undef = .pointer (some ⟨b, 0, none⟩) := by simpa using ht
  have hs' : tmps[s]?.getD undef = v := by simpa using hs
  simp [results, h, ht', hs', asAddr, hl, Ms.val]
theorem results_c2 {fn : Func} {t s u : Tmp} {b : Nat} {r : Ms} {v x : Value} (h : fn.results = #[.cell t 27, .tmp s, .tmp u]) (tmps : Array Value) (w : World) (ht : tmps.getD t undef = .pointer (some ⟨b, 0, none⟩))
    (hs : tmps.getD s undef = v) (hx : tmps.getD u undef = x) (hr : RV w b r) : (results fn tmps).run Tryd.prog w = .ok (.tuple #[r.val, v, x]) w := by
  obtain ⟨d, hu, hd⟩ := row27
  have hl := run_loadVar_mid (P := Tryd.prog) w b 0 27 r.cells d hr.at0 hu hd n27
  have ht' : tmps[t]?.getD undef = .pointer (some ⟨b, 0, none⟩) := by simpa using ht
  have hs' : tmps[s]?.getD undef = v := by simpa using hs
  have hx' : tmps[u]?.getD undef = x := by simpa using hx
  simp [results, h, ht', hs', hx', asAddr, hl, Ms.val]
theorem results_c0 {fn : Func} {t : Tmp} {b : Nat} {r : Ms} (h : fn.results = #[.cell t 27]) (tmps : Array Value) (w : World) (ht : tmps.getD t undef = .pointer (some ⟨b, 0, none⟩))
    (hr : RV w b r) : (results fn tmps).run Tryd.prog w = .ok r.val w := by
  obtain ⟨d, hu, hd⟩ := row27
  have hl := run_loadVar_mid (P := Tryd.prog) w b 0 27 r.cells d hr.at0 hu hd n27
  have ht' : tmps[t]?.getD undef = .pointer (some ⟨b, 0, none⟩) := by simpa using ht
  simp [results, h, ht', asAddr, hl, Ms.val]
/-! ### Some cells of a block are written -/
theorem run_storeVar_cs (w : World) (b o : Nat) (ty : TypeId) (v : Value) (cs : List Value) (hv : v.cells = cs.toArray) (ht : w.there b o cs.length) (hi : (Tryd.prog.info? ty).map (·.size) = some cs.length) (h1 : ∀ c ∈ cs, c.oneCell' = true) :
    (storeVar ty ⟨b, o, none⟩ v).run Tryd.prog w = .ok () (w.setCells b o cs) := by
  have := run_storeCells_cells (P := Tryd.prog) b o cs 0 w (fun j hj => by simpa using (ht j hj).1) (fun j hj => by simpa using (ht j hj).2) h1
  cases hq : Tryd.prog.info? ty with
  | none => simp [hq] at hi
  | some i =>
    have hs : cs.length = i.size := by simp [hq] at hi; omega
    simp only [Nat.add_zero] at this
    simp [storeVar, sizeOf, typeInfo, hq, hv, hs, this]
theorem st_cs {ops : Array Oper} {rest : List Oper} {op : Oper} {a : Act} {w : World} {Q : Exit → Act → World → Prop} {b o : Nat} (ty : TypeId) (cs : List Value) (ht : w.there b o cs.length) (hi : (Tryd.prog.info? ty).map (·.size) = some cs.length) (h1 : ∀ c ∈ cs, c.oneCell' = true)
    (hgd : op.guard = none) (x y : Operand) (ho : op.op = .store ty x y) (hx : a.eval x = .pointer (some ⟨b, o, none⟩)) {v : Value} (hy : a.eval y = v) (hv : v.cells = cs.toArray)
    (h : wpList Tryd.prog ops Q rest (a.put op.dst undef) (w.setCells b o cs)) : wpList Tryd.prog ops Q (op :: rest) a w :=
  wpList_plain hgd fun K hK => by
    unfold Oper.wp execOp
    simp only [ho, hx, hy, Instr.storeAt, Instr.sureAddr, Sem.run_bind, Sem.run_pure, Result.andThen_ok, run_storeVar_cs w b o ty v cs hv ht hi h1]
    exact hK _ _ h
theorem range_part {w : World} {b o : Nat} {cs cs' ns : List Value} (hr : w.rangeAt b 0 cs) (ht : w.there b 0 cs.length) (ho : o + ns.length ≤ cs.length) (e : cs' = cs.take o ++ ns ++ cs.drop (o + ns.length)) : (w.setCells b o ns).rangeAt b 0 cs' := by
  intro j v hj
  rw [Nat.zero_add]
  subst e
  by_cases h1 : j < o
  · rw [World.cell?_setCells_out b ns o w ⟨b, j, none⟩ (fun _ _ => .inl h1)]
    rw [List.append_assoc, List.getElem?_append_left (by rw [List.length_take]; omega), List.getElem?_take, if_pos h1] at hj
    have := hr j v hj
    rwa [Nat.zero_add] at this
  · by_cases h2 : j < o + ns.length
    · have hin := World.cell?_setCells_in b ns o w (fun i hi => by have := (ht (o + i) (by omega)).1; rwa [Nat.zero_add] at this) (j - o) (by omega)
      rw [show o + (j - o) = j by omega] at hin
      rw [hin]
      rw [List.append_assoc, List.getElem?_append_right (by rw [List.length_take]; omega), List.length_take, List.getElem?_append_left (by omega), show j - min o cs.length = j - o by omega, List.getElem?_eq_getElem (by omega)] at hj
      exact hj
    · rw [World.cell?_setCells_out b ns o w ⟨b, j, none⟩ (fun _ _ => .inr (by show o + ns.length ≤ j; omega))]
      rw [List.append_assoc, List.getElem?_append_right (by rw [List.length_take]; omega), List.length_take, List.getElem?_append_right (by omega), List.getElem?_drop, show o + ns.length + (j - min o cs.length - ns.length) = j by omega] at hj
      have := hr j v hj
      rwa [Nat.zero_add] at this
theorem turned_setCells (w : World) (b o : Nat) (ns : List Value) : Turned (fun k => k = b) w (w.setCells b o ns) := by
  induction ns generalizing w o with
  | nil => exact Turned.refl _ _
  | cons v r ih =>
    have h1 := ih (w.setCell ⟨b, o, none⟩ v) (o + 1)
    exact ⟨h1.os, h1.tape, h1.output, Nat.le_trans (by simp [World.setCell]) h1.size, fun k hk hn => (h1.block k (by simpa [World.setCell] using hk) hn).trans (Below.heap_setCell _ _ _ _ hn)⟩
/-- Four numbers in a block. -/
def c4 (a b c d : Int) : List Value := [.int .i64 a, .int .i64 b, .int .i64 c, .int .i64 d]
structure QV (w : World) (b : Nat) (x0 x1 x2 x3 : Int) : Prop where
  at0 : w.rangeAt b 0 (c4 x0 x1 x2 x3)
  th : w.there b 0 4
theorem n25 : (Tryd.prog.info? 25).map (·.size) = some 4 := by kernel_rfl
theorem n3 : (Tryd.prog.info? 3).map (·.size) = some 1 := by kernel_rfl
theorem z25 : (Tryd.prog.info? 25).map (fun i => (i.zero, i.size)) = some (some (.agg (c4 0 0 0 0).toArray), 4) := by kernel_rfl
theorem c4_one (a b c d : Int) : ∀ u ∈ c4 a b c d, u.oneCell' = true := by intro u hu; simp [c4] at hu; rcases hu with h | h | h | h <;> subst h <;> rfl
theorem QV.lt {w : World} {b : Nat} {x0 x1 x2 x3 : Int} (h : QV w b x0 x1 x2 x3) : b < w.heap.size := World.block_lt_of_cell? w _ (h.at0 0 _ rfl)
theorem QV.kept {w w' : World} {b : Nat} {x0 x1 x2 x3 : Int} (h : QV w b x0 x1 x2 x3) (hk : w'.heap[b]? = w.heap[b]?) : QV w' b x0 x1 x2 x3 := ⟨range_kept h.at0 hk, there_kept h.th hk⟩
theorem QV.new (w : World) (x0 x1 x2 x3 : Int) (t : TypeId) : QV (w.alloc (.cells (c4 x0 x1 x2 x3).toArray t)) w.heap.size x0 x1 x2 x3 :=
  ⟨by have := range_new w (c4 x0 x1 x2 x3).toArray t; simpa using this, new_there w _ t rfl⟩
theorem QV.below {w w' : World} {b : Nat} {x0 x1 x2 x3 : Int} (h : QV w b x0 x1 x2 x3) (hb : Below w.heap.size w w') : QV w' b x0 x1 x2 x3 := h.kept (hb.block b h.lt)
section
variable {ops : Array Oper} {rest : List Oper} {op : Oper} {a : Act} {w : World} {Q : Exit → Act → World → Prop}
theorem al25 (hgd : op.guard = none) (ho : op.op = .alloc 25)
    (h : ∀ b w', w.heap.size ≤ b → QV w' b 0 0 0 0 → Below w.heap.size w w' → wpList Tryd.prog ops Q rest (a.put op.dst (.pointer (some ⟨b, 0, none⟩))) w') : wpList Tryd.prog ops Q (op :: rest) a w :=
  wpList_plain hgd fun K hK => by
    have hz := (zero_of_info z25).1 w
    unfold Oper.wp execOp
    simp [ho, Instr.alloc, hz, newVar, newRow, go_sem, Value.cells]
    exact hK _ _ (h _ _ (Nat.le_refl _) (QV.new w 0 0 0 0 25) (bel1 _ _))
theorem ld25 {b : Nat} {x0 x1 x2 x3 : Int} (hr : QV w b x0 x1 x2 x3) (hgd : op.guard = none) (y : Operand) (ho : op.op = .load 25 y) (hx : a.eval y = .pointer (some ⟨b, 0, none⟩))
    (h : wpList Tryd.prog ops Q rest (a.put op.dst (.agg #[.int .i64 x0, .int .i64 x1, .int .i64 x2, .int .i64 x3])) w) : wpList Tryd.prog ops Q (op :: rest) a w :=
  wpList_load_mid hgd 25 y ho b 0 hx (c4 x0 x1 x2 x3) _ hr.at0 Tryd.underlying25 rfl n25 h
theorem st25 {b : Nat} {x0 x1 x2 x3 y0 y1 y2 y3 : Int} (hr : QV w b x0 x1 x2 x3) (hgd : op.guard = none) (y z : Operand) (ho : op.op = .store 25 y z) (hx : a.eval y = .pointer (some ⟨b, 0, none⟩)) (hy : a.eval z = .agg #[.int .i64 y0, .int .i64 y1, .int .i64 y2, .int .i64 y3])
    (h : ∀ w', QV w' b y0 y1 y2 y3 → Turned (fun k => k = b) w w' → wpList Tryd.prog ops Q rest (a.put op.dst undef) w') : wpList Tryd.prog ops Q (op :: rest) a w :=
  st_cs 25 (c4 y0 y1 y2 y3) hr.th n25 (c4_one _ _ _ _) hgd y z ho hx hy rfl (h _ ⟨World.rangeAt_setCells_same _ _ _ _ hr.th, World.there_setCells hr.th _ _ _⟩ (turned_setCells _ _ _ _))
/-- One of the four is written. -/
theorem st3 {b : Nat} {x0 x1 x2 x3 y0 y1 y2 y3 v : Int} (i : Nat) (hi : i < 4) (hr : QV w b x0 x1 x2 x3) (he : c4 y0 y1 y2 y3 = (c4 x0 x1 x2 x3).take i ++ [.int .i64 v] ++ (c4 x0 x1 x2 x3).drop (i + 1)) (hgd : op.guard = none) (y z : Operand) (ho : op.op = .store 3 y z) (hx : a.eval y = .pointer (some ⟨b, i, none⟩)) (hy : a.eval z = .int .i64 v)
    (h : ∀ w', QV w' b y0 y1 y2 y3 → Turned (fun k => k = b) w w' → wpList Tryd.prog ops Q rest (a.put op.dst undef) w') : wpList Tryd.prog ops Q (op :: rest) a w :=
  st_cs 3 [.int .i64 v] (fun j hj => by have := hr.th (i + j) (by simp at hj; omega); rwa [Nat.zero_add] at this) n3 (by intro c hc; simp at hc; subst hc; rfl) hgd y z ho hx hy rfl
    (h _ ⟨range_part hr.at0 hr.th (by simp [c4]; omega) he, World.there_setCells hr.th _ _ _⟩ (turned_setCells _ _ _ _))
end
theorem results_q {fn : Func} {t : Tmp} {b : Nat} {x0 x1 x2 x3 : Int} (h : fn.results = #[.cell t 25]) (tmps : Array Value) (w : World) (ht : tmps.getD t undef = .pointer (some ⟨b, 0, none⟩))
    (hr : QV w b x0 x1 x2 x3) : (results fn tmps).run Tryd.prog w = .ok (.agg #[.int .i64 x0, .int .i64 x1, .int .i64 x2, .int .i64 x3]) w := by
  have hl := run_loadVar_mid (P := Tryd.prog) w b 0 25 (c4 x0 x1 x2 x3) _ hr.at0 Tryd.underlying25 rfl n25
  have ht' : tmps[t]?.getD undef = .pointer (some ⟨b, 0, none⟩) := by simpa using ht
  simp [results, h, ht', asAddr, hl, c4]
theorem Turned.then {F : Nat → Prop} {w w1 w2 : World} (h : Turned F w w1) (k : Turned F w1 w2) : Turned F w w2 :=
  ⟨k.os.trans h.os, k.tape.trans h.tape, k.output.trans h.output, Nat.le_trans h.size k.size, fun i hi hn => (k.block i (Nat.lt_of_lt_of_le hi h.size) hn).trans (h.block i hi hn)⟩
theorem RV.part {w : World} {b o : Nat} {r r' : Ms} {cs : List Value} (h : RV w b r) (hl : o + cs.length ≤ 26) (he : r'.cells = r.cells.take o ++ cs ++ r.cells.drop (o + cs.length)) : RV (w.setCells b o cs) b r' :=
  ⟨range_part h.at0 h.th hl he, World.there_setCells h.th _ _ _⟩
theorem n2 : (Tryd.prog.info? 2).map (·.size) = some 1 := by kernel_rfl
theorem n9 : (Tryd.prog.info? 9).map (·.size) = some 1 := by kernel_rfl
theorem one1 {v : Value} (h : v.oneCell' = true) : ∀ c ∈ [v], c.oneCell' = true := by intro c hc; simp at hc; subst hc; exact h
theorem rv_store {ops : Array Oper} {rest : List Oper} {op : Oper} {a : Act} {w0 w : World} {Q : Exit → Act → World → Prop} {b : Nat} {r : Ms} (h : RV w b r) (hB : Below w0.heap.size w0 w) (hb : w0.heap.size ≤ b) (ty : TypeId) (o : Nat) (cs : List Value) (r' : Ms)
    (hl : o + cs.length ≤ 26) (he : r'.cells = r.cells.take o ++ cs ++ r.cells.drop (o + cs.length)) (hi : (Tryd.prog.info? ty).map (·.size) = some cs.length) (h1 : ∀ c ∈ cs, c.oneCell' = true)
    (hgd : op.guard = none) (x y : Operand) (ho : op.op = .store ty x y) (hx : a.eval x = .pointer (some ⟨b, o, none⟩)) {v : Value} (hy : a.eval y = v) (hv : v.cells = cs.toArray)
    (hh : ∀ w', RV w' b r' → Below w0.heap.size w0 w' → wpList Tryd.prog ops Q rest (a.put op.dst undef) w') : wpList Tryd.prog ops Q (op :: rest) a w :=
  st_cs ty cs (fun j hj => by have := h.th (o + j) (by omega); rwa [Nat.zero_add] at this) hi h1 hgd x y ho hx hy hv (hh _ (h.part hl he) (setCells_in hB hb o))
theorem RV.cell {w : World} {b : Nat} {r : Ms} (h : RV w b r) (i : Nat) {v : Value} (hv : r.cells[i]? = some v) : w.cell? ⟨b, i, none⟩ = some v := by
  have := h.at0 i v hv; rwa [Nat.zero_add] at this
theorem RV.free {w : World} {b : Nat} {r : Ms} (h : RV w b r) (i : Nat) (hi : i < 26) : w.frozen? ⟨b, i, none⟩ = false := by
  have := (h.th i hi).2; rwa [Nat.zero_add] at this
theorem RV.four {w : World} {b : Nat} {r : Ms} (h : RV w b r) (o : Nat) {x0 x1 x2 x3 : Int} (he : (r.cells.drop o).take 4 = c4 x0 x1 x2 x3) : w.rangeAt b o (c4 x0 x1 x2 x3) := by
  intro j v hj
  have hl : j < 4 := by
    by_cases h : j < 4
    · exact h
    · rw [List.getElem?_eq_none (by simp [c4]; omega)] at hj; cases hj
  rw [← he, List.getElem?_take, if_pos hl, List.getElem?_drop] at hj
  have := h.at0 (o + j) v hj
  rwa [Nat.zero_add] at this
section
variable {ops : Array Oper} {rest : List Oper} {op : Oper} {a : Act} {w : World} {Q : Exit → Act → World → Prop}
/-- Four numbers of a message are read. -/
theorem ld4 {b : Nat} {r : Ms} (hr : RV w b r) (o : Nat) {x0 x1 x2 x3 : Int} (he : (r.cells.drop o).take 4 = c4 x0 x1 x2 x3) (hgd : op.guard = none) (y : Operand) (ho : op.op = .load 25 y) (hx : a.eval y = .pointer (some ⟨b, o, none⟩))
    (h : wpList Tryd.prog ops Q rest (a.put op.dst (.agg #[.int .i64 x0, .int .i64 x1, .int .i64 x2, .int .i64 x3])) w) : wpList Tryd.prog ops Q (op :: rest) a w :=
  wpList_load_mid hgd 25 y ho b o hx (c4 x0 x1 x2 x3) _ (hr.four o he) Tryd.underlying25 rfl n25 h
/-- An array's box. -/
theorem bx25 {x0 x1 x2 x3 : Int} (hgd : op.guard = none) (x : Operand) (ho : op.op = .box 25 x) (hx : a.eval x = .agg #[.int .i64 x0, .int .i64 x1, .int .i64 x2, .int .i64 x3])
    (h : ∀ b w', w.heap.size ≤ b → QV w' b x0 x1 x2 x3 → Below w.heap.size w w' → wpList Tryd.prog ops Q rest (a.put op.dst (.pointer (some ⟨b, 0, none⟩))) w') : wpList Tryd.prog ops Q (op :: rest) a w :=
  wpList_plain hgd fun K hK => by
    unfold Oper.wp execOp
    simp only [ho, hx]
    simp [Instr.box, newVar, newRow, go_sem, Value.cells]
    exact hK _ _ (h _ _ (Nat.le_refl _) (QV.new w x0 x1 x2 x3 25) (bel1 _ _))
end
theorem I.given_new (w : World) (l : List Int) (n : Nat) (t : TypeId) (hn : l.length = n) (hm : n ≤ 1000000) (hb : Wid l) : I.Given (w.alloc (.cells (I.cellsOf l) t)) (some ⟨w.heap.size, 0, none⟩) n n l :=
  ⟨hn, hb, .inr ⟨_, _, rfl, fun i hi => by
    rw [Nat.zero_add, cell_of_head (heap_alloc_new w _)]
    simp [I.cellsOf, hi]⟩, Nat.le_refl _, by omega⟩
theorem I.Given.cell {w : World} {ao : Option Addr} {len cap : Nat} {zs : List Int} (h : I.Given w ao len cap zs) (i : Nat) (hi : i < len) : ∃ b o, ao = some ⟨b, o, none⟩ ∧ w.cell? ⟨b, o + i, none⟩ = some (.int .i64 (zs.getD i 0)) := by
  rcases h.row with h0 | ⟨b, o, e, hc⟩
  · subst h0; have := h.leq; simp at this; omega
  · exact ⟨b, o, e, hc i (by rw [h.leq]; exact hi)⟩
theorem I.one_row (w : World) (x : Int) : I.RowAt (w.alloc (.cells #[.int .i64 x] 2)) (some ⟨w.heap.size, 0, none⟩) [x] := (I.Mk.new w [x] 1 rfl (by omega)).1.at
theorem I.len1 (x : Int) : [x].length = 1 := rfl
end Go.Proofs.YtbipikbefokihaaDoor
