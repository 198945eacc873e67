/- parts: bytes from which one number after the other is taken. -/
import Derived.Test.YthhgnflkplpklabRPuts
namespace Go.Proofs.Ythhgnflkplpklab.Frm
open Go.ChangeShapes Go.WideShapes Go.ChangeAt Go.RowKit

/-- In block p lies a slice of the bytes zs, which lie elsewhere, in a block below B. -/
structure PS (B : Nat) (w : World) (p : Nat) (zs : List Int) (ao : Option Addr) (cap : Nat) : Prop where
  cell : w.cell? ⟨p, 0, none⟩ = some (.slice ao zs.length cap)
  free : w.frozen? ⟨p, 0, none⟩ = false
  row : RowAt w ao zs
  apart : zs ≠ [] → ∀ a, ao = some a → a.block ≠ p ∧ a.block < B
  bytes : Byt zs
  cap1 : zs.length ≤ cap
  cap2 : cap ≤ 9223372036854775807
theorem turned_setCell (w : World) (p : Nat) (v : Value) : Turned (fun k => k = p) w (w.setCell ⟨p, 0, none⟩ v) :=
  ⟨rfl, rfl, rfl, by simp [World.setCell], fun k _ hn => Below.heap_setCell _ _ _ _ hn⟩
theorem PS.set {B : Nat} {w : World} {p : Nat} {zs : List Int} {ao : Option Addr} {cap : Nat} (h : PS B w p zs ao cap) (ys : List Int) (ao' : Option Addr) (m cap' : Nat) (hm : ys.length = m) (hrow : RowAt w ao' ys)
    (hap : ys ≠ [] → ∀ a, ao' = some a → a.block ≠ p ∧ a.block < B) (hb : Byt ys) (c1 : m ≤ cap') (c2 : cap' ≤ 9223372036854775807)   : PS B (w.setCell ⟨p, 0, none⟩ (.slice ao' m cap')) p ys ao' cap' := by
  subst hm
  refine ⟨World.cell?_setCell_same _ _ _ h.cell, by rw [World.frozen?_setCell]; exact h.free, ?_, hap, hb, c1, c2⟩
  by_cases h0 : ys = []
  · exact .inl h0
  · rcases hrow with hr | ⟨b, o, rfl, hc⟩
    · exact .inl hr
    · refine .inr ⟨b, o, rfl, fun i hi => ?_⟩
      have hne : b ≠ p := (hap h0 _ rfl).1
      rw [World.cell?_of_block (w := w) (a := ⟨b, o + i, none⟩) (Below.heap_setCell _ _ _ _ hne)]; exact hc i hi
set_option maxHeartbeats 1000000 in
theorem number35 (B p : Nat) (zs : List Int) (ao : Option Addr) (cap : Nat) (w : World) (h : PS B w p zs ao cap) (n : Nat) (h1 : 1 ≤ n) (h4 : n ≤ 4) (hn : n ≤ zs.length) :
    Calls Try.prog 42 #[.pointer (some ⟨p, 0, none⟩), .int .i64 (n : Int)] w fun e w' => e = .returned (.int .u64 (num (zs.take n))) ∧ Turned (fun k => k = p) w w' ∧ ∃ ao' cap', PS B w' p (zs.drop n) ao' cap' := by
  obtain ⟨b, o, rfl⟩ := h.row.some (by omega)
  have hc := h.cell
  have hf := h.free
  have hc1 := h.cap1
  have hc2 := h.cap2
  have H := hid h
  clear h
  obtain ⟨len, hlen⟩ : ∃ len, zs.length = len := ⟨_, rfl⟩
  rw [hlen] at hc hc1 hn
  have HL := hid hlen
  have HT : Hid (RowAt w (some ⟨b, o, none⟩) (zs.take n)) := by
    have := H.out.row.piece 0 n (by rw [hlen]; omega)
    exact hid (by simpa [pc] using this)
  have HTL : Hid ((zs.take n).length = n) := by unfold Hid; rw [List.length_take]; omega
  clear hlen
  have i1 : (0 : Int) ≤ (n : Int) := by omega
  have i2 : (n : Int) ≤ (cap : Int) := by omega
  have i3 : (n : Int) ≤ (len : Int) := by omega
  have i4 : (len : Int) ≤ (cap : Int) := by omega
  have e1 : ((cap : Int) - (n : Int)).toNat = cap - n := by omega
  go_enter Try.func42, Try.ntmps42
  go_wp2_with (go_at_call 51; refine (number_at _ n _ (zs.take n) _ HTL.out HT.out (byt_take H.out.bytes n) h4).mono ?_; rintro e w' ⟨rfl, rfl⟩)
  · go_ret
    have e0 : zs.drop n = [] := List.drop_eq_nil_of_le (by have := HL.out; omega)
    refine ⟨rfl, turned_setCell _ _ _, some ⟨b, o, none⟩, 0, ?_⟩
    exact H.out.set _ _ _ _ (by rw [List.length_drop, HL.out]) (by rw [e0]; exact .inl rfl) (fun h0 => absurd e0 h0) (byt_drop H.out.bytes n) (by omega) (by omega)
  · go_ret
    refine ⟨rfl, turned_setCell _ _ _, some ⟨b, o + n, none⟩, cap - n, ?_⟩
    refine H.out.set _ _ _ _ (by rw [List.length_drop, HL.out]) (H.out.row.tail n) (fun h0 a e => ?_) (byt_drop H.out.bytes n) (by omega) (by omega)
    cases e
    exact H.out.apart (fun e => by have := HL.out; rw [e] at this; simp at this; omega) ⟨b, o, none⟩ rfl
/-! ### Some cells of a block are written -/
theorem run_storeVar_cs (w : World) (b o : Nat) (ty : TypeId) (v : Value) (cs : List Value) (hv : v.cells = cs.toArray) (ht : w.there b o cs.length) (hi : (Try.prog.info? ty).map (·.size) = some cs.length) (h1 : ∀ c ∈ cs, c.oneCell' = true) :
    (storeVar ty ⟨b, o, none⟩ v).run Try.prog w = .ok () (w.setCells b o cs) := by
  have := run_storeCells_cells (P := Try.prog) b o cs 0 w (fun j hj => by simpa using (ht j hj).1) (fun j hj => by simpa using (ht j hj).2) h1
  cases hq : Try.prog.info? ty with
  | none => simp [hq] at hi
  | some i =>
    have hs : cs.length = i.size := by simp [hq] at hi; omega
    simp only [Nat.add_zero] at this
    simp [storeVar, sizeOf, typeInfo, hq, hv, hs, this]
theorem st_cs {ops : Array Oper} {rest : List Oper} {op : Oper} {a : Act} {w : World} {Q : Exit → Act → World → Prop} {b o : Nat} (ty : TypeId) (cs : List Value) (ht : w.there b o cs.length) (hi : (Try.prog.info? ty).map (·.size) = some cs.length) (h1 : ∀ c ∈ cs, c.oneCell' = true)
    (hgd : op.guard = none) (x y : Operand) (ho : op.op = .store ty x y) (hx : a.eval x = .pointer (some ⟨b, o, none⟩)) {v : Value} (hy : a.eval y = v) (hv : v.cells = cs.toArray)
    (h : wpList Try.prog ops Q rest (a.put op.dst undef) (w.setCells b o cs)) : wpList Try.prog ops Q (op :: rest) a w :=
  wpList_plain hgd fun K hK => by
    unfold Oper.wp execOp
    simp only [ho, hx, hy, Instr.storeAt, Instr.sureAddr, Sem.run_bind, Sem.run_pure, Result.andThen_ok, run_storeVar_cs w b o ty v cs hv ht hi h1]
    exact hK _ _ h
theorem range_part {w : World} {b o : Nat} {cs cs' ns : List Value} (hr : w.rangeAt b 0 cs) (ht : w.there b 0 cs.length) (ho : o + ns.length ≤ cs.length) (e : cs' = cs.take o ++ ns ++ cs.drop (o + ns.length)) : (w.setCells b o ns).rangeAt b 0 cs' := by
  intro j v hj
  rw [Nat.zero_add]
  subst e
  by_cases h1 : j < o
  · rw [World.cell?_setCells_out b ns o w ⟨b, j, none⟩ (fun _ _ => .inl h1)]
    rw [List.append_assoc, List.getElem?_append_left (by rw [List.length_take]; omega), List.getElem?_take, if_pos h1] at hj
    have := hr j v hj
    rwa [Nat.zero_add] at this
  · by_cases h2 : j < o + ns.length
    · have hin := World.cell?_setCells_in b ns o w (fun i hi => by have := (ht (o + i) (by omega)).1; rwa [Nat.zero_add] at this) (j - o) (by omega)
      rw [show o + (j - o) = j by omega] at hin
      rw [hin]
      rw [List.append_assoc, List.getElem?_append_right (by rw [List.length_take]; omega), List.length_take, List.getElem?_append_left (by omega), show j - min o cs.length = j - o by omega, List.getElem?_eq_getElem (by omega)] at hj
      exact hj
    · rw [World.cell?_setCells_out b ns o w ⟨b, j, none⟩ (fun _ _ => .inr (by show o + ns.length ≤ j; omega))]
      rw [List.append_assoc, List.getElem?_append_right (by rw [List.length_take]; omega), List.length_take, List.getElem?_append_right (by omega), List.getElem?_drop, show o + ns.length + (j - min o cs.length - ns.length) = j by omega] at hj
      have := hr j v hj
      rwa [Nat.zero_add] at this
theorem turned_setCells (w : World) (b o : Nat) (ns : List Value) : Turned (fun k => k = b) w (w.setCells b o ns) := by
  induction ns generalizing w o with
  | nil => exact Turned.refl _ _
  | cons v r ih =>
    have h1 := ih (w.setCell ⟨b, o, none⟩ v) (o + 1)
    exact ⟨h1.os, h1.tape, h1.output, Nat.le_trans (by simp [World.setCell]) h1.size, fun k hk hn => (h1.block k (by simpa [World.setCell] using hk) hn).trans (Below.heap_setCell _ _ _ _ hn)⟩
/-- Four numbers in a block. -/
def c4 (a b c d : Int) : List Value := [.int .i64 a, .int .i64 b, .int .i64 c, .int .i64 d]
structure QV (w : World) (b : Nat) (x0 x1 x2 x3 : Int) : Prop where
  at0 : w.rangeAt b 0 (c4 x0 x1 x2 x3)
  th : w.there b 0 4
theorem n27 : (Try.prog.info? 37).map (·.size) = some 4 := by kernel_rfl
theorem n3 : (Try.prog.info? 3).map (·.size) = some 1 := by kernel_rfl
theorem z27 : (Try.prog.info? 37).map (fun i => (i.zero, i.size)) = some (some (.agg (c4 0 0 0 0).toArray), 4) := by kernel_rfl
theorem c4_one (a b c d : Int) : ∀ u ∈ c4 a b c d, u.oneCell' = true := by intro u hu; simp [c4] at hu; rcases hu with h | h | h | h <;> subst h <;> rfl
theorem QV.lt {w : World} {b : Nat} {x0 x1 x2 x3 : Int} (h : QV w b x0 x1 x2 x3) : b < w.heap.size := World.block_lt_of_cell? w _ (h.at0 0 _ rfl)
theorem QV.kept {w w' : World} {b : Nat} {x0 x1 x2 x3 : Int} (h : QV w b x0 x1 x2 x3) (hk : w'.heap[b]? = w.heap[b]?) : QV w' b x0 x1 x2 x3 := ⟨range_kept h.at0 hk, there_kept h.th hk⟩
theorem QV.new (w : World) (x0 x1 x2 x3 : Int) (t : TypeId) : QV (w.alloc (.cells (c4 x0 x1 x2 x3).toArray t)) w.heap.size x0 x1 x2 x3 :=
  ⟨by have := range_new w (c4 x0 x1 x2 x3).toArray t; simpa using this, new_there w _ t rfl⟩
theorem QV.below {w w' : World} {b : Nat} {x0 x1 x2 x3 : Int} (h : QV w b x0 x1 x2 x3) (hb : Below w.heap.size w w') : QV w' b x0 x1 x2 x3 := h.kept (hb.block b h.lt)
section
variable {ops : Array Oper} {rest : List Oper} {op : Oper} {a : Act} {w : World} {Q : Exit → Act → World → Prop}
theorem al27 (hgd : op.guard = none) (ho : op.op = .alloc 37)
    (h : ∀ b w', w.heap.size ≤ b → QV w' b 0 0 0 0 → Below w.heap.size w w' → wpList Try.prog ops Q rest (a.put op.dst (.pointer (some ⟨b, 0, none⟩))) w') : wpList Try.prog ops Q (op :: rest) a w :=
  wpList_plain hgd fun K hK => by
    have hz := (zero_of_info z27).1 w
    unfold Oper.wp execOp
    simp [ho, Instr.alloc, hz, newVar, newRow, go_sem, Value.cells]
    exact hK _ _ (h _ _ (Nat.le_refl _) (QV.new w 0 0 0 0 37) (bel1 _ _))
theorem ld27 {b : Nat} {x0 x1 x2 x3 : Int} (hr : QV w b x0 x1 x2 x3) (hgd : op.guard = none) (y : Operand) (ho : op.op = .load 37 y) (hx : a.eval y = .pointer (some ⟨b, 0, none⟩))
    (h : wpList Try.prog ops Q rest (a.put op.dst (.agg #[.int .i64 x0, .int .i64 x1, .int .i64 x2, .int .i64 x3])) w) : wpList Try.prog ops Q (op :: rest) a w :=
  wpList_load_mid hgd 37 y ho b 0 hx (c4 x0 x1 x2 x3) _ hr.at0 Try.underlying37 rfl n27 h
theorem st27 {b : Nat} {x0 x1 x2 x3 y0 y1 y2 y3 : Int} (hr : QV w b x0 x1 x2 x3) (hgd : op.guard = none) (y z : Operand) (ho : op.op = .store 37 y z) (hx : a.eval y = .pointer (some ⟨b, 0, none⟩)) (hy : a.eval z = .agg #[.int .i64 y0, .int .i64 y1, .int .i64 y2, .int .i64 y3])
    (h : ∀ w', QV w' b y0 y1 y2 y3 → Turned (fun k => k = b) w w' → wpList Try.prog ops Q rest (a.put op.dst undef) w') : wpList Try.prog ops Q (op :: rest) a w :=
  st_cs 37 (c4 y0 y1 y2 y3) hr.th n27 (c4_one _ _ _ _) hgd y z ho hx hy rfl (h _ ⟨World.rangeAt_setCells_same _ _ _ _ hr.th, World.there_setCells hr.th _ _ _⟩ (turned_setCells _ _ _ _))
/-- One of the four is written. -/
theorem st3 {b : Nat} {x0 x1 x2 x3 y0 y1 y2 y3 v : Int} (i : Nat) (hi : i < 4) (hr : QV w b x0 x1 x2 x3) (he : c4 y0 y1 y2 y3 = (c4 x0 x1 x2 x3).take i ++ [.int .i64 v] ++ (c4 x0 x1 x2 x3).drop (i + 1)) (hgd : op.guard = none) (y z : Operand) (ho : op.op = .store 3 y z) (hx : a.eval y = .pointer (some ⟨b, i, none⟩)) (hy : a.eval z = .int .i64 v)
    (h : ∀ w', QV w' b y0 y1 y2 y3 → Turned (fun k => k = b) w w' → wpList Try.prog ops Q rest (a.put op.dst undef) w') : wpList Try.prog ops Q (op :: rest) a w :=
  st_cs 3 [.int .i64 v] (fun j hj => by have := hr.th (i + j) (by simp at hj; omega); rwa [Nat.zero_add] at this) n3 (by intro c hc; simp at hc; subst hc; rfl) hgd y z ho hx hy rfl
    (h _ ⟨range_part hr.at0 hr.th (by simp [c4]; omega) he, World.there_setCells hr.th _ _ _⟩ (turned_setCells _ _ _ _))
end
theorem results_q {fn : Func} {t : Tmp} {b : Nat} {x0 x1 x2 x3 : Int} (h : fn.results = #[.cell t 37]) (tmps : Array Value) (w : World) (ht : tmps.getD t undef = .pointer (some ⟨b, 0, none⟩))
    (hr : QV w b x0 x1 x2 x3) : (results fn tmps).run Try.prog w = .ok (.agg #[.int .i64 x0, .int .i64 x1, .int .i64 x2, .int .i64 x3]) w := by
  have hl := run_loadVar_mid (P := Try.prog) w b 0 37 (c4 x0 x1 x2 x3) _ hr.at0 Try.underlying37 rfl n27
  have ht' : tmps[t]?.getD undef = .pointer (some ⟨b, 0, none⟩) := by simpa using ht
  simp [results, h, ht', asAddr, hl, c4]
theorem Turned.then {F : Nat → Prop} {w w1 w2 : World} (h : Turned F w w1) (k : Turned F w1 w2) : Turned F w w2 :=
  ⟨k.os.trans h.os, k.tape.trans h.tape, k.output.trans h.output, Nat.le_trans h.size k.size, fun i hi hn => (k.block i (Nat.lt_of_lt_of_le hi h.size) hn).trans (h.block i hi hn)⟩
theorem PS.kept {B : Nat} {w w' : World} {p : Nat} {zs : List Int} {ao : Option Addr} {cap : Nat} (h : PS B w p zs ao cap) (hk : w'.heap[p]? = w.heap[p]?) (hr : zs ≠ [] → ∀ a, ao = some a → w'.heap[a.block]? = w.heap[a.block]?) : PS B w' p zs ao cap := by
  refine ⟨by rw [World.cell?_of_block (w := w) (a := ⟨p, 0, none⟩) hk]; exact h.cell, by rw [World.frozen?_of_block (a := ⟨p, 0, none⟩) hk]; exact h.free, ?_, h.apart, h.bytes, h.cap1, h.cap2⟩
  rcases h.row with h0 | ⟨b, o, rfl, hc⟩
  · exact .inl h0
  · refine .inr ⟨b, o, rfl, fun i hi => ?_⟩
    have h0 : zs ≠ [] := by intro e; rw [e] at hi; simp at hi
    rw [World.cell?_of_block (w := w) (a := ⟨b, o + i, none⟩) (hr h0 ⟨b, o, none⟩ rfl)]; exact hc i hi
theorem PS.lt {B : Nat} {w : World} {p : Nat} {zs : List Int} {ao : Option Addr} {cap : Nat} (h : PS B w p zs ao cap) : p < w.heap.size := World.block_lt_of_cell? w _ h.cell
theorem PS.below {B : Nat} {w w' : World} {p : Nat} {zs : List Int} {ao : Option Addr} {cap : Nat} (h : PS B w p zs ao cap) (hb : Below w.heap.size w w') : PS B w' p zs ao cap :=
  h.kept (hb.block p h.lt) (fun h0 a e => hb.block _ (h.row.lt h0 a e))
/-- Another block b, of the call's own, was written: b is neither p nor the row's. -/
theorem PS.turned {B : Nat} {w w' : World} {p b : Nat} {zs : List Int} {ao : Option Addr} {cap : Nat} (h : PS B w p zs ao cap) (ht : Turned (fun k => k = b) w w') (hp : p ≠ b) (hB : B ≤ b) : PS B w' p zs ao cap :=
  h.kept (ht.block p h.lt hp) (fun h0 a e => ht.block _ (h.row.lt h0 a e) (fun e' => by have := (h.apart h0 a e).2; omega))
end Go.Proofs.Ythhgnflkplpklab.Frm
