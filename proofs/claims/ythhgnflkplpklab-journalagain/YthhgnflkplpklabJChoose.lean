/- The head is settled; another mark is chosen; what stands ahead of a mark is read. -/
import Derived.Test.YthhgnflkplpklabJDisk
namespace Go.Proofs.Ythhgnflkplpklab
set_option maxRecDepth 20000
open Go.ChangeShapes Go.WideShapes Go.ChangeAt Go.RowKit
open Dsc (Dk Sec Dat Feet tc hid sq bel1 writeD writeZ syncD errZ stepD reachZ readB)
open Frm (Rc putL rightB bytesL num Given Mk Row RowAt RV al29 st29 ld29)
section
variable {w0 w : World} {p q : Nat} {d : Dk} {h : Hd} {n : Nat}
/-- A box of a head. -/
def Box (w : World) (b : Nat) (h : Hd) : Prop := w.heap[b]? = some (hdO h)
theorem Box.kin {w w' : World} {b : Nat} (k : Box w b h) (e : Kin w w') : Box w' b h := (e.block b _ 58 (0, 0) k (by decide) (by decide) (by decide) (by decide)).trans k
theorem Box.cells {b : Nat} (k : Box w b h) : w.cell? ⟨b, 0, none⟩ = some (.int .i64 (h.c : Int)) ∧ w.cell? ⟨b, 1, none⟩ = some (.int .i64 (h.a0 : Int)) ∧ w.cell? ⟨b, 2, none⟩ = some (.int .i64 (h.b0 : Int)) ∧ w.cell? ⟨b, 3, none⟩ = some (.int .i64 (h.a1 : Int)) ∧ w.cell? ⟨b, 4, none⟩ = some (.int .i64 (h.b1 : Int)) := by
  refine ⟨?_, ?_, ?_, ?_, ?_⟩ <;> (rw [Dsc.cell_of_head k]; rfl)
def SS (q p b : Nat) (H : Hd) (w : World) : Prop := w.cell? ⟨q, 0, none⟩ = some (.pointer (some ⟨p, 0, none⟩)) ∧ w.cell? ⟨b, 0, none⟩ = some (.int .i64 (H.c : Int)) ∧ w.cell? ⟨b, 1, none⟩ = some (.int .i64 (H.a0 : Int)) ∧ w.cell? ⟨b, 2, none⟩ = some (.int .i64 (H.b0 : Int)) ∧ w.cell? ⟨b, 3, none⟩ = some (.int .i64 (H.a1 : Int)) ∧ w.cell? ⟨b, 4, none⟩ = some (.int .i64 (H.b1 : Int))
theorem SS.of {b : Nat} {H : Hd} (j : JL w0 w p q d h n) (k : Box w b H) : SS q p b H w := ⟨j.log.c0, k.cells⟩
def headB (H : Hd) : List Int := headL H.c H.a0 H.b0 H.a1 H.b1
theorem headB_byt {H : Hd} (h : H.Ok) : Frm.Byt (headB H) := by
  have := h.c
  exact Frm.byt_app (Frm.byt_app (fun x hx => by simp at hx; omega) (Frm.bytesL_byt _ _)) (Frm.bytesL_byt _ _)
set_option maxHeartbeats 2000000 in
theorem settle_any (j : JL w0 w p q d h n) (H : Hd) (hH : H.Ok) (hmany : d.waits.length ≤ 900000) :
    Calls Try.prog 41 #[.pointer (some ⟨q, 0, none⟩), H.val] w fun e w' => e = .returned (.int .i64 (settP d (headB H)).1) ∧ JL w0 w' p q (settP d (headB H)).2 h n ∧ Kin w w' := by
  have B0 := bel1 w (hdO H)
  have J1 := hid ((j.more B0).more (Below.refl _ _).drew)
  have X1 : Hid (Box (w.alloc (hdO H)).drew w.heap.size H) := heap_alloc_new w (hdO H)
  have K1 := hid ((Kin.of B0).trans (Kin.drew _))
  have S1 := hid (SS.of J1.out X1.out)
  have HH := hid hH
  have c0 := J1.out.log.c0
  clear j hH B0
  unfold Hd.val
  by_cases hz : writeZ d 0 = 0
  · have HE : Hid (settP d (headB H) = (errZ (stepD (writeD d 0 (headB H))).down, syncD (writeD d 0 (headB H)))) := by unfold Hid settP; rw [if_pos hz]
    have HZ := hid hz
    clear hz
    go_enter Try.func41, Try.ntmps41
    go_wp2
    go_region_held3 (fun w' => w'.cell? ⟨q, 0, none⟩ = some (.pointer (some ⟨p, 0, none⟩)) ∧ w'.cell? ⟨w.heap.size, 0, none⟩ = some (.int .i64 (H.c : Int)) ∧ w'.cell? ⟨w.heap.size, 1, none⟩ = some (.int .i64 (H.a0 : Int)) ∧ w'.cell? ⟨w.heap.size, 2, none⟩ = some (.int .i64 (H.b0 : Int)) ∧ w'.cell? ⟨w.heap.size, 3, none⟩ = some (.int .i64 (H.a1 : Int)) ∧ w'.cell? ⟨w.heap.size, 4, none⟩ = some (.int .i64 (H.b1 : Int))) ((first | exact S3.out | exact S2.out | exact S1.out)) ((first | (go_at_call 40; refine (write_jd J2.out.disk G2.out (by omega) 0 _ rfl).mono ?_; rintro e w3 ⟨rfl, l3⟩; rw [HZ.out]; have J3 := hid (l3.jl J2.out); have X3 := hid (X2.out.kin l3.2.1); have K3 := hid (K2.out.trans l3.2.1); have S3 := hid (SS.of J3.out X3.out); clear l3) | (go_at_call 49; refine (put_any HH.out).mono ?_; rintro e w2 ⟨ao2, cap2, rfl, d2⟩; have G2 := hid (Mk.gv d2 (headB_byt HH.out)); have J2 := hid (J1.out.more d2.bel); have X2 := hid (X1.out.kin (Kin.of d2.bel)); have K2 := hid (K1.out.then d2.bel); have S2 := hid (SS.of J2.out X2.out); clear d2)))
    go_wp2_with (go_at_call 50; refine (sync_jd J3.out.disk).mono ?_; rintro e w4 ⟨rfl, l4⟩; have L4 := hid l4; clear l4)
    go_ret
    rw [HE.out]
    exact ⟨rfl, L4.out.jl J3.out, K3.out.trans L4.out.2.1⟩
  · have HE : Hid (settP d (headB H) = (writeZ d 0, writeD d 0 (headB H))) := by unfold Hid settP; rw [if_neg hz]
    go_enter Try.func41, Try.ntmps41
    go_wp2
    go_region_held3 (fun w' => w'.cell? ⟨q, 0, none⟩ = some (.pointer (some ⟨p, 0, none⟩)) ∧ w'.cell? ⟨w.heap.size, 0, none⟩ = some (.int .i64 (H.c : Int)) ∧ w'.cell? ⟨w.heap.size, 1, none⟩ = some (.int .i64 (H.a0 : Int)) ∧ w'.cell? ⟨w.heap.size, 2, none⟩ = some (.int .i64 (H.b0 : Int)) ∧ w'.cell? ⟨w.heap.size, 3, none⟩ = some (.int .i64 (H.a1 : Int)) ∧ w'.cell? ⟨w.heap.size, 4, none⟩ = some (.int .i64 (H.b1 : Int))) ((first | exact S3.out | exact S2.out | exact S1.out)) ((first | (go_at_call 40; refine (write_jd J2.out.disk G2.out (by omega) 0 _ rfl).mono ?_; rintro e w3 ⟨rfl, l3⟩; have J3 := hid (l3.jl J2.out); have X3 := hid (X2.out.kin l3.2.1); have K3 := hid (K2.out.trans l3.2.1); have S3 := hid (SS.of J3.out X3.out); clear l3) | (go_at_call 49; refine (put_any HH.out).mono ?_; rintro e w2 ⟨ao2, cap2, rfl, d2⟩; have G2 := hid (Mk.gv d2 (headB_byt HH.out)); have J2 := hid (J1.out.more d2.bel); have X2 := hid (X1.out.kin (Kin.of d2.bel)); have K2 := hid (K1.out.then d2.bel); have S2 := hid (SS.of J2.out X2.out); clear d2)))
    go_wp2
    go_ret
    rw [HE.out]
    exact ⟨rfl, J3.out, K3.out⟩
end
/-! ### A block is turned that is neither the disk's nor a journal's -/
section
variable {w0 we w w' : World} {p q b : Nat} {d : Dk} {h : Hd} {n : Nat} {c : Array Value} {t : TypeId} {f : Nat × Nat}
abbrev Only (b : Nat) (w w' : World) : Prop := Frm.Turned (fun k => k = b) w w'
theorem JL.only (j : JL w0 w p q d h n) (hb : w.heap[b]? = some (.cells c t f)) (h1 : t ≠ 51) (h2 : t ≠ 70) (h3 : t ≠ 72) (h4 : t ≠ 61) (T : Only b w w') (hw : w0.heap.size ≤ b) : JL w0 w' p q d h n := by
  obtain ⟨⟨sv, wv, hd, hf, hbl⟩, hl, hn⟩ := j
  refine ⟨⟨sv, wv, hd.kept fun k hk => T.block k (hd.lt k hk) (fun e => ?_), hf, hbl.trans (T.below (fun k e => by omega) hbl.size)⟩, hl.kept (T.block q hl.lt (fun e => ?_)), hn⟩
  · subst e; exact not_feet hd hb h1 h2 h3 hk
  · subst e
    rw [show w.heap[q]? = some (.cells (logC p h n) 61 (0, 0)) from hl] at hb
    cases hb; exact h4 rfl
theorem Kin.only (k : Kin we w) (T : Only b w w') (hb : we.heap.size ≤ b) : Kin we w' :=
  ⟨T.os.trans k.os, T.tape.trans k.tape, T.output.trans k.output, Nat.le_trans k.size T.size, fun i x t f e h1 h2 h3 h4 => by
    have hi := (Array.getElem?_eq_some_iff.1 e).1
    exact (T.block i (Nat.lt_of_lt_of_le hi k.size) (fun e2 => by omega)).trans (k.block i x t f e h1 h2 h3 h4)⟩
theorem heap_setCells {cur : Array Value} (hc : w.heap[b]? = some (.cells cur t (0, 0))) (o : Nat) (vs : List Value) (hl : o + vs.length ≤ cur.size) (h1 : ∀ v ∈ vs, v.oneCell' = true) :
    (w.setCells b o vs).heap[b]? = some (.cells (cur.toList.take o ++ vs ++ cur.toList.drop (o + vs.length)).toArray t (0, 0)) := by
  rw [Dsc.setCells_row (P := Try.prog) hc o vs hl h1]; exact setRow_heap w b cur _ t _ hc
theorem there_of {cur : Array Value} (hc : w.heap[b]? = some (.cells cur t (0, 0))) (o m : Nat) (hm : o + m ≤ cur.size) : w.there b o m := fun j hj => by
  have hlt : o + j < cur.size := by omega
  exact ⟨by rw [Dsc.cell_of_head hc]; simp [hlt], Dsc.froz_of_head hc _⟩
end
theorem Hd.one (h : Hd) : ∀ u ∈ h.cells, u.oneCell' = true := by intro u hu; simp [Hd.cells] at hu; rcases hu with h | h | h | h | h <;> subst h <;> rfl
def Hd.zero : Hd := ⟨0, 0, 0, 0, 0⟩
/-- A box of a mark. -/
def BoxM (w : World) (b x y : Nat) : Prop := w.heap[b]? = some (.cells #[.int .i64 (x : Int), .int .i64 (y : Int)] 55 (0, 0))
theorem BoxM.kin {w w' : World} {b x y : Nat} (k : BoxM w b x y) (e : Kin w w') : BoxM w' b x y := (e.block b _ 55 (0, 0) k (by decide) (by decide) (by decide) (by decide)).trans k
theorem BoxM.only {w w' : World} {b b2 x y : Nat} (k : BoxM w b x y) (e : Only b2 w w') (hne : b ≠ b2) : BoxM w' b x y := (e.block b (Array.getElem?_eq_some_iff.1 k).1 hne).trans k
theorem BoxM.c0 {w : World} {b x y : Nat} (k : BoxM w b x y) : w.cell? ⟨b, 0, none⟩ = some (.int .i64 (x : Int)) := by rw [Dsc.cell_of_head k]; rfl
theorem BoxM.c1 {w : World} {b x y : Nat} (k : BoxM w b x y) : w.cell? ⟨b, 1, none⟩ = some (.int .i64 (y : Int)) := by rw [Dsc.cell_of_head k]; rfl
theorem z70 : (Try.prog.info? 58).map (fun i => (i.zero, i.size)) = some (some Hd.zero.val, 5) := by kernel_rfl
theorem Box.apart {w : World} {b b2 x y : Nat} {H : Hd} (k : Box w b H) (m : BoxM w b2 x y) : b2 ≠ b := fun e => by
  subst e
  have k' : w.heap[b2]? = some (hdO H) := k
  have m' : w.heap[b2]? = some (.cells #[.int .i64 (x : Int), .int .i64 (y : Int)] 55 (0, 0)) := m
  rw [m'] at k'
  cases k'
section
variable {ops : Array Oper} {rest : List Oper} {op : Oper} {a : Act} {w : World} {Q : Exit → Act → World → Prop}
theorem bx67 {x y : Nat} (hgd : op.guard = none) (o : Operand) (ho : op.op = .box 55 o) (hx : a.eval o = mkV x y)
    (hh : ∀ b w', w.heap.size ≤ b → BoxM w' b x y → Below w.heap.size w w' → wpList Try.prog ops Q rest (a.put op.dst (.pointer (some ⟨b, 0, none⟩))) w') : wpList Try.prog ops Q (op :: rest) a w :=
  wpList_plain hgd fun K hK => by
    unfold Oper.wp execOp
    simp only [ho, hx, mkV]
    simp [Instr.box, newVar, newRow, go_sem, Value.cells]
    exact hK _ _ (hh _ _ (Nat.le_refl _) (heap_alloc_new w (.cells #[.int .i64 (x : Int), .int .i64 (y : Int)] 55)) (bel1 _ _))
theorem ld67 {b x y : Nat} (k : BoxM w b x y) (hgd : op.guard = none) (o : Operand) (ho : op.op = .load 55 o) (hx : a.eval o = .pointer (some ⟨b, 0, none⟩))
    (h : wpList Try.prog ops Q rest (a.put op.dst (mkV x y)) w) : wpList Try.prog ops Q (op :: rest) a w := by
  obtain ⟨d, hu, hd⟩ := row67
  refine wpList_load_mid hgd 55 o ho b 0 hx [.int .i64 (x : Int), .int .i64 (y : Int)] d ?_ hu hd n67 h
  intro j v hv
  rw [Nat.zero_add, Dsc.cell_of_head k]; simpa using hv
theorem al70 (hgd : op.guard = none) (ho : op.op = .alloc 58)
    (hh : ∀ b w', w.heap.size ≤ b → Box w' b Hd.zero → Below w.heap.size w w' → wpList Try.prog ops Q rest (a.put op.dst (.pointer (some ⟨b, 0, none⟩))) w') : wpList Try.prog ops Q (op :: rest) a w :=
  wpList_plain hgd fun K hK => by
    have hz := (zero_of_info z70).1 w
    unfold Oper.wp execOp
    simp [ho, Instr.alloc, hz, newVar, newRow, go_sem, Hd.val, Value.cells]
    exact hK _ _ (hh _ _ (Nat.le_refl _) (heap_alloc_new w (hdO Hd.zero)) (bel1 _ _))
theorem ld70 {b o : Nat} {H : Hd} (k : w.rangeAt b o H.cells) (hgd : op.guard = none) (x : Operand) (ho : op.op = .load 58 x) (hx : a.eval x = .pointer (some ⟨b, o, none⟩))
    (h : wpList Try.prog ops Q rest (a.put op.dst H.val) w) : wpList Try.prog ops Q (op :: rest) a w := by
  obtain ⟨d, hu, hd⟩ := row70
  exact wpList_load_mid hgd 58 x ho b o hx H.cells d k hu hd n70 h
theorem Box.range {b : Nat} {H : Hd} (k : Box w b H) : w.rangeAt b 0 H.cells := by
  intro j v hv
  rw [Nat.zero_add, Dsc.cell_of_head k]; simpa [Hd.cells] using hv
theorem LogAt.range {q p : Nat} {h : Hd} {n : Nat} (k : LogAt w q p h n) : w.rangeAt q 1 h.cells := by
  intro j v hv
  rw [Dsc.cell_of_head k]
  have hj : j < 5 := (List.getElem?_eq_some_iff.1 hv).1
  have e : j = 0 ∨ j = 1 ∨ j = 2 ∨ j = 3 ∨ j = 4 := by omega
  rcases e with rfl | rfl | rfl | rfl | rfl <;> exact hv
/-- A head is stored into its box. -/
theorem st70 {b : Nat} {H H' : Hd} (k : Box w b H) (hgd : op.guard = none) (x y : Operand) (ho : op.op = .store 58 x y) (hx : a.eval x = .pointer (some ⟨b, 0, none⟩)) (hy : a.eval y = H'.val)
    (h : ∀ w', Box w' b H' → Only b w w' → wpList Try.prog ops Q rest (a.put op.dst undef) w') : wpList Try.prog ops Q (op :: rest) a w := by
  refine wpList_store_mid hgd 58 x y ho b 0 H'.cells.toArray hx hy (there_of k 0 5 (by simp)) n70 (all_oneCell_toArray H'.one) ?_
  exact h _ (heap_setCells k 0 H'.cells (by simp [Hd.cells]) H'.one) (Frm.turned_setCells _ _ _ _)
/-- .. a mark of it. -/
theorem st67 {b x y : Nat} {H H' : Hd} (k : Box w b H) (o : Nat) (ho5 : o + 2 ≤ 5) (he : H'.cells = H.cells.take o ++ [.int .i64 (x : Int), .int .i64 (y : Int)] ++ H.cells.drop (o + 2)) (hgd : op.guard = none) (u v : Operand) (ho : op.op = .store 55 u v) (hx : a.eval u = .pointer (some ⟨b, o, none⟩)) (hy : a.eval v = mkV x y)
    (h : ∀ w', Box w' b H' → Only b w w' → wpList Try.prog ops Q rest (a.put op.dst undef) w') : wpList Try.prog ops Q (op :: rest) a w := by
  have h1 : ∀ c ∈ ([.int .i64 (x : Int), .int .i64 (y : Int)] : List Value), c.oneCell' = true := by intro c hc; simp at hc; rcases hc with hc | hc <;> subst hc <;> rfl
  refine wpList_store_mid hgd 55 u v ho b o #[.int .i64 (x : Int), .int .i64 (y : Int)] hx hy (there_of k o 2 (by simpa using ho5)) n67 (all_oneCell_toArray h1) ?_
  refine h _ ?_ (Frm.turned_setCells _ _ _ _)
  have := heap_setCells k o [.int .i64 (x : Int), .int .i64 (y : Int)] (by simpa using ho5) h1
  unfold Box hdO
  rw [this]
  have e : (#[.int .i64 (H'.c : Int), .int .i64 (H'.a0 : Int), .int .i64 (H'.b0 : Int), .int .i64 (H'.a1 : Int), .int .i64 (H'.b1 : Int)] : Array Value) = H'.cells.toArray := rfl
  rw [e, he]; rfl
end
theorem Box.setc {w : World} {b : Nat} {H : Hd} (k : Box w b H) (c : Nat) : Box (w.setCell ⟨b, 0, none⟩ (.int .i64 (c : Int))) b { H with c := c } := by
  unfold Box; rw [hset k]; rfl
theorem only_setCell (w : World) (b i : Nat) (v : Value) : Only b w (w.setCell ⟨b, i, none⟩ v) :=
  ⟨rfl, rfl, rfl, by simp [World.setCell], fun k hk hn => hoth hn _ _⟩
/-- The other mark is (x, y). -/
def Hd.mark (h : Hd) (x y : Nat) : Hd := if h.c = 0 then ⟨h.c, h.a0, h.b0, x, y⟩ else ⟨h.c, x, y, h.a1, h.b1⟩
/-- .. and is the one that counts. -/
def Hd.turn (h : Hd) (x y : Nat) : Hd := { h.mark x y with c := 1 - h.c }
theorem Hd.mark_ok {h : Hd} (k : h.Ok) {x y : Nat} (hx : x ≤ 1) (hy : y < 2147483648) : (h.mark x y).Ok := by
  unfold Hd.mark; split
  · exact ⟨k.c, k.a0, k.b0, hx, hy⟩
  · exact ⟨k.c, hx, hy, k.a1, k.b1⟩
theorem Hd.turn_ok {h : Hd} (k : h.Ok) {x y : Nat} (hx : x ≤ 1) (hy : y < 2147483648) : (h.turn x y).Ok := by
  have m := mark_ok k hx hy
  exact ⟨by show 1 - h.c ≤ 1; omega, m.a0, m.b0, m.a1, m.b1⟩
theorem Hd.turn_c {h : Hd} (x y : Nat) : (h.turn x y).c = 1 - h.c := rfl
theorem Hd.turn_a {h : Hd} (k : h.Ok) (x y : Nat) : (h.turn x y).a = x ∧ (h.turn x y).b = y := by
  have hc : h.c = 0 ∨ h.c = 1 := by have := k.c; omega
  rcases hc with e | e <;> (unfold Hd.a Hd.b Hd.turn Hd.mark; simp [e])
theorem Hd.mark_head {h : Hd} (k : h.Ok) (x y : Nat) : headB (h.mark x y) = headM h.c h.a h.b x y h.c := by
  have hc : h.c = 0 ∨ h.c = 1 := by have := k.c; omega
  rcases hc with e | e <;> (unfold headB headM Hd.a Hd.b Hd.mark; simp [e])
theorem Hd.turn_head {h : Hd} (k : h.Ok) (x y : Nat) : headB (h.turn x y) = headM h.c h.a h.b x y (1 - h.c) := by
  have hc : h.c = 0 ∨ h.c = 1 := by have := k.c; omega
  rcases hc with e | e <;> (unfold headB headM Hd.a Hd.b Hd.turn Hd.mark; simp [e])
theorem Box.cz {w : World} {b : Nat} {H : Hd} (k : Box w b H) {c : Nat} (e : H.c = c) : w.cell? ⟨b, 0, none⟩ = some (.int .i64 (c : Int)) := by rw [k.cells.1, e]
theorem Box.fz {w : World} {b : Nat} {H : Hd} (k : Box w b H) : w.frozen? ⟨b, 0, none⟩ = false := Dsc.froz_of_head k 0
theorem Box.turn {w : World} {b x y : Nat} {h : Hd} (k : Box w b (h.mark x y)) {c : Nat} (e : 1 - h.c = c) : Box (w.setCell ⟨b, 0, none⟩ (.int .i64 (c : Int))) b (h.turn x y) := by
  have := k.setc c
  subst e; exact this
theorem Hd.mark_c (h : Hd) (x y : Nat) : (h.mark x y).c = h.c := by unfold Hd.mark; split <;> rfl
theorem Hd.mark_cells0 {h : Hd} (e : h.c = 0) (x y : Nat) : (h.mark x y).cells = h.cells.take 3 ++ [.int .i64 (x : Int), .int .i64 (y : Int)] ++ h.cells.drop 5 := by unfold Hd.mark; rw [if_pos e]; rfl
theorem Hd.mark_cells1 {h : Hd} (e : h.c = 1) (x y : Nat) : (h.mark x y).cells = h.cells.take 1 ++ [.int .i64 (x : Int), .int .i64 (y : Int)] ++ h.cells.drop 3 := by unfold Hd.mark; rw [if_neg (by omega)]; rfl
theorem sett_waits (d : Dk) (b : List Int) : (settP d b).2.waits.length ≤ d.waits.length + 1 := by
  have h := wait_one d 0 b
  unfold settP; split
  · unfold syncD; split
    · simpa [stepD] using h
    · simp
  · exact h
section
variable {w0 w : World} {p q : Nat} {d : Dk} {h : Hd} {n : Nat}
/-- A head is stored into a journal. -/
theorem st_log {ops : Array Oper} {rest : List Oper} {op : Oper} {a : Act} {Q : Exit → Act → World → Prop} {H : Hd} (j : JL w0 w p q d h n) (hgd : op.guard = none) (x y : Operand) (ho : op.op = .store 58 x y) (hx : a.eval x = .pointer (some ⟨q, 1, none⟩)) (hy : a.eval y = H.val)
    (hh : ∀ w', JL w0 w' p q d H n → Kin w w' → wpList Try.prog ops Q rest (a.put op.dst undef) w') : wpList Try.prog ops Q (op :: rest) a w := by
  have hl : w.heap[q]? = some (.cells (logC p h n) 61 (0, 0)) := j.log
  refine wpList_store_mid hgd 58 x y ho q 1 H.cells.toArray hx hy (there_of hl 1 5 (by simp [logC])) n70 (all_oneCell_toArray H.one) ?_
  have T : Only q w (w.setCells q 1 H.cells) := Frm.turned_setCells _ _ _ _
  refine hh _ ⟨?_, ?_, j.new⟩ ?_
  · obtain ⟨⟨sv, wv, hd, hf, hb⟩, hlg, hn⟩ := j
    refine ⟨sv, wv, hd.kept fun k hk => T.block k (hd.lt k hk) (fun e => ?_), hf, hb.trans (T.below (fun k e => by omega) hb.size)⟩
    subst e; exact not_feet hd hl (by decide) (by decide) (by decide) hk
  · exact heap_setCells hl 1 H.cells (by simp [logC, Hd.cells]) H.one
  · refine ⟨T.os, T.tape, T.output, T.size, fun k c t f e h1 h2 h3 h4 => T.block k (Array.getElem?_eq_some_iff.1 e).1 (fun e2 => ?_)⟩
    subst e2; rw [hl] at e; cases e; exact h4 rfl
set_option maxHeartbeats 4000000 in
theorem choose_any (j : JL w0 w p q d h n) (ho : h.Ok) (x y : Nat) (hx : x ≤ 1) (hy : y < 2147483648) (hmany : d.waits.length ≤ 800000) (z : Int) (d' : Dk) (hz : chP d (headB (h.mark x y)) (headB (h.turn x y)) = (z, d')) :
    Calls Try.prog 34 #[.pointer (some ⟨q, 0, none⟩), mkV x y] w fun e w' => e = .returned (.int .i64 z) ∧ JL w0 w' p q d' (if z = 0 then h.turn x y else h) n ∧ Kin w w' := by
  have hc : h.c = 0 ∨ h.c = 1 := by have := ho.c; omega
  have O1 := hid (Hd.mark_ok ho hx hy)
  have O2 := hid (Hd.turn_ok ho hx hy)
  have hm1 := sett_waits d (headB (h.mark x y))
  have hw0 : w0.heap.size ≤ w.heap.size := j.disk.bel.size
  have J := hid j
  clear j ho hx hy
  rcases e1 : settP d (headB (h.mark x y)) with ⟨z1, d1⟩
  rw [e1] at hm1
  unfold chP at hz
  rw [e1] at hz
  simp only at hz hm1
  have E1 := hid e1
  clear e1
  rcases hc with hc | hc
  · have HC : Hid ((h.mark x y).c = 0) := by unfold Hid; rw [Hd.mark_c, hc]
    have H0 := hid hc
    have HN : Hid (1 - h.c = 1) := by unfold Hid; omega
    have CM := hid (Hd.mark_cells0 hc x y)
    clear hc
    by_cases h1 : z1 = 0
    · subst h1
      rw [if_pos rfl] at hz
      rcases e2 : settP d1 (headB (h.turn x y)) with ⟨z2, d2⟩
      rw [e2] at hz
      cases hz
      have E2 := hid e2
      clear e2
      by_cases h2 : z = 0
      · subst h2
        go_enter Try.func34, Try.ntmps34
        go_wp2_with (first | (refine st_log J7.out rfl _ _ rfl rfl rfl ?_; intro w8 j8 k8; have J8 := hid j8; have K8 := hid (K7.out.trans k8); clear j8 k8) | (refine ld70 X7.out.range rfl _ rfl rfl ?_) | (go_at_call 41; refine (settle_any J6.out _ O2.out (by omega)).mono ?_; rintro e w7 ⟨rfl, j7, k7⟩; rw [E2.out] at j7 ⊢; have J7 := hid j7; have K7 := hid (K6.out.trans k7); have X7 := hid (X6.out.kin k7); clear j7 k7) | (refine ld70 X6.out.range rfl _ rfl rfl ?_) | (go_at_call 41; refine (settle_any J4.out _ O1.out (by omega)).mono ?_; rintro e w5 ⟨rfl, j5, k5⟩; rw [E1.out] at j5 ⊢; have J5 := hid j5; have K5 := hid (K4.out.trans k5); have X5 := hid (X4.out.kin k5); have c5 := X5.out.cz HC.out; simp only [Int.natCast_zero] at c5; have f5 := X5.out.fz; have X6 := hid (X5.out.turn (c := 1) HN.out); have T6 := only_setCell w5 b2 0 (.int .i64 ((1 : Nat) : Int)); have J6 := hid (J5.out.only X5.out (by decide) (by decide) (by decide) (by decide) T6 (by omega)); have K6 := hid (K5.out.only T6 (by omega)); simp only [Int.natCast_one] at X6 J6 K6; clear j5 k5 T6) | (refine ld70 X4.out.range rfl _ rfl rfl ?_) | (refine st67 (H' := h.mark x y) X3.out 3 (by omega) CM.out rfl _ _ rfl rfl rfl ?_; intro w4 x4 t4; have X4 := hid x4; have J4 := hid (J3.out.only X3.out (by decide) (by decide) (by decide) (by decide) t4 (by omega)); have K4 := hid (K3.out.only t4 (by omega)); clear x4 t4) | (refine ld67 M3.out rfl _ rfl rfl ?_) | (refine st70 (H' := h) X2.out rfl _ _ rfl rfl rfl ?_; intro w3 x3 t3; have X3 := hid x3; have J3 := hid (J2.out.only X2.out (by decide) (by decide) (by decide) (by decide) t3 (by omega)); have K3 := hid (K2.out.only t3 (by omega)); have M3 := hid (M2.out.only t3 (X2.out.apart M2.out)); have c3 := X3.out.cz H0.out; simp only [Int.natCast_zero] at c3; clear x3 t3) | (refine al70 rfl rfl ?_; intro b2 w2 hb2 x2 k2; have X2 := hid x2; have J2 := hid (J1.out.more k2); have K2 := hid (K1.out.then k2); have M2 := hid (M1.out.kin (Kin.of k2)); clear x2 k2) | (refine ld70 J1.out.log.range rfl _ rfl rfl ?_) | (refine bx67 rfl _ rfl rfl ?_; intro b1 w1 hb1 m1 k1; have M1 := hid m1; have J1 := hid (J.out.more k1); have K1 := hid (Kin.of k1); have s1 := k1.size; clear m1 k1))
        go_ret
        exact ⟨rfl, J8.out, K8.out⟩
      · 
        go_enter Try.func34, Try.ntmps34
        go_wp2_with (first | (go_at_call 41; refine (settle_any J6.out _ O2.out (by omega)).mono ?_; rintro e w7 ⟨rfl, j7, k7⟩; rw [E2.out] at j7 ⊢; have J7 := hid j7; have K7 := hid (K6.out.trans k7); have X7 := hid (X6.out.kin k7); clear j7 k7) | (refine ld70 X6.out.range rfl _ rfl rfl ?_) | (go_at_call 41; refine (settle_any J4.out _ O1.out (by omega)).mono ?_; rintro e w5 ⟨rfl, j5, k5⟩; rw [E1.out] at j5 ⊢; have J5 := hid j5; have K5 := hid (K4.out.trans k5); have X5 := hid (X4.out.kin k5); have c5 := X5.out.cz HC.out; simp only [Int.natCast_zero] at c5; have f5 := X5.out.fz; have X6 := hid (X5.out.turn (c := 1) HN.out); have T6 := only_setCell w5 b2 0 (.int .i64 ((1 : Nat) : Int)); have J6 := hid (J5.out.only X5.out (by decide) (by decide) (by decide) (by decide) T6 (by omega)); have K6 := hid (K5.out.only T6 (by omega)); simp only [Int.natCast_one] at X6 J6 K6; clear j5 k5 T6) | (refine ld70 X4.out.range rfl _ rfl rfl ?_) | (refine st67 (H' := h.mark x y) X3.out 3 (by omega) CM.out rfl _ _ rfl rfl rfl ?_; intro w4 x4 t4; have X4 := hid x4; have J4 := hid (J3.out.only X3.out (by decide) (by decide) (by decide) (by decide) t4 (by omega)); have K4 := hid (K3.out.only t4 (by omega)); clear x4 t4) | (refine ld67 M3.out rfl _ rfl rfl ?_) | (refine st70 (H' := h) X2.out rfl _ _ rfl rfl rfl ?_; intro w3 x3 t3; have X3 := hid x3; have J3 := hid (J2.out.only X2.out (by decide) (by decide) (by decide) (by decide) t3 (by omega)); have K3 := hid (K2.out.only t3 (by omega)); have M3 := hid (M2.out.only t3 (X2.out.apart M2.out)); have c3 := X3.out.cz H0.out; simp only [Int.natCast_zero] at c3; clear x3 t3) | (refine al70 rfl rfl ?_; intro b2 w2 hb2 x2 k2; have X2 := hid x2; have J2 := hid (J1.out.more k2); have K2 := hid (K1.out.then k2); have M2 := hid (M1.out.kin (Kin.of k2)); clear x2 k2) | (refine ld70 J1.out.log.range rfl _ rfl rfl ?_) | (refine bx67 rfl _ rfl rfl ?_; intro b1 w1 hb1 m1 k1; have M1 := hid m1; have J1 := hid (J.out.more k1); have K1 := hid (Kin.of k1); have s1 := k1.size; clear m1 k1))
        go_ret
        exact ⟨rfl, J7.out, K7.out⟩
    · rw [if_neg h1] at hz
      cases hz
      go_enter Try.func34, Try.ntmps34
      go_wp2_with (first | (go_at_call 41; refine (settle_any J4.out _ O1.out (by omega)).mono ?_; rintro e w5 ⟨rfl, j5, k5⟩; rw [E1.out] at j5 ⊢; have J5 := hid j5; have K5 := hid (K4.out.trans k5); have X5 := hid (X4.out.kin k5); have c5 := X5.out.cz HC.out; simp only [Int.natCast_zero] at c5; have f5 := X5.out.fz; have X6 := hid (X5.out.turn (c := 1) HN.out); have T6 := only_setCell w5 b2 0 (.int .i64 ((1 : Nat) : Int)); have J6 := hid (J5.out.only X5.out (by decide) (by decide) (by decide) (by decide) T6 (by omega)); have K6 := hid (K5.out.only T6 (by omega)); simp only [Int.natCast_one] at X6 J6 K6; clear j5 k5 T6) | (refine ld70 X4.out.range rfl _ rfl rfl ?_) | (refine st67 (H' := h.mark x y) X3.out 3 (by omega) CM.out rfl _ _ rfl rfl rfl ?_; intro w4 x4 t4; have X4 := hid x4; have J4 := hid (J3.out.only X3.out (by decide) (by decide) (by decide) (by decide) t4 (by omega)); have K4 := hid (K3.out.only t4 (by omega)); clear x4 t4) | (refine ld67 M3.out rfl _ rfl rfl ?_) | (refine st70 (H' := h) X2.out rfl _ _ rfl rfl rfl ?_; intro w3 x3 t3; have X3 := hid x3; have J3 := hid (J2.out.only X2.out (by decide) (by decide) (by decide) (by decide) t3 (by omega)); have K3 := hid (K2.out.only t3 (by omega)); have M3 := hid (M2.out.only t3 (X2.out.apart M2.out)); have c3 := X3.out.cz H0.out; simp only [Int.natCast_zero] at c3; clear x3 t3) | (refine al70 rfl rfl ?_; intro b2 w2 hb2 x2 k2; have X2 := hid x2; have J2 := hid (J1.out.more k2); have K2 := hid (K1.out.then k2); have M2 := hid (M1.out.kin (Kin.of k2)); clear x2 k2) | (refine ld70 J1.out.log.range rfl _ rfl rfl ?_) | (refine bx67 rfl _ rfl rfl ?_; intro b1 w1 hb1 m1 k1; have M1 := hid m1; have J1 := hid (J.out.more k1); have K1 := hid (Kin.of k1); have s1 := k1.size; clear m1 k1))
      go_ret
      exact ⟨rfl, J5.out, K5.out⟩
  · have HC : Hid ((h.mark x y).c = 1) := by unfold Hid; rw [Hd.mark_c, hc]
    have H0 := hid hc
    have HN : Hid (1 - h.c = 0) := by unfold Hid; omega
    have CM := hid (Hd.mark_cells1 hc x y)
    clear hc
    by_cases h1 : z1 = 0
    · subst h1
      rw [if_pos rfl] at hz
      rcases e2 : settP d1 (headB (h.turn x y)) with ⟨z2, d2⟩
      rw [e2] at hz
      cases hz
      have E2 := hid e2
      clear e2
      by_cases h2 : z = 0
      · subst h2
        go_enter Try.func34, Try.ntmps34
        go_wp2_with (first | (refine st_log J7.out rfl _ _ rfl rfl rfl ?_; intro w8 j8 k8; have J8 := hid j8; have K8 := hid (K7.out.trans k8); clear j8 k8) | (refine ld70 X7.out.range rfl _ rfl rfl ?_) | (go_at_call 41; refine (settle_any J6.out _ O2.out (by omega)).mono ?_; rintro e w7 ⟨rfl, j7, k7⟩; rw [E2.out] at j7 ⊢; have J7 := hid j7; have K7 := hid (K6.out.trans k7); have X7 := hid (X6.out.kin k7); clear j7 k7) | (refine ld70 X6.out.range rfl _ rfl rfl ?_) | (go_at_call 41; refine (settle_any J4.out _ O1.out (by omega)).mono ?_; rintro e w5 ⟨rfl, j5, k5⟩; rw [E1.out] at j5 ⊢; have J5 := hid j5; have K5 := hid (K4.out.trans k5); have X5 := hid (X4.out.kin k5); have c5 := X5.out.cz HC.out; simp only [Int.natCast_one] at c5; have f5 := X5.out.fz; have X6 := hid (X5.out.turn (c := 0) HN.out); have T6 := only_setCell w5 b2 0 (.int .i64 ((0 : Nat) : Int)); have J6 := hid (J5.out.only X5.out (by decide) (by decide) (by decide) (by decide) T6 (by omega)); have K6 := hid (K5.out.only T6 (by omega)); simp only [Int.natCast_zero] at X6 J6 K6; clear j5 k5 T6) | (refine ld70 X4.out.range rfl _ rfl rfl ?_) | (refine st67 (H' := h.mark x y) X3.out 1 (by omega) CM.out rfl _ _ rfl rfl rfl ?_; intro w4 x4 t4; have X4 := hid x4; have J4 := hid (J3.out.only X3.out (by decide) (by decide) (by decide) (by decide) t4 (by omega)); have K4 := hid (K3.out.only t4 (by omega)); clear x4 t4) | (refine ld67 M3.out rfl _ rfl rfl ?_) | (refine st70 (H' := h) X2.out rfl _ _ rfl rfl rfl ?_; intro w3 x3 t3; have X3 := hid x3; have J3 := hid (J2.out.only X2.out (by decide) (by decide) (by decide) (by decide) t3 (by omega)); have K3 := hid (K2.out.only t3 (by omega)); have M3 := hid (M2.out.only t3 (X2.out.apart M2.out)); have c3 := X3.out.cz H0.out; simp only [Int.natCast_one] at c3; clear x3 t3) | (refine al70 rfl rfl ?_; intro b2 w2 hb2 x2 k2; have X2 := hid x2; have J2 := hid (J1.out.more k2); have K2 := hid (K1.out.then k2); have M2 := hid (M1.out.kin (Kin.of k2)); clear x2 k2) | (refine ld70 J1.out.log.range rfl _ rfl rfl ?_) | (refine bx67 rfl _ rfl rfl ?_; intro b1 w1 hb1 m1 k1; have M1 := hid m1; have J1 := hid (J.out.more k1); have K1 := hid (Kin.of k1); have s1 := k1.size; clear m1 k1))
        go_ret
        exact ⟨rfl, J8.out, K8.out⟩
      · 
        go_enter Try.func34, Try.ntmps34
        go_wp2_with (first | (go_at_call 41; refine (settle_any J6.out _ O2.out (by omega)).mono ?_; rintro e w7 ⟨rfl, j7, k7⟩; rw [E2.out] at j7 ⊢; have J7 := hid j7; have K7 := hid (K6.out.trans k7); have X7 := hid (X6.out.kin k7); clear j7 k7) | (refine ld70 X6.out.range rfl _ rfl rfl ?_) | (go_at_call 41; refine (settle_any J4.out _ O1.out (by omega)).mono ?_; rintro e w5 ⟨rfl, j5, k5⟩; rw [E1.out] at j5 ⊢; have J5 := hid j5; have K5 := hid (K4.out.trans k5); have X5 := hid (X4.out.kin k5); have c5 := X5.out.cz HC.out; simp only [Int.natCast_one] at c5; have f5 := X5.out.fz; have X6 := hid (X5.out.turn (c := 0) HN.out); have T6 := only_setCell w5 b2 0 (.int .i64 ((0 : Nat) : Int)); have J6 := hid (J5.out.only X5.out (by decide) (by decide) (by decide) (by decide) T6 (by omega)); have K6 := hid (K5.out.only T6 (by omega)); simp only [Int.natCast_zero] at X6 J6 K6; clear j5 k5 T6) | (refine ld70 X4.out.range rfl _ rfl rfl ?_) | (refine st67 (H' := h.mark x y) X3.out 1 (by omega) CM.out rfl _ _ rfl rfl rfl ?_; intro w4 x4 t4; have X4 := hid x4; have J4 := hid (J3.out.only X3.out (by decide) (by decide) (by decide) (by decide) t4 (by omega)); have K4 := hid (K3.out.only t4 (by omega)); clear x4 t4) | (refine ld67 M3.out rfl _ rfl rfl ?_) | (refine st70 (H' := h) X2.out rfl _ _ rfl rfl rfl ?_; intro w3 x3 t3; have X3 := hid x3; have J3 := hid (J2.out.only X2.out (by decide) (by decide) (by decide) (by decide) t3 (by omega)); have K3 := hid (K2.out.only t3 (by omega)); have M3 := hid (M2.out.only t3 (X2.out.apart M2.out)); have c3 := X3.out.cz H0.out; simp only [Int.natCast_one] at c3; clear x3 t3) | (refine al70 rfl rfl ?_; intro b2 w2 hb2 x2 k2; have X2 := hid x2; have J2 := hid (J1.out.more k2); have K2 := hid (K1.out.then k2); have M2 := hid (M1.out.kin (Kin.of k2)); clear x2 k2) | (refine ld70 J1.out.log.range rfl _ rfl rfl ?_) | (refine bx67 rfl _ rfl rfl ?_; intro b1 w1 hb1 m1 k1; have M1 := hid m1; have J1 := hid (J.out.more k1); have K1 := hid (Kin.of k1); have s1 := k1.size; clear m1 k1))
        go_ret
        exact ⟨rfl, J7.out, K7.out⟩
    · rw [if_neg h1] at hz
      cases hz
      go_enter Try.func34, Try.ntmps34
      go_wp2_with (first | (go_at_call 41; refine (settle_any J4.out _ O1.out (by omega)).mono ?_; rintro e w5 ⟨rfl, j5, k5⟩; rw [E1.out] at j5 ⊢; have J5 := hid j5; have K5 := hid (K4.out.trans k5); have X5 := hid (X4.out.kin k5); have c5 := X5.out.cz HC.out; simp only [Int.natCast_one] at c5; have f5 := X5.out.fz; have X6 := hid (X5.out.turn (c := 0) HN.out); have T6 := only_setCell w5 b2 0 (.int .i64 ((0 : Nat) : Int)); have J6 := hid (J5.out.only X5.out (by decide) (by decide) (by decide) (by decide) T6 (by omega)); have K6 := hid (K5.out.only T6 (by omega)); simp only [Int.natCast_zero] at X6 J6 K6; clear j5 k5 T6) | (refine ld70 X4.out.range rfl _ rfl rfl ?_) | (refine st67 (H' := h.mark x y) X3.out 1 (by omega) CM.out rfl _ _ rfl rfl rfl ?_; intro w4 x4 t4; have X4 := hid x4; have J4 := hid (J3.out.only X3.out (by decide) (by decide) (by decide) (by decide) t4 (by omega)); have K4 := hid (K3.out.only t4 (by omega)); clear x4 t4) | (refine ld67 M3.out rfl _ rfl rfl ?_) | (refine st70 (H' := h) X2.out rfl _ _ rfl rfl rfl ?_; intro w3 x3 t3; have X3 := hid x3; have J3 := hid (J2.out.only X2.out (by decide) (by decide) (by decide) (by decide) t3 (by omega)); have K3 := hid (K2.out.only t3 (by omega)); have M3 := hid (M2.out.only t3 (X2.out.apart M2.out)); have c3 := X3.out.cz H0.out; simp only [Int.natCast_one] at c3; clear x3 t3) | (refine al70 rfl rfl ?_; intro b2 w2 hb2 x2 k2; have X2 := hid x2; have J2 := hid (J1.out.more k2); have K2 := hid (K1.out.then k2); have M2 := hid (M1.out.kin (Kin.of k2)); clear x2 k2) | (refine ld70 J1.out.log.range rfl _ rfl rfl ?_) | (refine bx67 rfl _ rfl rfl ?_; intro b1 w1 hb1 m1 k1; have M1 := hid m1; have J1 := hid (J.out.more k1); have K1 := hid (Kin.of k1); have s1 := k1.size; clear m1 k1))
      go_ret
      exact ⟨rfl, J5.out, K5.out⟩
end
end Go.Proofs.Ythhgnflkplpklab
