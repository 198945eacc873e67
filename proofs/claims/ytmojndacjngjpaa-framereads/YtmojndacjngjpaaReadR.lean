/- Read, by the document. -/
import Derived.Test.YtmojndacjngjpaaPutR
import Derived.Deep.CutRange
namespace Go.Proofs.Ytmojndacjngjpaa
open Go.ChangeShapes Go.WideShapes Go.ChangeAt Go.RowKit

theorem al29w {op : Oper} {a : Act} {w : World} {K : Act → World → Prop} {Q : Exit → Act → World → Prop} (ho : op.op = .alloc 29)
    (h : ∀ b w', w.heap.size ≤ b → RV w' b Rc.zero → Below w.heap.size w w' → K (a.put op.dst (.pointer (some ⟨b, 0, none⟩))) w') : op.wp Try.prog a w K Q := by
  have hz := zero29 w
  unfold Oper.wp execOp
  simp [ho, Instr.alloc, hz, newVar, newRow, go_sem, Rc.val, Value.cells]
  exact h _ _ (Nat.le_refl _) (RV.new w Rc.zero 29) (bel1 _ _)
theorem build29 (ki te st am : Int) (p : ByteArray) (w : World) : (Instr.build 29 #[(0, .int .i64 ki), (1, .agg #[.int .u16 te, .int .u32 st]), (3, .int .i64 am), (2, .string p)]).run Try.prog w = .ok (Rc.val ⟨ki, te, st, p, am, 0, 0, 0, 0, 0, 0, 0, 0, 0, 0, 0, 0⟩) w := by
  have hz0 := zero29 w
  simp [Instr.build, hz0, go_sem, Rc.val, Rc.cells, Rc.zero]
theorem cell_of_row {w : World} {b o : Nat} {zs : List Int} (h : RowAt w (some ⟨b, o, none⟩) zs) (i : Nat) (hi : i < zs.length) : w.cell? ⟨b, o + i, none⟩ = some (.int .u8 (zs.getD i 0)) := by
  rcases h with h | ⟨b', o', e, h⟩
  · rw [h] at hi; simp at hi
  · cases e; exact h i hi
set_option maxRecDepth 10000 in
set_option maxHeartbeats 1000000 in
theorem rdA1 (ao : Option Addr) (zs : List Int) (len cap : Nat) (w : World) (hl : zs.length = len) (hn : len < 2) :
    Calls Try.prog 17 #[.slice ao len cap] w fun e w' => e = .returned (.tuple #[(recX zs).val, .int .i64 (lenX zs), .int .i64 (errX zs)]) ∧ Below w.heap.size w w' := by
  have HX := hid (err23a (zs := zs) (by simp [splB, hl, show ¬ 2 ≤ len by omega]))
  have i1 : (len : Int) < 2 := by omega
  have i2 : decide ((len : Int) < 2) = true := by simp; omega
  go_enter Try.func17, Try.ntmps17
  go_wp2_with (first | (refine al29 rfl rfl ?_; intro b2 w2 hb2 v2 l2; have V2 := hid v2; have L2 := hid l2; clear v2 l2) | refine bd29 rfl rfl ?_ | (refine st29 (r := Rc.zero) V2.out L2.out hb2 rfl _ _ rfl rfl rfl ?_; intro w3 v3 l3; have V3 := hid v3; have L3 := hid l3; clear v3 l3))
  refine bodyPost_ret (results_c2 Try.results17 _ _ rfl rfl rfl V3.out) rfl ⟨?_, L3.out⟩
  rw [HX.out.1, HX.out.2.1, HX.out.2.2]; rfl
set_option maxRecDepth 10000 in
set_option maxHeartbeats 1000000 in
theorem rdA2 (b o : Nat) (zs : List Int) (len cap : Nat) (w : World) (h : Given w (some ⟨b, o, none⟩) len cap zs) (hn : 2 ≤ len) (hm : ¬ zs.getD 0 0 = 165) :
    Calls Try.prog 17 #[.slice (some ⟨b, o, none⟩) len cap] w fun e w' => e = .returned (.tuple #[(recX zs).val, .int .i64 (lenX zs), .int .i64 (errX zs)]) ∧ Below w.heap.size w w' := by
  have HX := hid (err23a (zs := zs) (by unfold splB; rw [decide_eq_false hm]; simp))
  have c0 : ∀ w', Below w.heap.size w w' → w'.cell? ⟨b, o, none⟩ = some (.int .u8 (zs.getD 0 0)) := fun w' hb => cell_of_row (h.below hb).row 0 (by rw [h.leq]; omega)
  have c1 : ∀ w', Below w.heap.size w w' → w'.cell? ⟨b, o + 1, none⟩ = some (.int .u8 (zs.getD 1 0)) := fun w' hb => cell_of_row (h.below hb).row 1 (by rw [h.leq]; omega)
  have C0 := hid c0
  have C1 := hid c1
  clear c0 c1
  have i1 : ¬ (len : Int) < 2 := by omega
  have i2 : decide ((len : Int) < 2) = false := by simp; omega
  have i3 : (0 : Int) < (len : Int) := by omega
  have i4 : (1 : Int) < (len : Int) := by omega
  obtain ⟨x, hx⟩ : ∃ x, zs.getD 0 0 = x := ⟨_, rfl⟩
  obtain ⟨y, hy⟩ : ∃ y, zs.getD 1 0 = y := ⟨_, rfl⟩
  rw [hx] at hm
  have HG0 := hid hx
  have HG1 := hid hy
  have j1 : (x != 165) = true := by simp [hm]
  clear hx hy
  clear h
  go_enter Try.func17, Try.ntmps17
  go_wp2_with (first | (refine al29 rfl rfl ?_; intro b2 w2 hb2 v2 l2; have e0 := C0.out w2 l2; have e1 := C1.out w2 l2; rw [HG0.out] at e0; rw [HG1.out] at e1; have V2 := hid v2; have L2 := hid l2; clear v2 l2) | refine bd29 rfl rfl ?_ | (refine st29 (r := Rc.zero) V2.out L2.out hb2 rfl _ _ rfl rfl rfl ?_; intro w3 v3 l3; have V3 := hid v3; have L3 := hid l3; clear v3 l3))
  refine bodyPost_ret (results_c2 Try.results17 _ _ rfl rfl rfl V3.out) rfl ⟨?_, L3.out⟩
  rw [HX.out.1, HX.out.2.1, HX.out.2.2]; rfl
set_option maxRecDepth 10000 in
set_option maxHeartbeats 1000000 in
theorem rdA3 (b o : Nat) (zs : List Int) (len cap n : Nat) (w : World) (h : Given w (some ⟨b, o, none⟩) len cap zs) (hn : 2 ≤ len) (hm : zs.getD 0 0 = 165) (h1 : zs.getD 1 0 = (n : Int)) (hb : n < 256) (hlong : len < n + 6) :
    Calls Try.prog 17 #[.slice (some ⟨b, o, none⟩) len cap] w fun e w' => e = .returned (.tuple #[(recX zs).val, .int .i64 (lenX zs), .int .i64 (errX zs)]) ∧ Below w.heap.size w w' := by
  have HX := hid (err23a (zs := zs) (by unfold splB; rw [h1, h.leq, decide_eq_false (show ¬ ((n : Int) + 6 ≤ (len : Int)) by omega)]; simp))
  have c0 : ∀ w', Below w.heap.size w w' → w'.cell? ⟨b, o, none⟩ = some (.int .u8 (zs.getD 0 0)) := fun w' hb => cell_of_row (h.below hb).row 0 (by rw [h.leq]; omega)
  have c1 : ∀ w', Below w.heap.size w w' → w'.cell? ⟨b, o + 1, none⟩ = some (.int .u8 (zs.getD 1 0)) := fun w' hb => cell_of_row (h.below hb).row 1 (by rw [h.leq]; omega)
  have C0 := hid c0
  have C1 := hid c1
  clear c0 c1
  have i1 : ¬ (len : Int) < 2 := by omega
  have i2 : decide ((len : Int) < 2) = false := by simp; omega
  have i3 : (0 : Int) < (len : Int) := by omega
  have i4 : (1 : Int) < (len : Int) := by omega
  have HG0 := hid hm
  have HG1 := hid h1
  have j1 : (len : Int) < 6 + (n : Int) := by omega
  have j2 : decide ((len : Int) < 6 + (n : Int)) = true := by simp; omega
  clear hm h1
  clear h
  go_enter Try.func17, Try.ntmps17
  go_wp2_with (first | (refine al29 rfl rfl ?_; intro b2 w2 hb2 v2 l2; have e0 := C0.out w2 l2; have e1 := C1.out w2 l2; rw [HG0.out] at e0; rw [HG1.out] at e1; have V2 := hid v2; have L2 := hid l2; clear v2 l2) | refine bd29 rfl rfl ?_ | (refine st29 (r := Rc.zero) V2.out L2.out hb2 rfl _ _ rfl rfl rfl ?_; intro w3 v3 l3; have V3 := hid v3; have L3 := hid l3; clear v3 l3))
  refine bodyPost_ret (results_c2 Try.results17 _ _ rfl rfl rfl V3.out) rfl ⟨?_, L3.out⟩
  rw [HX.out.1, HX.out.2.1, HX.out.2.2]; rfl
set_option maxRecDepth 10000 in
set_option maxHeartbeats 1000000 in
theorem rdA4 (b o : Nat) (zs : List Int) (len cap n : Nat) (w : World) (h : Given w (some ⟨b, o, none⟩) len cap zs) (hn : 2 ≤ len) (hm : zs.getD 0 0 = 165) (h1 : zs.getD 1 0 = (n : Int)) (hlong : n + 6 ≤ len) (h36 : n < 36) :
    Calls Try.prog 17 #[.slice (some ⟨b, o, none⟩) len cap] w fun e w' => e = .returned (.tuple #[(recX zs).val, .int .i64 (lenX zs), .int .i64 (errX zs)]) ∧ Below w.heap.size w w' := by
  have HX := hid (err23b (zs := zs) (by have e : (bodyX zs).length = n := (by rw [bodyX, h1, Int.toNat_natCast]; exact pc_len (by rw [h.leq]; omega)); simp [recB, e]; omega))
  have c0 : ∀ w', Below w.heap.size w w' → w'.cell? ⟨b, o, none⟩ = some (.int .u8 (zs.getD 0 0)) := fun w' hb => cell_of_row (h.below hb).row 0 (by rw [h.leq]; omega)
  have c1 : ∀ w', Below w.heap.size w w' → w'.cell? ⟨b, o + 1, none⟩ = some (.int .u8 (zs.getD 1 0)) := fun w' hb => cell_of_row (h.below hb).row 1 (by rw [h.leq]; omega)
  have C0 := hid c0
  have C1 := hid c1
  clear c0 c1
  have i1 : ¬ (len : Int) < 2 := by omega
  have i2 : decide ((len : Int) < 2) = false := by simp; omega
  have i3 : (0 : Int) < (len : Int) := by omega
  have i4 : (1 : Int) < (len : Int) := by omega
  have HG0 := hid hm
  have HG1 := hid h1
  have j1 : ¬ (len : Int) < 6 + (n : Int) := by omega
  have j2 : decide ((len : Int) < 6 + (n : Int)) = false := by simp; omega
  have j3 : (n : Int) < 36 := by omega
  have j4 : decide ((n : Int) < 36) = true := by simp; omega
  clear hm h1
  clear h
  go_enter Try.func17, Try.ntmps17
  go_wp2_with (first | (refine al29 rfl rfl ?_; intro b2 w2 hb2 v2 l2; have e0 := C0.out w2 l2; have e1 := C1.out w2 l2; rw [HG0.out] at e0; rw [HG1.out] at e1; have V2 := hid v2; have L2 := hid l2; clear v2 l2) | refine bd29 rfl rfl ?_ | (refine st29 (r := Rc.zero) V2.out L2.out hb2 rfl _ _ rfl rfl rfl ?_; intro w3 v3 l3; have V3 := hid v3; have L3 := hid l3; clear v3 l3))
  refine bodyPost_ret (results_c2 Try.results17 _ _ rfl rfl rfl V3.out) rfl ⟨?_, L3.out⟩
  rw [HX.out.1, HX.out.2.1, HX.out.2.2]; rfl
end Go.Proofs.Ytmojndacjngjpaa
