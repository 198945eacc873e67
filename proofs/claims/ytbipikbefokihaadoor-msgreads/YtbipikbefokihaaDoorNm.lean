/- A message's numbers of one field: told, set. -/
import Derived.Test.YtbipikbefokihaaDoorTiny
namespace Go.Proofs.YtbipikbefokihaaDoor
open Go.ChangeShapes Go.WideShapes Go.ChangeAt Go.RowKit

set_option maxHeartbeats 1000000 in
theorem fromNotes48 (x0 x1 x2 x3 : Int) (w : World) :
    Calls Tryd.prog 48 #[.agg #[.int .i64 x0, .int .i64 x1, .int .i64 x2, .int .i64 x3]] w fun e w' => ∃ ao c, e = .returned (.slice ao 4 c) ∧ I.Mk w w' (.slice ao 4 c) 4 [x0, x1, x2, x3] := by
  have i0 : ∀ w, (Instr.index 25 (.agg #[.int .i64 x0, .int .i64 x1, .int .i64 x2, .int .i64 x3]) (.int .i64 0)).run Tryd.prog w = .ok (.int .i64 x0) w := fun w => by kernel_rfl
  have i1 : ∀ w, (Instr.index 25 (.agg #[.int .i64 x0, .int .i64 x1, .int .i64 x2, .int .i64 x3]) (.int .i64 1)).run Tryd.prog w = .ok (.int .i64 x1) w := fun w => by kernel_rfl
  have i2 : ∀ w, (Instr.index 25 (.agg #[.int .i64 x0, .int .i64 x1, .int .i64 x2, .int .i64 x3]) (.int .i64 2)).run Tryd.prog w = .ok (.int .i64 x2) w := fun w => by kernel_rfl
  have i3 : ∀ w, (Instr.index 25 (.agg #[.int .i64 x0, .int .i64 x1, .int .i64 x2, .int .i64 x3]) (.int .i64 3)).run Tryd.prog w = .ok (.int .i64 x3) w := fun w => by kernel_rfl
  go_enter Tryd.func48, Tryd.ntmps48
  go_wp2_with (first | (have kill := V1.out; refine ld25 V1.out rfl _ rfl rfl ?_) | (refine bx25 rfl _ rfl rfl ?_; intro b1 w1 hb1 v1 l1; have V1 := hid v1; have L1 := hid l1; clear v1 l1))
  go_loopw [3, 7] (fun x i wr => ∃ (k n c : Nat) (a : Option Addr), k ≤ 4 ∧ i = .int .i64 (k : Int) ∧ x = .slice a n c ∧ n = k ∧ I.Mk w wr (.slice a n c) n ([x0, x1, x2, x3].take k)) (fun _ i _ => 4 - (intOf i).toNat)
  case atStart => exact ⟨0, 0, 0, none, by omega, rfl, rfl, rfl, (I.Mk.nil w).more L1.out⟩
  case round =>
    obtain ⟨k, n, c, a, hk, rfl, rfl, hn, hmk⟩ := hrel
    have M := hid hmk
    have ca := hmk.1.caps
    have ca1 := ca.2.1
    have ca2 := ca.2.2
    clear hmk ca
    have h4 : k = 0 ∨ k = 1 ∨ k = 2 ∨ k = 3 ∨ k = 4 := by omega
    subst hn
    rcases h4 with rfl | rfl | rfl | rfl | rfl
    · have M1 : Hid (I.Mk w (wr.alloc (.cells #[.int .i64 x0] 2)) (.slice a 0 c) 0 ([x0, x1, x2, x3].take 0)) := M.out.more (bel1 _ _)
      have R1 := hid (I.one_row wr x0)
      have Q1 := hid (I.len1 x0)
      go_wp2_with (at_builtin; have kill := M1.out; refine I.app_row (l2 := [x0]) M1.out.1 R1.out Q1.out (fun e => by cases e) M1.out.2.size (by omega) rfl _ _ rfl rfl rfl ?_; intro a4 c4' w4 r4 t4; have D4 := hid (M1.out.next r4 t4); clear r4 t4 kill M1)
      go_roundw
      case rel => exact ⟨0 + 1, 0 + 1, c4', a4, by omega, by go_num, rfl, rfl, D4.out⟩
      case measure => simp [intOf]
    · have M1 : Hid (I.Mk w (wr.alloc (.cells #[.int .i64 x1] 2)) (.slice a 1 c) 1 ([x0, x1, x2, x3].take 1)) := M.out.more (bel1 _ _)
      have R1 := hid (I.one_row wr x1)
      have Q1 := hid (I.len1 x1)
      go_wp2_with (at_builtin; have kill := M1.out; refine I.app_row (l2 := [x1]) M1.out.1 R1.out Q1.out (fun e => by cases e) M1.out.2.size (by omega) rfl _ _ rfl rfl rfl ?_; intro a4 c4' w4 r4 t4; have D4 := hid (M1.out.next r4 t4); clear r4 t4 kill M1)
      go_roundw
      case rel => exact ⟨1 + 1, 1 + 1, c4', a4, by omega, by go_num, rfl, rfl, D4.out⟩
      case measure => simp [intOf]
    · have M1 : Hid (I.Mk w (wr.alloc (.cells #[.int .i64 x2] 2)) (.slice a 2 c) 2 ([x0, x1, x2, x3].take 2)) := M.out.more (bel1 _ _)
      have R1 := hid (I.one_row wr x2)
      have Q1 := hid (I.len1 x2)
      go_wp2_with (at_builtin; have kill := M1.out; refine I.app_row (l2 := [x2]) M1.out.1 R1.out Q1.out (fun e => by cases e) M1.out.2.size (by omega) rfl _ _ rfl rfl rfl ?_; intro a4 c4' w4 r4 t4; have D4 := hid (M1.out.next r4 t4); clear r4 t4 kill M1)
      go_roundw
      case rel => exact ⟨2 + 1, 2 + 1, c4', a4, by omega, by go_num, rfl, rfl, D4.out⟩
      case measure => simp [intOf]
    · have M1 : Hid (I.Mk w (wr.alloc (.cells #[.int .i64 x3] 2)) (.slice a 3 c) 3 ([x0, x1, x2, x3].take 3)) := M.out.more (bel1 _ _)
      have R1 := hid (I.one_row wr x3)
      have Q1 := hid (I.len1 x3)
      go_wp2_with (at_builtin; have kill := M1.out; refine I.app_row (l2 := [x3]) M1.out.1 R1.out Q1.out (fun e => by cases e) M1.out.2.size (by omega) rfl _ _ rfl rfl rfl ?_; intro a4 c4' w4 r4 t4; have D4 := hid (M1.out.next r4 t4); clear r4 t4 kill M1)
      go_roundw
      case rel => exact ⟨3 + 1, 3 + 1, c4', a4, by omega, by go_num, rfl, rfl, D4.out⟩
      case measure => simp [intOf]
    · go_wp2
      go_ret
      exact ⟨_, _, rfl, M.out⟩
set_option maxHeartbeats 1000000 in
theorem toNotes52 (ao : Option Addr) (cap : Nat) (x0 x1 x2 x3 : Int) (w : World) (h : I.Given w ao 4 cap [x0, x1, x2, x3]) :
    Calls Tryd.prog 52 #[.slice ao 4 cap] w fun e w' => e = .returned (.agg #[.int .i64 x0, .int .i64 x1, .int .i64 x2, .int .i64 x3]) ∧ Below w.heap.size w w' := by
  have HG := hid h
  have hcap := h.cap1
  clear h
  go_enter Tryd.func52, Tryd.ntmps52
  go_wp2_with (first | (refine al25 rfl rfl ?_; intro b1 w1 hb1 v1 l1; have N1 := V0; have V1 := hid v1; have L1 := hid l1; clear v1 l1 N1) | (refine al25 rfl rfl ?_; intro b0 w0 hb0 v0 l0; have V0 := hid v0; have L0 := hid l0; clear v0 l0))
  go_loopw [5] (fun i wr => ∃ (k : Nat), k ≤ 4 ∧ i = .int .i64 (k : Int) ∧ QV wr b0 0 0 0 0 ∧ QV wr b1 (if 0 < k then x0 else 0) (if 1 < k then x1 else 0) (if 2 < k then x2 else 0) (if 3 < k then x3 else 0) ∧ Below w.heap.size w wr) (fun i _ => 4 - (intOf i).toNat)
  case atStart => exact ⟨0, by omega, rfl, V0.out.below L1.out, V1.out, sq L0.out L1.out⟩
  case round =>
    obtain ⟨k, hk, rfl, hv0, hv1, hb⟩ := hrel
    have hb1' : w.heap.size ≤ b1 := by have := L0.out.size; omega
    have hne : ¬ b0 = b1 := by have := V0.out.lt; omega
    have HGr : Hid (I.Given wr ao 4 cap [x0, x1, x2, x3]) := HG.out.below hb
    have W0 := hid hv0
    have W1 := hid hv1
    have LB := hid hb
    clear hv0 hv1 hb
    have h4 : k = 0 ∨ k = 1 ∨ k = 2 ∨ k = 3 ∨ k = 4 := by omega
    rcases h4 with rfl | rfl | rfl | rfl | rfl
    · have G1 : Hid (QV wr b1 0 0 0 0) := W1.out
      obtain ⟨b, o, rfl, hc⟩ := HGr.out.cell 0 (by omega)
      have hc' : wr.cell? ⟨b, o, none⟩ = some (.int .i64 x0) := hc
      clear W1 hc
      go_wp2_with (first | (have kill := G1.out; refine st3 0 (by omega) (y0 := x0) (y1 := 0) (y2 := 0) (y3 := 0) G1.out rfl rfl _ _ rfl rfl rfl ?_; intro w5 v5 t5; have V5 := hid v5; have T5 := hid t5; clear v5 t5 kill G1))
      go_roundw
      case rel => exact ⟨0 + 1, by omega, by go_num, W0.out.kept (T5.out.block _ W0.out.lt hne), V5.out, LB.out.trans (T5.out.below (fun k e => by subst e; exact hb1') LB.out.size)⟩
      case measure => simp [intOf]
    · have G1 : Hid (QV wr b1 x0 0 0 0) := W1.out
      obtain ⟨b, o, rfl, hc⟩ := HGr.out.cell 1 (by omega)
      have hc' : wr.cell? ⟨b, o + 1, none⟩ = some (.int .i64 x1) := hc
      clear W1 hc
      go_wp2_with (first | (have kill := G1.out; refine st3 1 (by omega) (y0 := x0) (y1 := x1) (y2 := 0) (y3 := 0) G1.out rfl rfl _ _ rfl rfl rfl ?_; intro w5 v5 t5; have V5 := hid v5; have T5 := hid t5; clear v5 t5 kill G1))
      go_roundw
      case rel => exact ⟨1 + 1, by omega, by go_num, W0.out.kept (T5.out.block _ W0.out.lt hne), V5.out, LB.out.trans (T5.out.below (fun k e => by subst e; exact hb1') LB.out.size)⟩
      case measure => simp [intOf]
    · have G1 : Hid (QV wr b1 x0 x1 0 0) := W1.out
      obtain ⟨b, o, rfl, hc⟩ := HGr.out.cell 2 (by omega)
      have hc' : wr.cell? ⟨b, o + 2, none⟩ = some (.int .i64 x2) := hc
      clear W1 hc
      go_wp2_with (first | (have kill := G1.out; refine st3 2 (by omega) (y0 := x0) (y1 := x1) (y2 := x2) (y3 := 0) G1.out rfl rfl _ _ rfl rfl rfl ?_; intro w5 v5 t5; have V5 := hid v5; have T5 := hid t5; clear v5 t5 kill G1))
      go_roundw
      case rel => exact ⟨2 + 1, by omega, by go_num, W0.out.kept (T5.out.block _ W0.out.lt hne), V5.out, LB.out.trans (T5.out.below (fun k e => by subst e; exact hb1') LB.out.size)⟩
      case measure => simp [intOf]
    · have G1 : Hid (QV wr b1 x0 x1 x2 0) := W1.out
      obtain ⟨b, o, rfl, hc⟩ := HGr.out.cell 3 (by omega)
      have hc' : wr.cell? ⟨b, o + 3, none⟩ = some (.int .i64 x3) := hc
      clear W1 hc
      go_wp2_with (first | (have kill := G1.out; refine st3 3 (by omega) (y0 := x0) (y1 := x1) (y2 := x2) (y3 := x3) G1.out rfl rfl _ _ rfl rfl rfl ?_; intro w5 v5 t5; have V5 := hid v5; have T5 := hid t5; clear v5 t5 kill G1))
      go_roundw
      case rel => exact ⟨3 + 1, by omega, by go_num, W0.out.kept (T5.out.block _ W0.out.lt hne), V5.out, LB.out.trans (T5.out.below (fun k e => by subst e; exact hb1') LB.out.size)⟩
      case measure => simp [intOf]
    · have G1 : Hid (QV wr b1 x0 x1 x2 x3) := W1.out
      clear W1
      go_wp2_with (first | (have kill := G1.out; refine ld25 G1.out rfl _ rfl rfl ?_) | (have kill := G1.out; refine st25 W0.out rfl _ _ rfl rfl rfl ?_; intro w5 v5 t5; have V5 := hid v5; have T5 := hid t5; clear v5 t5))
      refine bodyPost_ret (results_q Tryd.results52 _ _ rfl V5.out) rfl ⟨rfl, LB.out.trans (T5.out.below (fun k e => by subst e; exact hb0) LB.out.size)⟩
end Go.Proofs.YtbipikbefokihaaDoor
