/- JournalTwice: opening again tells the same, crash or not, and a record that isn't right changes nothing; for every input. -/
import Derived.Test.YthhgnflkplpklaaJKnown
import Derived.Test.YthhgnflkplpklaaROpenR
import Derived.Deep.Cut
namespace Go.Proofs.Ythhgnflkplpklaa
set_option maxRecDepth 20000
open Go.ChangeShapes Go.WideShapes Go.ChangeAt Go.RowKit
open Dsc (Dk Sec Dat Feet tc hid sq bel1 newD reopD cutD)
open Frm (Rc putL rightB bytesL num Given Mk Row RowAt RV al29 st29 ld29 seatR open_rec)
/-- Flags that came in. -/
def InF (W : World) (a : Option Addr) (len _cap : Nat) (l : List Bool) : Prop := Dsc.InF W a len l
theorem open_inF {H : Type} {enc : TypeId × Value → H} {W : World} {n : Nat} {v : Value} {d : DataW H} {p : List MemPlace} (h : DataW.trod enc Try.prog W 0 (fun _ => true) true n 32 [v] = some (d, p)) : ∃ a len cap l, v = .slice a len cap ∧ InF W a len cap l := Dsc.open_inF h
theorem open_up {w0 w : World} {p : Nat} {d : Dk} {l : List Rc} (j : JD w0 w p d) (hd : d.down = false) (hw : d.waits = []) (H : ∃ c a b, Holds d.secs c a b l) (n : Nat) (hn : l.length = n) :
    Calls Try.prog 11 #[.pointer (some ⟨p, 0, none⟩)] w fun e w' => ∃ q ao cap h, e = .returned (.tuple #[.pointer (some ⟨q, 0, none⟩), .slice ao n cap, .int .i64 0]) ∧ JS w0 w' p q d h l ∧ RG w' ao n cap l ∧ Below w.heap.size w w' := by
  subst hn
  obtain ⟨c, a, b, H⟩ := H
  exact open_any j hd hw H
theorem bxB {ops : Array Oper} {rest : List Oper} {op : Oper} {a : Act} {w : World} {Q : Exit → Act → World → Prop} {r : Rc} (hgd : op.guard = none) (x : Operand) (ho : op.op = .box 50 x) (hx : a.eval x = r.val)
    (h : ∀ b w', RB w' b r → Below w.heap.size w w' → wpList Try.prog ops Q rest (a.put op.dst (.pointer (some ⟨b, 0, none⟩))) w') : wpList Try.prog ops Q (op :: rest) a w :=
  wpList_plain hgd fun K hK => by
    unfold Oper.wp execOp
    simp only [ho, hx]
    simp [Instr.box, newVar, newRow, go_sem, Rc.val, Value.cells]
    exact hK _ _ (h _ _ (heap_alloc_new w (.cells r.cells.toArray 50)) (bel1 _ _))
theorem bs2_step {op : Oper} {a : Act} {w : World} {K : Act → World → Prop} {Q : Exit → Act → World → Prop} {r s : Rc} (x y : Operand) (ho : op.op = .buildSlice 28 2 #[(0, x), (1, y)]) (hx : a.eval x = r.val) (hy : a.eval y = s.val)
    (h : ∀ ao w', RG w' ao 2 2 [r, s] → Below w.heap.size w w' → K (a.put op.dst (.slice ao 2 2)) w') : op.wp Try.prog a w K Q := by
  obtain ⟨i, hi, hz0, hz1, hz2⟩ := info_parts info50
  refine wp_buildSlice 28 50 2 _ ho (flR [r, s]).toArray i _ Try.underlying28 hi hz0 (by rw [hz1]; decide) (by rw [hz1]; decide) ?_ (h _ _ (new_rg w [r, s] 2 rfl (by omega)) (bel1 _ _))
  have := Great.fill_whole (s := 17) (by decide) [r.val, s.val] ((Array.range (2 * i.size)).map (Rc.zero.val.cells[· % Rc.zero.val.cells.size]!))
    (by intro v hv; simp at hv; rcases hv with hv | hv <;> subst hv <;> simp [Rc.val, Value.cells, Rc.len]) (by simp [hz1])
  rw [hz1] at this ⊢
  simpa [hx, hy, Value.cells, Rc.val, flR] using this
set_option maxHeartbeats 8000000 in
theorem twice_walk (a0 a1 : Int) (x2 : Option Addr) (y2 z2 : Nat) (bs2 : List Bool) (a3 : Int) (R : Rc) (w : World) (b0 : 0 ≤ a0 ∧ a0 < 256) (b1 : 0 ≤ a1 ∧ a1 < 256) (i2 : InF w x2 y2 z2 bs2) (_b3 : -9223372036854775808 ≤ a3 ∧ a3 ≤ 9223372036854775807) (ok4 : R.Ok) (sz4 : R.pan.size ≤ maxLen) :
    Calls Try.prog 5 #[.int .u8 a0, .int .u8 a1, .slice x2 y2 z2, .int .i64 a3, R.val] w fun e w' => e = .returned (.bool true) ∧ Below w.heap.size w w' := by
  have I : Hid (Dsc.InF w x2 y2 bs2) := i2
  have hsz := hid sz4
  have hok := hid ok4
  clear i2 sz4 ok4
  by_cases hkeep : 40 < y2
  · have gk : decide ((40 : Int) < (y2 : Int)) = true := by simp; omega
    go_enter Try.func5, Try.ntmps5
    go_wp2_with (first | (go_at_call 9; refine (known_any _).mono ?_; rintro e w1 ⟨rfl, k1'⟩; have K1 := hid (sq K0.out k1'); have B1 := hid (B0.out.below k1'); have c3 := (B1.out.rv).recAt.c3; clear k1') | (refine bxB (r := R) rfl _ rfl rfl ?_; intro bx wb b0' k0'; have B0 := hid b0'; have K0 := hid k0'; clear b0' k0'))
    go_ret
    exact ⟨rfl, K1.out⟩
  have gk : decide ((40 : Int) < (y2 : Int)) = false := by simp; omega
  by_cases hpan : 60 < R.pan.size
  · have gp : decide ((60 : Int) < (R.pan.size : Int)) = true := by simp; omega
    go_enter Try.func5, Try.ntmps5
    go_wp2_with (first | (go_at_call 9; refine (known_any _).mono ?_; rintro e w1 ⟨rfl, k1'⟩; have K1 := hid (sq K0.out k1'); have B1 := hid (B0.out.below k1'); have c3 := (B1.out.rv).recAt.c3; clear k1') | (refine bxB (r := R) rfl _ rfl rfl ?_; intro bx wb b0' k0'; have B0 := hid b0'; have K0 := hid k0'; clear b0' k0'))
    go_ret
    exact ⟨rfl, K1.out⟩
  have gp : decide ((60 : Int) < (R.pan.size : Int)) = false := by simp; omega
  have e0 := tmod_nat b0.1 20 (by omega)
  have m0 : (a0 % 20).toNat < 20 := by omega
  generalize (a0 % 20).toNat = na at *
  have ga := hid (made_good b1.1 b1.2 (show na ≤ 256 by omega))
  have fa := hid (made_fit b1.1 b1.2 (show na ≤ 256 by omega))
  have la := hid (made_len a1 na)
  cases hR : rightB R with
  | true =>
    have HRB := hid hR
    clear hR
    go_enter Try.func5, Try.ntmps5
    go_upto_region 10 with (first | (go_at_call 19; refine (add_yes J4.out A4.out ga.out (by simp; omega) rfl 200 (by simp [newD]) (by rw [List.nil_append]; have := fa.out; omega)).mono ?_; rintro e w6 ⟨rfl, k6, d6, h6, j6, n6, l6⟩; rw [List.nil_append] at j6; have J6 := hid j6; have A6 := hid (A4.out.kin k6); have B6 := hid (B4.out.kin k6); clear k6 j6 n6 l6) | (go_at_call 12; refine (made_any na a1 _ (by omega) b1.1 b1.2 _ rfl).mono ?_; rintro e w4 ⟨ao4, cap4, rfl, r4, k4⟩; have A4 := hid r4; have J4 := hid (J3.out.more k4); have B4 := hid (B3.out.below k4); clear r4 k4) | (go_at_call 11; refine (open_new J2.out (by omega)).mono ?_; rintro e w3 ⟨q3, ao3, cap3, h3, rfl, j3, g3, k3⟩; have J3 := hid j3; have B3 := hid (B2.out.below k3); clear j3 g3 k3) | (go_at_call 10; refine (new_jd 200 200 rfl K1.out).mono ?_; rintro e w2 ⟨p2, rfl, j2, k2'⟩; have J2 := hid j2; have B2 := hid (B1.out.below k2'); clear j2 k2') | (go_at_call 9; refine (known_any _).mono ?_; rintro e w1 ⟨rfl, k1'⟩; have K1 := hid (sq K0.out k1'); have B1 := hid (B0.out.below k1'); have c3 := (B1.out.rv).recAt.c3; clear k1') | (refine bxB (r := R) rfl _ rfl rfl ?_; intro bx wb b0' k0'; have B0 := hid b0'; have K0 := hid k0'; clear b0' k0'))
    refine wp_region_noPanic ?_
    refine wp_region_held_drew (S := (fun w' : World => w'.rangeAt bx 0 R.cells)) (by kernel_rfl) B6.out.rv.at0 (fun hHeld => ?_)
    refine Dsc.tk_ld 0 (some 51) rfl rfl (by kernel_rfl) (by kernel_rfl) (by kernel_rfl) (fun _ _ _ h => h) (by rfl) 50 _ rfl rfl (fun w h => h) Try.underlying50 rfl Frm.n29 hHeld ?_
    simp only [Act.put, List.setIfInBounds_toArray, List.set_cons_zero, List.set_cons_succ]
    refine wpAnyH_ready (rs := [1]) (by kernel_rfl) (by simp) ?_
    refine AllReadyH.cons rfl (fun K hK => ?_) AllReadyH.nil
    go_simp
    go_at_call 24
    refine (Frm.rightR_any R _ (by have := hsz.out; unfold maxLen at this; omega)).mono ?_
    rintro e w7 ⟨rfl, k7⟩
    rw [HRB.out]
    have K7 := hid (sq (Below.refl _ _).drew k7)
    have B7 := hid (B6.out.below K7.out)
    clear k7
    go_wp2_with fail
    refine hK.out _ _ B7.out.rv.at0 (fun hHeld => ?_)
    clear hK K
    try simp only [Act.put, List.setIfInBounds_toArray, List.set_cons_zero, List.set_cons_succ]
    (refine Dsc.tk_yes (v := ?_) 2 (some 53) rfl rfl (by kernel_rfl) (by kernel_rfl) (by kernel_rfl) (fun _ _ _ h => h) (by rfl) ?_ hHeld ?_; rotate_left; focus (intro w hSw; go_simp; try with_reducible rfl))
    simp only [Act.put, List.setIfInBounds_toArray, List.set_cons_zero, List.set_cons_succ]
    (refine Dsc.tk_yes (v := ?_) 3 (some 54) rfl rfl (by kernel_rfl) (by kernel_rfl) (by kernel_rfl) (fun _ _ _ h => h) (by rfl) ?_ hHeld ?_; rotate_left; focus (intro w hSw; go_simp; try with_reducible rfl))
    simp only [Act.put, List.setIfInBounds_toArray, List.set_cons_zero, List.set_cons_succ]
    refine Frm.tk_no 4 (some 55) rfl rfl (by kernel_rfl) (by kernel_rfl) (by kernel_rfl) (fun _ _ _ h => h) (by rfl) hHeld ?_
    simp only [Act.put, List.setIfInBounds_toArray, List.set_cons_zero, List.set_cons_succ]
    refine Frm.tk_no 5 (some 56) rfl rfl (by kernel_rfl) (by kernel_rfl) (by kernel_rfl) (fun _ _ _ h => h) (by rfl) hHeld ?_
    simp only [Act.put, List.setIfInBounds_toArray, List.set_cons_zero, List.set_cons_succ]
    refine Frm.tk_no 6 (some 57) rfl rfl (by kernel_rfl) (by kernel_rfl) (by kernel_rfl) (fun _ _ _ h => h) (by rfl) hHeld ?_
    simp only [Act.put, List.setIfInBounds_toArray, List.set_cons_zero, List.set_cons_succ]
    refine Frm.tk_no 7 (some 58) rfl rfl (by kernel_rfl) (by kernel_rfl) (by kernel_rfl) (fun _ _ _ h => h) (by rfl) hHeld ?_
    simp only [Act.put, List.setIfInBounds_toArray, List.set_cons_zero, List.set_cons_succ]
    refine Frm.tk_no 8 (some 59) rfl rfl (by kernel_rfl) (by kernel_rfl) (by kernel_rfl) (fun _ _ _ h => h) (by rfl) hHeld ?_
    simp only [Act.put, List.setIfInBounds_toArray, List.set_cons_zero, List.set_cons_succ]
    refine Frm.tk_no 9 (some 60) rfl rfl (by kernel_rfl) (by kernel_rfl) (by kernel_rfl) (fun _ _ _ h => h) (by rfl) hHeld ?_
    simp only [Act.put, List.setIfInBounds_toArray, List.set_cons_zero, List.set_cons_succ]
    (refine Dsc.tk_yes (v := ?_) 10 (some 61) rfl rfl (by kernel_rfl) (by kernel_rfl) (by kernel_rfl) (fun _ _ _ h => h) (by rfl) ?_ hHeld ?_; rotate_left; focus (intro w hSw; go_simp; try with_reducible rfl))
    simp only [Act.put, List.setIfInBounds_toArray, List.set_cons_zero, List.set_cons_succ]
    refine wpAnyH_done (by kernel_rfl) ?_ _
    refine NoPanic.normal ?_
    have J9 := hid (J6.out.more K7.out)
    have A9 := hid (A6.out.below K7.out)
    go_wp2_with (first | (go_at_call 21; refine (recs_eq (G13.out.below (sq K14.out K15.out)) (A13.out.below (sq K14.out K15.out))).mono ?_; rintro e w16 ⟨rfl, k16⟩; have K16 := hid k16; clear k16 G13) | (go_at_call 21; refine (recs_eq (G12.out.below (sq K13.out K14.out)) (A13.out.below K14.out)).mono ?_; rintro e w15 ⟨rfl, k15⟩; have K15 := hid k15; clear k15 G12) | (go_at_call 21; have X := A13.out; refine (recs_eq G13a.out A13.out).mono ?_; rintro e w14 ⟨rfl, k14⟩; have K14 := hid k14; clear k14 X G13a) | (go_at_call 11; refine (open_js J12.out na la.out).mono ?_; rintro e w13 ⟨q13, ao13, cap13, h13, rfl, j13, g13, k13⟩; have G13 := hid g13; have K13 := hid k13; have A13 := hid (A12.out.below k13); have G13a := hid (G12a.out.below k13); clear j13 g13 k13) | (go_at_call 11; refine (open_up J11.out U11.out.1 U11.out.2 H11.out na la.out).mono ?_; rintro e w12 ⟨q12, ao12, cap12, h12, rfl, j12, g12, k12⟩; have J12 := hid j12; have G12 := hid g12; have A12 := hid (A11.out.below k12); have G12a := hid (G11a.out.below k12); clear j12 g12 k12) | (go_at_call 17; refine (reopen_jd J10.out.log.disk J10.out.cut2 I.out a3).mono ?_; rintro e w11 ⟨rfl, k11, d11, l11, j11, u11, v11, l11', n11, o11, h11⟩; rw [or_self] at o11; subst o11; have J11 := hid j11; have U11 := hid (And.intro u11 v11); have H11 := hid h11; have A11 := hid (A10.out.kin k11); have G11a := hid (G10.out.kin k11); clear j11 u11 v11 h11 n11 k11) | (go_at_call 11; refine (open_js J9.out na la.out).mono ?_; rintro e w10 ⟨q10, ao10, cap10, h10, rfl, j10, g10, k10⟩; have G10 := hid g10; have A10 := hid (A9.out.below k10); have J10 := hid (J9.out.more k10); clear j10 g10 k10) | (go_at_call 20; refine (len_js J9.out na la.out).mono ?_; rintro e w9b ⟨rfl, rfl⟩))
    go_ret
    exact ⟨rfl, sq J12.out.log.disk.bel (sq (sq K13.out K14.out) (sq K15.out K16.out))⟩
  | false =>
    have HRB := hid hR
    clear hR
    obtain ⟨X, hX⟩ : ∃ X, seatR 0 0 0 1 = X := ⟨_, rfl⟩
    have HWI : Hid (Wid [X, R]) := by
      unfold Hid; intro r hr; simp at hr
      rcases hr with rfl | rfl
      · rw [← hX]; exact ⟨Frm.seat_ok, by have := (Frm.rt_of (Frm.seat_right (d := 0) (k := 0) (s := 0) (m := 1) (by omega) (by omega) (by omega) (by omega))).size; omega⟩
      · exact ⟨hok.out, by have := hsz.out; unfold maxLen at this; omega⟩
    have HNA : Hid (¬ AllR [X, R]) := by
      unfold Hid; intro h
      have := h R (by simp)
      rw [HRB.out] at this; cases this
    have HX := hid hX
    clear hX
    go_enter Try.func5, Try.ntmps5
    go_upto_region 10 with (first | (go_at_call 19; refine (add_yes J4.out A4.out ga.out (by simp; omega) rfl 200 (by simp [newD]) (by rw [List.nil_append]; have := fa.out; omega)).mono ?_; rintro e w6 ⟨rfl, k6, d6, h6, j6, n6, l6⟩; rw [List.nil_append] at j6; have J6 := hid j6; have A6 := hid (A4.out.kin k6); have B6 := hid (B4.out.kin k6); clear k6 j6 n6 l6) | (go_at_call 12; refine (made_any na a1 _ (by omega) b1.1 b1.2 _ rfl).mono ?_; rintro e w4 ⟨ao4, cap4, rfl, r4, k4⟩; have A4 := hid r4; have J4 := hid (J3.out.more k4); have B4 := hid (B3.out.below k4); clear r4 k4) | (go_at_call 11; refine (open_new J2.out (by omega)).mono ?_; rintro e w3 ⟨q3, ao3, cap3, h3, rfl, j3, g3, k3⟩; have J3 := hid j3; have B3 := hid (B2.out.below k3); clear j3 g3 k3) | (go_at_call 10; refine (new_jd 200 200 rfl K1.out).mono ?_; rintro e w2 ⟨p2, rfl, j2, k2'⟩; have J2 := hid j2; have B2 := hid (B1.out.below k2'); clear j2 k2') | (go_at_call 9; refine (known_any _).mono ?_; rintro e w1 ⟨rfl, k1'⟩; have K1 := hid (sq K0.out k1'); have B1 := hid (B0.out.below k1'); have c3 := (B1.out.rv).recAt.c3; clear k1') | (refine bxB (r := R) rfl _ rfl rfl ?_; intro bx wb b0' k0'; have B0 := hid b0'; have K0 := hid k0'; clear b0' k0'))
    refine wp_region_noPanic ?_
    refine wp_region_held_drew (S := (fun w' : World => w'.rangeAt bx 0 R.cells)) (by kernel_rfl) B6.out.rv.at0 (fun hHeld => ?_)
    refine Dsc.tk_ld 0 (some 51) rfl rfl (by kernel_rfl) (by kernel_rfl) (by kernel_rfl) (fun _ _ _ h => h) (by rfl) 50 _ rfl rfl (fun w h => h) Try.underlying50 rfl Frm.n29 hHeld ?_
    simp only [Act.put, List.setIfInBounds_toArray, List.set_cons_zero, List.set_cons_succ]
    refine wpAnyH_ready (rs := [1]) (by kernel_rfl) (by simp) ?_
    refine AllReadyH.cons rfl (fun K hK => ?_) AllReadyH.nil
    go_simp
    go_at_call 24
    refine (Frm.rightR_any R _ (by have := hsz.out; unfold maxLen at this; omega)).mono ?_
    rintro e w7 ⟨rfl, k7⟩
    rw [HRB.out]
    have K7 := hid (sq (Below.refl _ _).drew k7)
    have B7 := hid (B6.out.below K7.out)
    clear k7
    go_wp2_with fail
    refine hK.out _ _ B7.out.rv.at0 (fun hHeld => ?_)
    clear hK K
    try simp only [Act.put, List.setIfInBounds_toArray, List.set_cons_zero, List.set_cons_succ]
    (refine Dsc.tk_yes (v := ?_) 2 (some 53) rfl rfl (by kernel_rfl) (by kernel_rfl) (by kernel_rfl) (fun _ _ _ h => h) (by rfl) ?_ hHeld ?_; rotate_left; focus (intro w hSw; go_simp; try with_reducible rfl))
    simp only [Act.put, List.setIfInBounds_toArray, List.set_cons_zero, List.set_cons_succ]
    (refine Dsc.tk_yes (v := ?_) 3 (some 54) rfl rfl (by kernel_rfl) (by kernel_rfl) (by kernel_rfl) (fun _ _ _ h => h) (by rfl) ?_ hHeld ?_; rotate_left; focus (intro w hSw; go_simp; try with_reducible rfl))
    simp only [Act.put, List.setIfInBounds_toArray, List.set_cons_zero, List.set_cons_succ]
    (refine Dsc.tk_yes (v := ?_) 4 (some 55) rfl rfl (by kernel_rfl) (by kernel_rfl) (by kernel_rfl) (fun _ _ _ h => h) (by rfl) ?_ hHeld ?_; rotate_left; focus (intro w hSw; go_simp; try with_reducible rfl))
    simp only [Act.put, List.setIfInBounds_toArray, List.set_cons_zero, List.set_cons_succ]
    refine Dsc.tk_ld 6 (some 57) rfl rfl (by kernel_rfl) (by kernel_rfl) (by kernel_rfl) (fun _ _ _ h => h) (by rfl) 50 _ rfl rfl (fun w h => h) Try.underlying50 rfl Frm.n29 hHeld ?_
    simp only [Act.put, List.setIfInBounds_toArray, List.set_cons_zero, List.set_cons_succ]
    refine wpAnyH_ready (rs := [5]) (by kernel_rfl) (by simp) ?_
    refine AllReadyH.cons rfl (fun K hK => ?_) AllReadyH.nil
    go_simp
    go_at_call 25
    refine (Frm.rec9 0 0 0 1 _ (by omega) (by omega) (by omega) (by omega) (by omega) (by omega) (by omega) (by omega)).mono ?_
    rintro e w8 ⟨rfl, k8⟩
    rw [HX.out]
    have K8 := hid (sq K7.out k8)
    have B8 := hid (B7.out.below k8)
    clear k8
    go_wp2_with fail
    refine hK.out _ _ B8.out.rv.at0 (fun hHeld => ?_)
    clear hK K
    try simp only [Act.put, List.setIfInBounds_toArray, List.set_cons_zero, List.set_cons_succ]
    refine wpAnyH_ready (rs := [7]) (by kernel_rfl) (by simp) ?_
    refine AllReadyH.cons rfl (fun K hK => ?_) AllReadyH.nil
    rw [if_pos (by rfl)]
    refine bs2_step (r := X) (s := R) _ _ rfl rfl rfl ?_
    intro ao9 w9x r9 k9
    have R9 := hid r9
    have K9 := hid (sq K8.out k9)
    have B9 := hid (B8.out.below k9)
    clear r9 k9
    refine hK.out _ _ B9.out.rv.at0 (fun hHeld => ?_)
    clear hK K
    try simp only [Act.put, List.setIfInBounds_toArray]
    refine wpAnyH_ready (rs := [8]) (by kernel_rfl) (by simp) ?_
    refine AllReadyH.cons rfl (fun K hK => ?_) AllReadyH.nil
    go_simp
    go_at_call 19
    refine (add_bad (J6.out.more K9.out) R9.out HWI.out HNA.out).mono ?_
    rintro e w10x ⟨rfl, j10x, k10x⟩
    have J10x := hid j10x
    have K10x := hid ((Kin.of K9.out).trans k10x)
    have B10x := hid (B9.out.kin k10x)
    clear j10x k10x
    go_wp2_with fail
    refine hK.out _ _ B10x.out.rv.at0 (fun hHeld => ?_)
    clear hK K
    try simp only [Act.put, List.setIfInBounds_toArray, List.set_cons_zero, List.set_cons_succ]
    (refine Dsc.tk_yes (v := ?_) 9 (some 60) rfl rfl (by kernel_rfl) (by kernel_rfl) (by kernel_rfl) (fun _ _ _ h => h) (by rfl) ?_ hHeld ?_; rotate_left; focus (intro w hSw; go_simp; try with_reducible rfl))
    simp only [Act.put, List.setIfInBounds_toArray, List.set_cons_zero, List.set_cons_succ]
    (refine Dsc.tk_yes (v := ?_) 10 (some 61) rfl rfl (by kernel_rfl) (by kernel_rfl) (by kernel_rfl) (fun _ _ _ h => h) (by rfl) ?_ hHeld ?_; rotate_left; focus (intro w hSw; go_simp; try with_reducible rfl))
    simp only [Act.put, List.setIfInBounds_toArray, List.set_cons_zero, List.set_cons_succ]
    refine wpAnyH_done (by kernel_rfl) ?_ _
    refine NoPanic.normal ?_
    have J9 := J10x
    have A9 := hid (A6.out.kin K10x.out)
    go_wp2_with (first | (go_at_call 21; refine (recs_eq (G13.out.below (sq K14.out K15.out)) (A13.out.below (sq K14.out K15.out))).mono ?_; rintro e w16 ⟨rfl, k16⟩; have K16 := hid k16; clear k16 G13) | (go_at_call 21; refine (recs_eq (G12.out.below (sq K13.out K14.out)) (A13.out.below K14.out)).mono ?_; rintro e w15 ⟨rfl, k15⟩; have K15 := hid k15; clear k15 G12) | (go_at_call 21; have X := A13.out; refine (recs_eq G13a.out A13.out).mono ?_; rintro e w14 ⟨rfl, k14⟩; have K14 := hid k14; clear k14 X G13a) | (go_at_call 11; refine (open_js J12.out na la.out).mono ?_; rintro e w13 ⟨q13, ao13, cap13, h13, rfl, j13, g13, k13⟩; have G13 := hid g13; have K13 := hid k13; have A13 := hid (A12.out.below k13); have G13a := hid (G12a.out.below k13); clear j13 g13 k13) | (go_at_call 11; refine (open_up J11.out U11.out.1 U11.out.2 H11.out na la.out).mono ?_; rintro e w12 ⟨q12, ao12, cap12, h12, rfl, j12, g12, k12⟩; have J12 := hid j12; have G12 := hid g12; have A12 := hid (A11.out.below k12); have G12a := hid (G11a.out.below k12); clear j12 g12 k12) | (go_at_call 17; refine (reopen_jd J10.out.log.disk J10.out.cut2 I.out a3).mono ?_; rintro e w11 ⟨rfl, k11, d11, l11, j11, u11, v11, l11', n11, o11, h11⟩; rw [or_self] at o11; subst o11; have J11 := hid j11; have U11 := hid (And.intro u11 v11); have H11 := hid h11; have A11 := hid (A10.out.kin k11); have G11a := hid (G10.out.kin k11); clear j11 u11 v11 h11 n11 k11) | (go_at_call 11; refine (open_js J9.out na la.out).mono ?_; rintro e w10 ⟨q10, ao10, cap10, h10, rfl, j10, g10, k10⟩; have G10 := hid g10; have A10 := hid (A9.out.below k10); have J10 := hid (J9.out.more k10); clear j10 g10 k10) | (go_at_call 20; refine (len_js J9.out na la.out).mono ?_; rintro e w9b ⟨rfl, rfl⟩))
    go_ret
    exact ⟨rfl, sq J12.out.log.disk.bel (sq (sq K13.out K14.out) (sq K15.out K16.out))⟩
theorem journalTwice_own : ownKnob Try.prog.godebug = none := by kernel_rfl
theorem journalTwice_laid : laidOutB Try.prog = true := by kernel_rfl

set_option maxRecDepth 100000 in
set_option maxHeartbeats 1000000 in
theorem journalTwice_lifted (os : Os) (started : os.Started) (H : Type) (enc : TypeId × Value → H) :
    ReturnsInHanded {} Try.checked os 5 .any (Rows.journalTwiceSpec.pre6 enc Try.prog Try.f5 Rows.journalTwiceRow.domain false) (Rows.journalTwiceSpec.post enc Try.prog Try.f5 false true false false) := by
  refine returnsInHanded_of_change (C := Try.checked) journalTwice_own started (by kernel_rfl) Try.func5
    (ChangeSpec.witness6 (enc := enc) (C := Try.checked) false ⟨#[], #[.int .u8 0, .int .u8 0, .slice none 0 0, .int .i64 0, Rc.zero.val], []⟩ 8 (by kernel_rfl) (by kernel_rfl) (by kernel_rfl) (by kernel_rfl)) ?_
  intro W base args ds gs before hval0 hW hcnd _
  have hval : ∀ (j : Nat) t v, Try.f5.params[j]? = some t → args[j]? = some v → Value.okWide Try.prog W .any base t v := hval0
  have hW' := hW
  obtain ⟨p, q, hA0, hV, rfl, hfz, hnd⟩ := hW
  have hA : DataW.TrodAll enc Try.prog W 0 (fun _ => true) true Try.f5.params.toList args.toList ds p := hA0
  rw [Try.params5] at hA hval
  obtain ⟨v0, vs0, d0, ds0, p0, q0, hargs, rfl, rfl, h0, r0⟩ := trodAll_cons hA
  obtain ⟨v1, vs1, d1, ds1, p1, q1, rfl, rfl, rfl, h1, r1⟩ := trodAll_cons r0
  obtain ⟨v2, vs2, d2, ds2, p2, q2, rfl, rfl, rfl, h2, r2⟩ := trodAll_cons r1
  obtain ⟨v3, vs3, d3, ds3, p3, q3, rfl, rfl, rfl, h3, r3⟩ := trodAll_cons r2
  obtain ⟨v4, vs4, d4, ds4, p4, q4, rfl, rfl, rfl, h4, r4⟩ := trodAll_cons r3
  obtain ⟨rfl, rfl, rfl⟩ := trodAll_nil r4
  obtain rfl : args = #[v0, v1, v2, v3, v4] := by cases args; simp_all
  obtain ⟨rfl, rfl⟩ := trodVars_none hV
  obtain ⟨a0, rfl, rfl, rfl, w0⟩ := open_int Try.underlying5 (hval 0 5 v0 rfl rfl) h0
  obtain ⟨a1, rfl, rfl, rfl, w1⟩ := open_int Try.underlying5 (hval 1 5 v1 rfl rfl) h1
  obtain ⟨x2, y2, z2, rfl⟩ := okWide_slice Try.underlying32 (hval 2 32 v2 rfl rfl)
  have k2 := h2
  have lt2 : ∀ x ∈ p2, x.block < W.heap.size := by obtain ⟨m, hm⟩ := k2; exact DataW.trod_lt m _ _ _ hm
  obtain ⟨a2, len2, cap2, l2, e2, w2⟩ : ∃ a len cap l, Value.slice x2 y2 z2 = .slice a len cap ∧ InF W a len cap l := by
    obtain ⟨fuel, hf⟩ := h2
    exact open_inF hf
  cases e2
  obtain ⟨a3, rfl, rfl, rfl, w3⟩ := open_int Try.underlying3 (hval 3 3 v3 rfl rfl) h3
  have k4 := h4
  have lt4 : ∀ x ∈ p4, x.block < W.heap.size := by obtain ⟨m, hm⟩ := k4; exact DataW.trod_lt m _ _ _ hm
  obtain ⟨rc4, rfl, ok4, sz4⟩ := open_rec (hval 4 50 v4 rfl rfl) h4
  clear hA0 hval0
  refine (twice_walk a0 a1 x2 y2 z2 l2 a3 rc4 W (by have := bounds_u8 w0; omega) (by have := bounds_u8 w1; omega) w2 (by have := bounds_i64 w3; omega) ok4 sz4).mono fun e W' ⟨he, bel⟩ => ?_
  subst he
  exact ⟨_, rfl, _, _, _, [], _, [], hW', trodAll_mk1 (shut_bool Try.underlying4 _), (trodAll_cons_mk (shut_int Try.underlying5 w0) (trodAll_cons_mk (shut_int Try.underlying5 w1) (trodAll_cons_mk (Below.trod journalTwice_laid (by kernel_rfl) (of_decide_eq_true (by kernel_rfl)) k2 bel lt2) (trodAll_cons_mk (shut_int Try.underlying3 w3) (trodAll_cons_mk (Below.trod journalTwice_laid (by kernel_rfl) (of_decide_eq_true (by kernel_rfl)) k4 bel lt4) trodAll_mk0))))), rfl, bel.frame _, fun h => by cases h⟩

theorem journalTwice_over : Rows.journalTwiceRow.holds Try.pinned (OpenSpec.ofChange Rows.journalTwiceSpec) :=
  OpenClaim.holds_of_wide 5 Try.f5 rfl rfl rfl rfl rfl rfl rfl ⟨rfl, rfl, rfl, rfl, rfl⟩ rfl rfl rfl rfl rfl (by kernel_rfl) Try.func5 (by kernel_rfl)
    (of_decide_eq_true (by kernel_rfl)) (by unfold Func.isWrapper; first | (rw [if_pos (by decide +kernel)]; kernel_rfl) | (rw [if_neg (by decide +kernel)]; exact ⟨rfl, rfl⟩))
    (fun os started H enc _ => journalTwice_lifted os started H enc)

/-- The statement. -/
theorem journalTwice_holds : Rows.JournalTwiceSaid := journalTwice_over
#print axioms journalTwice_holds
end Go.Proofs.Ythhgnflkplpklaa
