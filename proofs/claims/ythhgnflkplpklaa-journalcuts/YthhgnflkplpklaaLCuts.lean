/- JournalCuts: wherever the power goes while records are added, all that was answered is there behind the crash, and a beginning of what wasn't; for every input. -/
import Derived.Test.YthhgnflkplpklaaJSub
namespace Go.Proofs.Ythhgnflkplpklaa
set_option maxRecDepth 20000
open Go.ChangeShapes Go.WideShapes Go.ChangeAt Go.RowKit
open Dsc (Dk Sec Dat Feet tc hid sq bel1 newD reopD cutD)
open Frm (Rc putL rightB bytesL num Given Mk Row RowAt RV al29 st29 ld29 seatR)
theorem same_yes (r : Rc) (e : Operand → Value) (x y : Operand) (w : World) {o : Oper} (ho : o.op = .binOp .eql 50 x y 50) (hx : e x = r.val) (hy : e y = r.val) : (execOp e o).run Try.prog w = .ok (.value (.bool true)) w := by
  unfold execOp
  simp only [ho, hx, hy, Sem.run_bind]
  have h := (Frm.bin29 r w).1
  have g := (Frm.eqg29 r r x y w).1
  simp [h, g]
/-- What was read behind the crash. -/
theorem after_cut {la lb lo l9 : List Rc} {z : Int} {na nb nr : Nat} (ha : la.length = na) (hb : lb.length = nb) (hr : l9.length = nr) (o8 : (z = 0 ∧ lo = la ++ lb) ∨ (z = 22 ∧ lo = la)) (o9 : l9 = lo ∨ l9 = la ++ lb) :
    na ≤ nr ∧ la = l9.take na ∧ l9.drop na = lb.take (nr - na) ∧ nr - na ≤ nb ∧ ((z = 0 ∧ nr = na + nb) ∨ z = 22) := by
  have two : l9 = la ∨ l9 = la ++ lb := by
    rcases o9 with rfl | h
    · rcases o8 with ⟨_, h⟩ | ⟨_, h⟩
      · exact .inr h
      · exact .inl h
    · exact .inr h
  have hz : (z = 0 ∧ nr = na + nb) ∨ z = 22 := by
    rcases o8 with ⟨h, h2⟩ | ⟨h, _⟩
    · left; refine ⟨h, ?_⟩
      have : l9 = la ++ lb := by rcases o9 with h3 | h3; exact h3.trans h2; exact h3
      rw [← hr, this, List.length_append, ha, hb]
    · exact .inr h
  subst ha hb hr
  rcases two with rfl | rfl
  · exact ⟨Nat.le_refl _, by simp, by simp, by omega, hz⟩
  · refine ⟨by simp, by simp, ?_, by simp, hz⟩
    rw [List.drop_left, List.length_append, Nat.add_sub_cancel_left, List.take_length]
set_option maxHeartbeats 8000000 in
theorem cuts_walk (a0 a1 a2 : Int) (x3 : Option Addr) (y3 z3 : Nat) (bs3 : List Bool) (a4 a5 : Int) (w : World) (b0 : 0 ≤ a0 ∧ a0 < 256) (b1 : 0 ≤ a1 ∧ a1 < 256) (b2 : 0 ≤ a2 ∧ a2 < 256) (i3 : InF w x3 y3 z3 bs3) (_b4 : -9223372036854775808 ≤ a4 ∧ a4 ≤ 9223372036854775807) (b5 : 0 ≤ a5 ∧ a5 < 256) :
    Calls Try.prog 6 #[.int .u8 a0, .int .u8 a1, .int .u8 a2, .slice x3 y3 z3, .int .i64 a4, .int .u8 a5] w fun e w' => e = .returned (.bool true) ∧ Below w.heap.size w w' := by
  have I : Hid (Dsc.InF w x3 y3 bs3) := i3
  clear i3
  by_cases hkeep : 40 < y3
  · have gk : decide ((40 : Int) < (y3 : Int)) = true := by simp; omega
    go_enter Try.func6, Try.ntmps6
    go_wp2_with (first | (go_at_call 9; refine (known_any _).mono ?_; rintro e w1 ⟨rfl, k1'⟩; have K1 := hid k1'; clear k1'))
    go_ret
    exact ⟨rfl, K1.out⟩
  have hk40 : y3 ≤ 40 := by omega
  have gk : decide ((40 : Int) < (y3 : Int)) = false := by simp; omega
  have e0 := tmod_nat b0.1 12 (by omega)
  have e2 := tmod_nat b2.1 20 (by omega)
  have e5 := tmod_nat b5.1 8 (by omega)
  have m0 : (a0 % 12).toNat < 12 := by omega
  have m2 : (a2 % 20).toNat < 20 := by omega
  have m5 : (a5 % 8).toNat < 8 := by omega
  generalize (a0 % 12).toNat = na at *
  generalize (a2 % 20).toNat = c at *
  generalize (a5 % 8).toNat = nb0 at *
  obtain ⟨k1, hk1⟩ : ∃ k, (a1 + 1) % 256 = k := ⟨_, rfl⟩
  have x1 : IntKind.u8.wrap (a1 + 1) = k1 := by rw [IntKind.wrap_u8]; exact hk1
  have x2 : IntKind.i64.wrap (c : Int) = c := wr64 (by omega)
  have x5 : IntKind.u8.wrap ((nb0 : Int) + 1) = nb0 + 1 := by rw [IntKind.wrap_u8]; omega
  have hk1a : 0 ≤ k1 ∧ k1 < 256 := by omega
  have HK1 := hid hk1
  clear hk1
  have ga := hid (made_good b1.1 b1.2 (show na ≤ 256 by omega))
  have gb := hid (made_good hk1a.1 hk1a.2 (show nb0 + 1 ≤ 256 by omega))
  have fa := hid (made_fit b1.1 b1.2 (show na ≤ 256 by omega))
  have fb := hid (made_fit hk1a.1 hk1a.2 (show nb0 + 1 ≤ 256 by omega))
  have la := hid (made_len a1 na)
  have lb := hid (made_len k1 (nb0 + 1))
  have hgc : Hid (Good [seatR 3 3 3 3]) := by
    unfold Hid; intro r hr; simp at hr; subst hr
    exact ⟨Frm.seat_right (by omega) (by omega) (by omega) (by omega), Frm.seat_ok⟩
  obtain ⟨C, hC⟩ : ∃ C, seatR 3 3 3 3 = C := ⟨_, rfl⟩
  rw [hC] at hgc
  have HC := hid hC
  have fcc : Hid ((frs [C]).length ≤ 61) := by unfold Hid; have := frs_many hgc.out; simpa using this
  clear hC
  go_enter Try.func6, Try.ntmps6
  go_upto_region 14 with (first | (go_at_call 11; refine (open_up J9.out U9.out.1 U9.out.2 H9.out nr HNR.out).mono ?_; rintro e w10 ⟨q10, ao10, cap10, h10, rfl, j10, g10, k10⟩; have J10 := hid j10; have G10 := hid g10; have A10 := hid (A9.out.below k10); have B10 := hid (B9.out.below k10); have cg1 := g10.cap1; have cg2 := g10.cap2; clear j10 g10 k10) | (go_at_call 17; refine (reopen_jd J8.out C8.out I.out a4).mono ?_; rintro e w9 ⟨rfl, k9, d9, l9, j9, u9, v9, l9', n9, o9, h9⟩; have J9 := hid j9; have U9 := hid (And.intro u9 v9); have H9 := hid h9; have O9 := hid o9; have N9 := hid (n9.trans N8.out); have A9 := hid (A8.out.kin k9); have B9 := hid (B8.out.kin k9); obtain ⟨nr, hnr⟩ : ∃ n, l9.length = n := ⟨_, rfl⟩; have HNR := hid hnr; clear hnr j9 u9 v9 h9 o9 n9 k9) | (go_at_call 19; have X := J7.out; refine (add_cut J7.out B7.out gb.out (by rw [la.out]; omega) 300 N7.out (by rw [frs_len_app]; have := fa.out; have := fb.out; omega)).mono ?_; rintro e w8 ⟨z, rfl, k8, d8, lo, j8, n8, c8, o8⟩; have J8 := hid j8; have N8 := hid n8; have C8 := hid c8; have O8 := hid o8; have A8 := hid (A7.out.kin k8); have B8 := hid (B7.out.kin k8); clear j8 n8 c8 o8 k8 X) | (go_at_call 16; refine (cut_jd J6.out.log.disk ((c : Int) + 1) _ rfl (by omega)).mono ?_; rintro e w7 ⟨rfl, l7⟩; obtain ⟨j7, n7⟩ := J6.out.cut l7 (by omega); have J7 := hid j7; have N7 := hid (n7.trans N6.out); have A7 := hid (A6.out.kin l7.2.1); have B7 := hid (B6.out.kin l7.2.1); clear j7 n7 l7) | (go_at_call 19; refine (add_yes J5.out A5.out ga.out (by simp; omega) rfl 300 (by simp [newD]) (by rw [List.nil_append]; have := fa.out; omega)).mono ?_; rintro e w6 ⟨rfl, k6, d6, h6, j6, n6, l6⟩; rw [List.nil_append] at j6; have J6 := hid j6; have N6 := hid n6; have A6 := hid (A5.out.kin k6); have B6 := hid (B5.out.kin k6); clear k6 j6 n6 l6) | (go_at_call 12; have X := A4.out; refine (made_any (nb0 + 1) k1 _ (by omega) hk1a.1 hk1a.2 _ (by omega)).mono ?_; rintro e w5 ⟨ao5, cap5, rfl, r5, k5⟩; have B5 := hid r5; have A5 := hid (A4.out.below k5); have J5 := hid (J3.out.more (sq K4.out k5)); clear r5 k5 X) | (go_at_call 12; refine (made_any na a1 _ (by omega) b1.1 b1.2 _ rfl).mono ?_; rintro e w4 ⟨ao4, cap4, rfl, r4, k4⟩; have A4 := hid r4; have K4 := hid k4; clear r4 k4) | (go_at_call 11; refine (open_new J2.out (by omega)).mono ?_; rintro e w3 ⟨q3, ao3, cap3, h3, rfl, j3, g3, k3⟩; have J3 := hid j3; clear j3 g3 k3) | (go_at_call 10; refine (new_jd 300 300 rfl K1.out).mono ?_; rintro e w2 ⟨p2, rfl, j2, k2'⟩; have J2 := hid j2; clear j2 k2') | (go_at_call 9; refine (known_any _).mono ?_; rintro e w1 ⟨rfl, k1'⟩; have K1 := hid k1'; clear k1'))
  obtain ⟨hle, f1, f2, hle2, hz⟩ := after_cut la.out lb.out HNR.out O8.out O9.out
  obtain ⟨m, hm⟩ : ∃ m, nr - na = m := ⟨_, rfl⟩
  rw [hm] at f2 hle2
  have F1 := hid f1
  have F2 := hid f2
  have HM := hid hm
  have L9 := hid l9'
  have HFL : Hid ((frs l9).length ≤ 61 * nr) := by unfold Hid; have := frs_many J10.out.held.good; rwa [HNR.out] at this
  clear f1 f2 l9'
  rcases hz with ⟨rfl, hnr⟩ | rfl
  · have hnr2 : (nr : Int) = (na : Int) + ((nb0 : Int) + 1) := by omega
    clear hnr
    have T1 := hid (begins_any A10.out G10.out hle F1.out)
    go_upto_region 16 with (first | (go_at_call 22; refine (begins_any RS.out (B10.out.below K11.out) hle2 F2.out).mono ?_; rintro e w12 ⟨rfl, k12⟩; have J12 := hid (J10.out.more (sq K11.out k12)); have G12 := hid (G10.out.below (sq K11.out k12)); clear k12 RS) | (have X := K11.out; refine slRw (G10.out.below K11.out) na hle (m := m) HM.out _ _ rfl (by kernel_rfl) rfl rfl ?_; intro aos caps rs; have RS := hid rs; clear rs X) | (go_at_call 22; refine T1.out.mono ?_; rintro e w11 ⟨rfl, k11⟩; have K11 := hid k11; clear k11 T1))
    clear hnr2
    go_upto_region 20 with (first | (go_at_call 11; refine (open_js J16.out (nr + 1) (by rw [List.length_append, HNR.out]; rfl)).mono ?_; rintro e w17 ⟨q17, ao17, cap17, h17, rfl, j17, g17, k17⟩; have G17 := hid g17; have RR17 := hid (R16.out.below k17); have B17 := hid (B16.out.below k17); have K17 := hid k17; have cs1 := g17.cap1; have cs2 := g17.cap2; clear j17 g17 k17) | (go_at_call 19; refine (add_yes J15.out R15.out hgc.out (by rw [HNR.out]; omega) L9.out 300 N9.out (by rw [frs_len_app]; have := HFL.out; have := fcc.out; omega)).mono ?_; rintro e w16 ⟨rfl, k16, d16, h16, j16, n16, l16⟩; have J16 := hid j16; have R16 := hid (R15b.out.kin k16); have B16 := hid (B15.out.kin k16); clear k16 j16 n16 l16) | (refine bsR (r := C) rfl _ rfl rfl ?_; intro ao15 w15 r15 k15; have R15 := hid r15; have J15 := hid (J14.out.more k15); have B15 := hid (B14.out.below k15); have R15b := hid (RR14.out.below k15); clear r15 k15) | (refine ld29 B14.out.rv rfl _ rfl rfl ?_) | (refine stB (r := C) (w0 := w12) Z13.out (sq KX.out Y13.out) (by have := KX.out.size; omega) rfl _ _ rfl rfl rfl ?_; intro w14 b14 l14; have B14 := hid b14; have J14 := hid (J12.out.more l14); have RR14 := hid (G12.out.below l14); clear b14 l14) | (refine alB rfl rfl ?_; intro bb wz hbb z13 y13; have Z13 := hid z13; have Y13 := hid y13; clear z13 y13) | (go_at_call 25; refine (Frm.rec9 3 3 3 3 _ (by omega) (by omega) (by omega) (by omega) (by omega) (by omega) (by omega) (by omega)).mono ?_; rintro e wx ⟨rfl, kx⟩; rw [HC.out]; have KX := hid kx; clear kx))
    have xw : IntKind.i64.wrap ((nr : Int) + 1) = nr + 1 := wr64 (by omega)
    have HBE : Hid (l9 = (l9 ++ [C]).take nr) := by unfold Hid; rw [← HNR.out, List.take_left]
    obtain ⟨bs, os, rfl, sr⟩ := G17.out.at (i := nr) (r := C) (by rw [List.getElem?_append_right (by rw [HNR.out]; exact Nat.le_refl _), HNR.out, Nat.sub_self]; rfl)
    have SR := hid sr
    have SLT := hid (World.block_lt_of_cell? _ _ (sr 0 _ rfl))
    clear sr
    refine wp_region_noPanic ?_
    refine wp_region_held_drew (S := (fun w' : World => w'.rangeAt bs (os + nr * 17) C.cells ∧ w'.rangeAt bb 0 C.cells)) (by kernel_rfl) ⟨SR.out, B17.out.rv.at0⟩ (fun hHeld => ?_)
    (refine Dsc.tk_yes (v := ?_) 0 (some 127) rfl rfl (by kernel_rfl) (by kernel_rfl) (by kernel_rfl) (fun _ _ _ h => h) (by rfl) ?_ hHeld ?_; rotate_left; focus (intro w hSw; go_simp; try with_reducible rfl))
    simp only [Act.put, List.setIfInBounds_toArray, List.set_cons_zero, List.set_cons_succ]
    (refine Dsc.tk_yes (v := ?_) 1 (some 128) rfl rfl (by kernel_rfl) (by kernel_rfl) (by kernel_rfl) (fun _ _ _ h => h) (by rfl) ?_ hHeld ?_; rotate_left; focus (intro w hSw; go_simp; try with_reducible rfl))
    simp only [Act.put, List.setIfInBounds_toArray, List.set_cons_zero, List.set_cons_succ]
    (refine Dsc.tk_yes (v := ?_) 2 (some 129) rfl rfl (by kernel_rfl) (by kernel_rfl) (by kernel_rfl) (fun _ _ _ h => h) (by rfl) ?_ hHeld ?_; rotate_left; focus (intro w hSw; go_simp; try with_reducible rfl))
    simp only [Act.put, List.setIfInBounds_toArray, List.set_cons_zero, List.set_cons_succ]
    (refine Dsc.tk_yes (v := ?_) 3 (some 130) rfl rfl (by kernel_rfl) (by kernel_rfl) (by kernel_rfl) (fun _ _ _ h => h) (by rfl) ?_ hHeld ?_; rotate_left; focus (intro w hSw; go_simp; try with_reducible rfl))
    simp only [Act.put, List.setIfInBounds_toArray, List.set_cons_zero, List.set_cons_succ]
    (refine Dsc.tk_yes (v := ?_) 5 (some 132) rfl rfl (by kernel_rfl) (by kernel_rfl) (by kernel_rfl) (fun _ _ _ h => h) (by rfl) ?_ hHeld ?_; rotate_left; focus (intro w hSw; go_simp; try with_reducible rfl))
    simp only [Act.put, List.setIfInBounds_toArray, List.set_cons_zero, List.set_cons_succ]
    (refine Dsc.tk_yes (v := ?_) 4 (some 131) rfl rfl (by kernel_rfl) (by kernel_rfl) (by kernel_rfl) (fun _ _ _ h => h) (by rfl) ?_ hHeld ?_; rotate_left; focus (intro w hSw; go_simp; try with_reducible rfl))
    simp only [Act.put, List.setIfInBounds_toArray, List.set_cons_zero, List.set_cons_succ]
    (refine Dsc.tk_yes (v := ?_) 6 (some 133) rfl rfl (by kernel_rfl) (by kernel_rfl) (by kernel_rfl) (fun _ _ _ h => h) (by rfl) ?_ hHeld ?_; rotate_left; focus (intro w hSw; go_simp; try with_reducible rfl))
    simp only [Act.put, List.setIfInBounds_toArray, List.set_cons_zero, List.set_cons_succ]
    (refine Dsc.tk_yes (v := ?_) 7 (some 134) rfl rfl (by kernel_rfl) (by kernel_rfl) (by kernel_rfl) (fun _ _ _ h => h) (by rfl) ?_ hHeld ?_; rotate_left; focus (intro w hSw; go_simp; try with_reducible rfl))
    simp only [Act.put, List.setIfInBounds_toArray, List.set_cons_zero, List.set_cons_succ]
    (refine Dsc.tk_yes (v := .bool true) 8 (some 135) rfl rfl (by kernel_rfl) (by kernel_rfl) (by kernel_rfl) (fun _ _ _ h => h) (by rfl) ?_ hHeld ?_; focus (intro w hSw; go_simp; try omega))
    simp only [Act.put, List.setIfInBounds_toArray, List.set_cons_zero, List.set_cons_succ]
    (refine Dsc.tk_yes (v := ?_) 9 (some 136) rfl rfl (by kernel_rfl) (by kernel_rfl) (by kernel_rfl) (fun _ _ _ h => h) (by rfl) ?_ hHeld ?_; rotate_left; focus (intro w hSw; go_simp; try with_reducible rfl))
    simp only [Act.put, List.setIfInBounds_toArray, List.set_cons_zero, List.set_cons_succ]
    (refine Dsc.tk_yes (v := ?_) 10 (some 137) rfl rfl (by kernel_rfl) (by kernel_rfl) (by kernel_rfl) (fun _ _ _ h => h) (by rfl) ?_ hHeld ?_; rotate_left; focus (intro w hSw; go_simp; try with_reducible rfl))
    simp only [Act.put, List.setIfInBounds_toArray, List.set_cons_zero, List.set_cons_succ]
    (refine Dsc.tk_yes (v := ?_) 11 (some 138) rfl rfl (by kernel_rfl) (by kernel_rfl) (by kernel_rfl) (fun _ _ _ h => h) (by rfl) ?_ hHeld ?_; rotate_left; focus (intro w hSw; go_simp; try with_reducible rfl))
    simp only [Act.put, List.setIfInBounds_toArray, List.set_cons_zero, List.set_cons_succ]
    (refine Dsc.tk_yes (v := ?_) 12 (some 139) rfl rfl (by kernel_rfl) (by kernel_rfl) (by kernel_rfl) (fun _ _ _ h => h) (by rfl) ?_ hHeld ?_; rotate_left; focus (intro w hSw; go_simp; try with_reducible rfl))
    simp only [Act.put, List.setIfInBounds_toArray, List.set_cons_zero, List.set_cons_succ]
    refine wpAnyH_ready (rs := [13]) (by kernel_rfl) (by simp) ?_
    refine AllReadyH.cons rfl (fun K hK => ?_) AllReadyH.nil
    go_simp
    go_at_call 22
    refine (begins_any (RR17.out.below (Below.refl _ _).drew) (G17.out.below (Below.refl _ _).drew) (by omega) HBE.out).mono ?_
    rintro e w18 ⟨rfl, k18⟩
    have SR18 := hid (Frm.range_kept SR.out (k18.block bs SLT.out))
    have B18 := hid ((B17.out.below (Below.refl _ _).drew).below k18)
    have K18 := hid k18
    clear k18
    go_wp2_with fail
    refine hK.out _ _ ⟨SR18.out, B18.out.rv.at0⟩ (fun hHeld => ?_)
    clear hK K
    try simp only [Act.put, List.setIfInBounds_toArray, List.set_cons_zero, List.set_cons_succ]
    (refine Dsc.tk_yes (v := ?_) 14 (some 141) rfl rfl (by kernel_rfl) (by kernel_rfl) (by kernel_rfl) (fun _ _ _ h => h) (by rfl) ?_ hHeld ?_; rotate_left; focus (intro w hSw; go_simp; try with_reducible rfl))
    simp only [Act.put, List.setIfInBounds_toArray, List.set_cons_zero, List.set_cons_succ]
    (refine Dsc.tk_yes (v := ?_) 15 (some 142) rfl rfl (by kernel_rfl) (by kernel_rfl) (by kernel_rfl) (fun _ _ _ h => h) (by rfl) ?_ hHeld ?_; rotate_left; focus (intro w hSw; go_simp; try with_reducible rfl))
    simp only [Act.put, List.setIfInBounds_toArray, List.set_cons_zero, List.set_cons_succ]
    (refine Dsc.tk_yes (v := ?_) 16 (some 143) rfl rfl (by kernel_rfl) (by kernel_rfl) (by kernel_rfl) (fun _ _ _ h => h) (by rfl) ?_ hHeld ?_; rotate_left; focus (intro w hSw; go_simp; try with_reducible rfl))
    simp only [Act.put, List.setIfInBounds_toArray, List.set_cons_zero, List.set_cons_succ]
    (refine Dsc.tk_yes (v := ?_) 17 (some 144) rfl rfl (by kernel_rfl) (by kernel_rfl) (by kernel_rfl) (fun _ _ _ h => h) (by rfl) ?_ hHeld ?_; rotate_left; focus (intro w hSw; go_simp; try with_reducible rfl))
    simp only [Act.put, List.setIfInBounds_toArray, List.set_cons_zero, List.set_cons_succ]
    (refine Dsc.tk_yes (v := ?_) 18 (some 145) rfl rfl (by kernel_rfl) (by kernel_rfl) (by kernel_rfl) (fun _ _ _ h => h) (by rfl) ?_ hHeld ?_; rotate_left; focus (intro w hSw; go_simp; try with_reducible rfl))
    simp only [Act.put, List.setIfInBounds_toArray, List.set_cons_zero, List.set_cons_succ]
    (refine Dsc.tk_yes (v := .pointer (some ⟨bs, os + nr * 17, none⟩)) 19 (some 146) rfl rfl (by kernel_rfl) (by kernel_rfl) (by kernel_rfl) (fun _ _ _ h => h) (by rfl) ?_ hHeld ?_; focus (intro w hSw; go_simp; try omega))
    simp only [Act.put, List.setIfInBounds_toArray, List.set_cons_zero, List.set_cons_succ]
    refine Dsc.tk_ld 20 (some 147) rfl rfl (by kernel_rfl) (by kernel_rfl) (by kernel_rfl) (fun _ _ _ h => h) (by rfl) 50 _ rfl rfl (fun w h => h.1) Try.underlying50 rfl Frm.n29 hHeld ?_
    simp only [Act.put, List.setIfInBounds_toArray, List.set_cons_zero, List.set_cons_succ]
    refine Dsc.tk_ld 21 (some 148) rfl rfl (by kernel_rfl) (by kernel_rfl) (by kernel_rfl) (fun _ _ _ h => h) (by rfl) 50 _ rfl rfl (fun w h => h.2) Try.underlying50 rfl Frm.n29 hHeld ?_
    simp only [Act.put, List.setIfInBounds_toArray, List.set_cons_zero, List.set_cons_succ]
    (refine Dsc.tk_yes (v := .bool true) 22 (some 149) rfl rfl (by kernel_rfl) (by kernel_rfl) (by kernel_rfl) (fun _ _ _ h => h) (by rfl) ?_ hHeld ?_; focus (intro w hSw; exact same_yes C _ _ _ w rfl rfl rfl))
    simp only [Act.put, List.setIfInBounds_toArray, List.set_cons_zero, List.set_cons_succ]
    (refine Dsc.tk_yes (v := ?_) 23 (some 150) rfl rfl (by kernel_rfl) (by kernel_rfl) (by kernel_rfl) (fun _ _ _ h => h) (by rfl) ?_ hHeld ?_; rotate_left; focus (intro w hSw; go_simp; try with_reducible rfl))
    simp only [Act.put, List.setIfInBounds_toArray, List.set_cons_zero, List.set_cons_succ]
    (refine Dsc.tk_yes (v := ?_) 24 (some 12) rfl rfl (by kernel_rfl) (by kernel_rfl) (by kernel_rfl) (fun _ _ _ h => h) (by rfl) ?_ hHeld ?_; rotate_left; focus (intro w hSw; go_simp; try with_reducible rfl))
    simp only [Act.put, List.setIfInBounds_toArray, List.set_cons_zero, List.set_cons_succ]
    refine wpAnyH_done (by kernel_rfl) ?_ _
    refine NoPanic.normal ?_
    go_wp2
    go_ret
    exact ⟨rfl, sq (sq J16.out.log.disk.bel K17.out) (sq (Below.refl _ _).drew K18.out)⟩
  · 
    have T1 := hid (begins_any A10.out G10.out hle F1.out)
    go_upto_region 16 with (first | (go_at_call 22; refine (begins_any RS.out (B10.out.below K11.out) hle2 F2.out).mono ?_; rintro e w12 ⟨rfl, k12⟩; have J12 := hid (J10.out.more (sq K11.out k12)); have G12 := hid (G10.out.below (sq K11.out k12)); clear k12 RS) | (have X := K11.out; refine slRw (G10.out.below K11.out) na hle (m := m) HM.out _ _ rfl (by kernel_rfl) rfl rfl ?_; intro aos caps rs; have RS := hid rs; clear rs X) | (go_at_call 22; refine T1.out.mono ?_; rintro e w11 ⟨rfl, k11⟩; have K11 := hid k11; clear k11 T1))
    skip
    go_upto_region 20 with (first | (go_at_call 11; refine (open_js J16.out (nr + 1) (by rw [List.length_append, HNR.out]; rfl)).mono ?_; rintro e w17 ⟨q17, ao17, cap17, h17, rfl, j17, g17, k17⟩; have G17 := hid g17; have RR17 := hid (R16.out.below k17); have B17 := hid (B16.out.below k17); have K17 := hid k17; have cs1 := g17.cap1; have cs2 := g17.cap2; clear j17 g17 k17) | (go_at_call 19; refine (add_yes J15.out R15.out hgc.out (by rw [HNR.out]; omega) L9.out 300 N9.out (by rw [frs_len_app]; have := HFL.out; have := fcc.out; omega)).mono ?_; rintro e w16 ⟨rfl, k16, d16, h16, j16, n16, l16⟩; have J16 := hid j16; have R16 := hid (R15b.out.kin k16); have B16 := hid (B15.out.kin k16); clear k16 j16 n16 l16) | (refine bsR (r := C) rfl _ rfl rfl ?_; intro ao15 w15 r15 k15; have R15 := hid r15; have J15 := hid (J14.out.more k15); have B15 := hid (B14.out.below k15); have R15b := hid (RR14.out.below k15); clear r15 k15) | (refine ld29 B14.out.rv rfl _ rfl rfl ?_) | (refine stB (r := C) (w0 := w12) Z13.out (sq KX.out Y13.out) (by have := KX.out.size; omega) rfl _ _ rfl rfl rfl ?_; intro w14 b14 l14; have B14 := hid b14; have J14 := hid (J12.out.more l14); have RR14 := hid (G12.out.below l14); clear b14 l14) | (refine alB rfl rfl ?_; intro bb wz hbb z13 y13; have Z13 := hid z13; have Y13 := hid y13; clear z13 y13) | (go_at_call 25; refine (Frm.rec9 3 3 3 3 _ (by omega) (by omega) (by omega) (by omega) (by omega) (by omega) (by omega) (by omega)).mono ?_; rintro e wx ⟨rfl, kx⟩; rw [HC.out]; have KX := hid kx; clear kx))
    have xw : IntKind.i64.wrap ((nr : Int) + 1) = nr + 1 := wr64 (by omega)
    have HBE : Hid (l9 = (l9 ++ [C]).take nr) := by unfold Hid; rw [← HNR.out, List.take_left]
    obtain ⟨bs, os, rfl, sr⟩ := G17.out.at (i := nr) (r := C) (by rw [List.getElem?_append_right (by rw [HNR.out]; exact Nat.le_refl _), HNR.out, Nat.sub_self]; rfl)
    have SR := hid sr
    have SLT := hid (World.block_lt_of_cell? _ _ (sr 0 _ rfl))
    clear sr
    refine wp_region_noPanic ?_
    refine wp_region_held_drew (S := (fun w' : World => w'.rangeAt bs (os + nr * 17) C.cells ∧ w'.rangeAt bb 0 C.cells)) (by kernel_rfl) ⟨SR.out, B17.out.rv.at0⟩ (fun hHeld => ?_)
    (refine Dsc.tk_yes (v := ?_) 0 (some 127) rfl rfl (by kernel_rfl) (by kernel_rfl) (by kernel_rfl) (fun _ _ _ h => h) (by rfl) ?_ hHeld ?_; rotate_left; focus (intro w hSw; go_simp; try with_reducible rfl))
    simp only [Act.put, List.setIfInBounds_toArray, List.set_cons_zero, List.set_cons_succ]
    (refine Dsc.tk_yes (v := ?_) 1 (some 128) rfl rfl (by kernel_rfl) (by kernel_rfl) (by kernel_rfl) (fun _ _ _ h => h) (by rfl) ?_ hHeld ?_; rotate_left; focus (intro w hSw; go_simp; try with_reducible rfl))
    simp only [Act.put, List.setIfInBounds_toArray, List.set_cons_zero, List.set_cons_succ]
    (refine Dsc.tk_yes (v := ?_) 2 (some 129) rfl rfl (by kernel_rfl) (by kernel_rfl) (by kernel_rfl) (fun _ _ _ h => h) (by rfl) ?_ hHeld ?_; rotate_left; focus (intro w hSw; go_simp; try with_reducible rfl))
    simp only [Act.put, List.setIfInBounds_toArray, List.set_cons_zero, List.set_cons_succ]
    (refine Dsc.tk_yes (v := ?_) 3 (some 130) rfl rfl (by kernel_rfl) (by kernel_rfl) (by kernel_rfl) (fun _ _ _ h => h) (by rfl) ?_ hHeld ?_; rotate_left; focus (intro w hSw; go_simp; try with_reducible rfl))
    simp only [Act.put, List.setIfInBounds_toArray, List.set_cons_zero, List.set_cons_succ]
    (refine Dsc.tk_yes (v := ?_) 5 (some 132) rfl rfl (by kernel_rfl) (by kernel_rfl) (by kernel_rfl) (fun _ _ _ h => h) (by rfl) ?_ hHeld ?_; rotate_left; focus (intro w hSw; go_simp; try with_reducible rfl))
    simp only [Act.put, List.setIfInBounds_toArray, List.set_cons_zero, List.set_cons_succ]
    (refine Dsc.tk_yes (v := ?_) 4 (some 131) rfl rfl (by kernel_rfl) (by kernel_rfl) (by kernel_rfl) (fun _ _ _ h => h) (by rfl) ?_ hHeld ?_; rotate_left; focus (intro w hSw; go_simp; try with_reducible rfl))
    simp only [Act.put, List.setIfInBounds_toArray, List.set_cons_zero, List.set_cons_succ]
    (refine Dsc.tk_yes (v := ?_) 6 (some 133) rfl rfl (by kernel_rfl) (by kernel_rfl) (by kernel_rfl) (fun _ _ _ h => h) (by rfl) ?_ hHeld ?_; rotate_left; focus (intro w hSw; go_simp; try with_reducible rfl))
    simp only [Act.put, List.setIfInBounds_toArray, List.set_cons_zero, List.set_cons_succ]
    (refine Dsc.tk_yes (v := ?_) 7 (some 134) rfl rfl (by kernel_rfl) (by kernel_rfl) (by kernel_rfl) (fun _ _ _ h => h) (by rfl) ?_ hHeld ?_; rotate_left; focus (intro w hSw; go_simp; try with_reducible rfl))
    simp only [Act.put, List.setIfInBounds_toArray, List.set_cons_zero, List.set_cons_succ]
    (refine Dsc.tk_yes (v := .bool true) 8 (some 135) rfl rfl (by kernel_rfl) (by kernel_rfl) (by kernel_rfl) (fun _ _ _ h => h) (by rfl) ?_ hHeld ?_; focus (intro w hSw; go_simp; try omega))
    simp only [Act.put, List.setIfInBounds_toArray, List.set_cons_zero, List.set_cons_succ]
    (refine Dsc.tk_yes (v := ?_) 9 (some 136) rfl rfl (by kernel_rfl) (by kernel_rfl) (by kernel_rfl) (fun _ _ _ h => h) (by rfl) ?_ hHeld ?_; rotate_left; focus (intro w hSw; go_simp; try with_reducible rfl))
    simp only [Act.put, List.setIfInBounds_toArray, List.set_cons_zero, List.set_cons_succ]
    (refine Dsc.tk_yes (v := ?_) 10 (some 137) rfl rfl (by kernel_rfl) (by kernel_rfl) (by kernel_rfl) (fun _ _ _ h => h) (by rfl) ?_ hHeld ?_; rotate_left; focus (intro w hSw; go_simp; try with_reducible rfl))
    simp only [Act.put, List.setIfInBounds_toArray, List.set_cons_zero, List.set_cons_succ]
    (refine Dsc.tk_yes (v := ?_) 11 (some 138) rfl rfl (by kernel_rfl) (by kernel_rfl) (by kernel_rfl) (fun _ _ _ h => h) (by rfl) ?_ hHeld ?_; rotate_left; focus (intro w hSw; go_simp; try with_reducible rfl))
    simp only [Act.put, List.setIfInBounds_toArray, List.set_cons_zero, List.set_cons_succ]
    (refine Dsc.tk_yes (v := ?_) 12 (some 139) rfl rfl (by kernel_rfl) (by kernel_rfl) (by kernel_rfl) (fun _ _ _ h => h) (by rfl) ?_ hHeld ?_; rotate_left; focus (intro w hSw; go_simp; try with_reducible rfl))
    simp only [Act.put, List.setIfInBounds_toArray, List.set_cons_zero, List.set_cons_succ]
    refine wpAnyH_ready (rs := [13]) (by kernel_rfl) (by simp) ?_
    refine AllReadyH.cons rfl (fun K hK => ?_) AllReadyH.nil
    go_simp
    go_at_call 22
    refine (begins_any (RR17.out.below (Below.refl _ _).drew) (G17.out.below (Below.refl _ _).drew) (by omega) HBE.out).mono ?_
    rintro e w18 ⟨rfl, k18⟩
    have SR18 := hid (Frm.range_kept SR.out (k18.block bs SLT.out))
    have B18 := hid ((B17.out.below (Below.refl _ _).drew).below k18)
    have K18 := hid k18
    clear k18
    go_wp2_with fail
    refine hK.out _ _ ⟨SR18.out, B18.out.rv.at0⟩ (fun hHeld => ?_)
    clear hK K
    try simp only [Act.put, List.setIfInBounds_toArray, List.set_cons_zero, List.set_cons_succ]
    (refine Dsc.tk_yes (v := ?_) 14 (some 141) rfl rfl (by kernel_rfl) (by kernel_rfl) (by kernel_rfl) (fun _ _ _ h => h) (by rfl) ?_ hHeld ?_; rotate_left; focus (intro w hSw; go_simp; try with_reducible rfl))
    simp only [Act.put, List.setIfInBounds_toArray, List.set_cons_zero, List.set_cons_succ]
    (refine Dsc.tk_yes (v := ?_) 15 (some 142) rfl rfl (by kernel_rfl) (by kernel_rfl) (by kernel_rfl) (fun _ _ _ h => h) (by rfl) ?_ hHeld ?_; rotate_left; focus (intro w hSw; go_simp; try with_reducible rfl))
    simp only [Act.put, List.setIfInBounds_toArray, List.set_cons_zero, List.set_cons_succ]
    (refine Dsc.tk_yes (v := ?_) 16 (some 143) rfl rfl (by kernel_rfl) (by kernel_rfl) (by kernel_rfl) (fun _ _ _ h => h) (by rfl) ?_ hHeld ?_; rotate_left; focus (intro w hSw; go_simp; try with_reducible rfl))
    simp only [Act.put, List.setIfInBounds_toArray, List.set_cons_zero, List.set_cons_succ]
    (refine Dsc.tk_yes (v := ?_) 17 (some 144) rfl rfl (by kernel_rfl) (by kernel_rfl) (by kernel_rfl) (fun _ _ _ h => h) (by rfl) ?_ hHeld ?_; rotate_left; focus (intro w hSw; go_simp; try with_reducible rfl))
    simp only [Act.put, List.setIfInBounds_toArray, List.set_cons_zero, List.set_cons_succ]
    (refine Dsc.tk_yes (v := ?_) 18 (some 145) rfl rfl (by kernel_rfl) (by kernel_rfl) (by kernel_rfl) (fun _ _ _ h => h) (by rfl) ?_ hHeld ?_; rotate_left; focus (intro w hSw; go_simp; try with_reducible rfl))
    simp only [Act.put, List.setIfInBounds_toArray, List.set_cons_zero, List.set_cons_succ]
    (refine Dsc.tk_yes (v := .pointer (some ⟨bs, os + nr * 17, none⟩)) 19 (some 146) rfl rfl (by kernel_rfl) (by kernel_rfl) (by kernel_rfl) (fun _ _ _ h => h) (by rfl) ?_ hHeld ?_; focus (intro w hSw; go_simp; try omega))
    simp only [Act.put, List.setIfInBounds_toArray, List.set_cons_zero, List.set_cons_succ]
    refine Dsc.tk_ld 20 (some 147) rfl rfl (by kernel_rfl) (by kernel_rfl) (by kernel_rfl) (fun _ _ _ h => h) (by rfl) 50 _ rfl rfl (fun w h => h.1) Try.underlying50 rfl Frm.n29 hHeld ?_
    simp only [Act.put, List.setIfInBounds_toArray, List.set_cons_zero, List.set_cons_succ]
    refine Dsc.tk_ld 21 (some 148) rfl rfl (by kernel_rfl) (by kernel_rfl) (by kernel_rfl) (fun _ _ _ h => h) (by rfl) 50 _ rfl rfl (fun w h => h.2) Try.underlying50 rfl Frm.n29 hHeld ?_
    simp only [Act.put, List.setIfInBounds_toArray, List.set_cons_zero, List.set_cons_succ]
    (refine Dsc.tk_yes (v := .bool true) 22 (some 149) rfl rfl (by kernel_rfl) (by kernel_rfl) (by kernel_rfl) (fun _ _ _ h => h) (by rfl) ?_ hHeld ?_; focus (intro w hSw; exact same_yes C _ _ _ w rfl rfl rfl))
    simp only [Act.put, List.setIfInBounds_toArray, List.set_cons_zero, List.set_cons_succ]
    (refine Dsc.tk_yes (v := ?_) 23 (some 150) rfl rfl (by kernel_rfl) (by kernel_rfl) (by kernel_rfl) (fun _ _ _ h => h) (by rfl) ?_ hHeld ?_; rotate_left; focus (intro w hSw; go_simp; try with_reducible rfl))
    simp only [Act.put, List.setIfInBounds_toArray, List.set_cons_zero, List.set_cons_succ]
    (refine Dsc.tk_yes (v := ?_) 24 (some 12) rfl rfl (by kernel_rfl) (by kernel_rfl) (by kernel_rfl) (fun _ _ _ h => h) (by rfl) ?_ hHeld ?_; rotate_left; focus (intro w hSw; go_simp; try with_reducible rfl))
    simp only [Act.put, List.setIfInBounds_toArray, List.set_cons_zero, List.set_cons_succ]
    refine wpAnyH_done (by kernel_rfl) ?_ _
    refine NoPanic.normal ?_
    go_wp2
    go_ret
    exact ⟨rfl, sq (sq J16.out.log.disk.bel K17.out) (sq (Below.refl _ _).drew K18.out)⟩
theorem journalCuts_own : ownKnob Try.prog.godebug = none := by kernel_rfl
theorem journalCuts_laid : laidOutB Try.prog = true := by kernel_rfl

set_option maxRecDepth 100000 in
set_option maxHeartbeats 1000000 in
theorem journalCuts_lifted (os : Os) (started : os.Started) (H : Type) (enc : TypeId × Value → H) :
    ReturnsInHanded {} Try.checked os 6 .any (Rows.journalCutsSpec.pre6 enc Try.prog Try.f6 Rows.journalCutsRow.domain false) (Rows.journalCutsSpec.post enc Try.prog Try.f6 false true false false) := by
  refine returnsInHanded_of_change (C := Try.checked) journalCuts_own started (by kernel_rfl) Try.func6
    (ChangeSpec.witness6 (enc := enc) (C := Try.checked) false ⟨#[], #[.int .u8 0, .int .u8 0, .int .u8 0, .slice none 0 0, .int .i64 0, .int .u8 0], []⟩ 8 (by kernel_rfl) (by kernel_rfl) (by kernel_rfl) (by kernel_rfl)) ?_
  intro W base args ds gs before hval0 hW hcnd _
  have hval : ∀ (j : Nat) t v, Try.f6.params[j]? = some t → args[j]? = some v → Value.okWide Try.prog W .any base t v := hval0
  have hW' := hW
  obtain ⟨p, q, hA0, hV, rfl, hfz, hnd⟩ := hW
  have hA : DataW.TrodAll enc Try.prog W 0 (fun _ => true) true Try.f6.params.toList args.toList ds p := hA0
  rw [Try.params6] at hA hval
  obtain ⟨v0, vs0, d0, ds0, p0, q0, hargs, rfl, rfl, h0, r0⟩ := trodAll_cons hA
  obtain ⟨v1, vs1, d1, ds1, p1, q1, rfl, rfl, rfl, h1, r1⟩ := trodAll_cons r0
  obtain ⟨v2, vs2, d2, ds2, p2, q2, rfl, rfl, rfl, h2, r2⟩ := trodAll_cons r1
  obtain ⟨v3, vs3, d3, ds3, p3, q3, rfl, rfl, rfl, h3, r3⟩ := trodAll_cons r2
  obtain ⟨v4, vs4, d4, ds4, p4, q4, rfl, rfl, rfl, h4, r4⟩ := trodAll_cons r3
  obtain ⟨v5, vs5, d5, ds5, p5, q5, rfl, rfl, rfl, h5, r5⟩ := trodAll_cons r4
  obtain ⟨rfl, rfl, rfl⟩ := trodAll_nil r5
  obtain rfl : args = #[v0, v1, v2, v3, v4, v5] := by cases args; simp_all
  obtain ⟨rfl, rfl⟩ := trodVars_none hV
  obtain ⟨a0, rfl, rfl, rfl, w0⟩ := open_int Try.underlying5 (hval 0 5 v0 rfl rfl) h0
  obtain ⟨a1, rfl, rfl, rfl, w1⟩ := open_int Try.underlying5 (hval 1 5 v1 rfl rfl) h1
  obtain ⟨a2, rfl, rfl, rfl, w2⟩ := open_int Try.underlying5 (hval 2 5 v2 rfl rfl) h2
  obtain ⟨x3, y3, z3, rfl⟩ := okWide_slice Try.underlying32 (hval 3 32 v3 rfl rfl)
  have k3 := h3
  have lt3 : ∀ x ∈ p3, x.block < W.heap.size := by obtain ⟨m, hm⟩ := k3; exact DataW.trod_lt m _ _ _ hm
  obtain ⟨a3, len3, cap3, l3, e3, w3⟩ : ∃ a len cap l, Value.slice x3 y3 z3 = .slice a len cap ∧ InF W a len cap l := by
    obtain ⟨fuel, hf⟩ := h3
    exact open_inF hf
  cases e3
  obtain ⟨a4, rfl, rfl, rfl, w4⟩ := open_int Try.underlying3 (hval 4 3 v4 rfl rfl) h4
  obtain ⟨a5, rfl, rfl, rfl, w5⟩ := open_int Try.underlying5 (hval 5 5 v5 rfl rfl) h5
  clear hA0 hval0
  refine (cuts_walk a0 a1 a2 x3 y3 z3 l3 a4 a5 W (by have := bounds_u8 w0; omega) (by have := bounds_u8 w1; omega) (by have := bounds_u8 w2; omega) w3 (by have := bounds_i64 w4; omega) (by have := bounds_u8 w5; omega)).mono fun e W' ⟨he, bel⟩ => ?_
  subst he
  exact ⟨_, rfl, _, _, _, [], _, [], hW', trodAll_mk1 (shut_bool Try.underlying4 _), (trodAll_cons_mk (shut_int Try.underlying5 w0) (trodAll_cons_mk (shut_int Try.underlying5 w1) (trodAll_cons_mk (shut_int Try.underlying5 w2) (trodAll_cons_mk (Below.trod journalCuts_laid (by kernel_rfl) (of_decide_eq_true (by kernel_rfl)) k3 bel lt3) (trodAll_cons_mk (shut_int Try.underlying3 w4) (trodAll_cons_mk (shut_int Try.underlying5 w5) trodAll_mk0)))))), rfl, bel.frame _, fun h => by cases h⟩

theorem journalCuts_over : Rows.journalCutsRow.holds Try.pinned (OpenSpec.ofChange Rows.journalCutsSpec) :=
  OpenClaim.holds_of_wide 6 Try.f6 rfl rfl rfl rfl rfl rfl rfl ⟨rfl, rfl, rfl, rfl, rfl⟩ rfl rfl rfl rfl rfl (by kernel_rfl) Try.func6 (by kernel_rfl)
    (of_decide_eq_true (by kernel_rfl)) (by unfold Func.isWrapper; first | (rw [if_pos (by decide +kernel)]; kernel_rfl) | (rw [if_neg (by decide +kernel)]; exact ⟨rfl, rfl⟩))
    (fun os started H enc _ => journalCuts_lifted os started H enc)

/-- The statement. -/
theorem journalCuts_holds : Rows.JournalCutsSaid := journalCuts_over
#print axioms journalCuts_holds
end Go.Proofs.Ythhgnflkplpklaa
