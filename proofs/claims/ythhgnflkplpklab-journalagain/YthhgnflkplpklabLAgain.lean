/- JournalAgain: cut after cut, opening after opening, what was answered stays; for every row of cuts, crash and record. -/
import Derived.Test.YthhgnflkplpklabJSub
namespace Go.Proofs.Ythhgnflkplpklab
set_option maxRecDepth 20000
open Go.ChangeShapes Go.WideShapes Go.ChangeAt Go.RowKit
open Dsc (Dk Sec Dat Feet tc hid sq bel1 newD reopD cutD)
open Frm (Rc putL rightB bytesL num Given Mk Row RowAt RV al29 st29 ld29 seatR)
/-- Bytes that came in. -/
def InB (W : World) (a : Option Addr) (len _cap : Nat) (l : List Int) : Prop := Dsc.InB W a len l
theorem open_inB {H : Type} {enc : TypeId × Value → H} {W : World} {n : Nat} {v : Value} {d : DataW H} {p : List MemPlace} (h : DataW.trod enc Try.prog W 0 (fun _ => true) true n 22 [v] = some (d, p)) : ∃ a len cap l, v = .slice a len cap ∧ InB W a len cap l := Dsc.open_inB h
theorem recs_ne {w : World} {ao1 ao2 : Option Addr} {n1 c1 n2 c2 : Nat} {l1 l2 : List Rc} (h1 : RG w ao1 n1 c1 l1) (h2 : RG w ao2 n2 c2 l2) (hne : ¬ l1 = l2) : Calls Try.prog 11 #[.slice ao1 n1 c1, .slice ao2 n2 c2] w fun e w' => e = .returned (.bool false) ∧ Below w.heap.size w w' := by
  refine (recs_same h1 h2).mono ?_
  rintro e w' ⟨rfl, k⟩
  exact ⟨by simp [hne], k⟩
theorem bs1_step {op : Oper} {a : Act} {w : World} {K : Act → World → Prop} {Q : Exit → Act → World → Prop} {r : Rc} (x : Operand) (ho : op.op = .buildSlice 28 1 #[(0, x)]) (hx : a.eval x = r.val)
    (h : ∀ ao w', RG w' ao 1 1 [r] → Below w.heap.size w w' → K (a.put op.dst (.slice ao 1 1)) w') : op.wp Try.prog a w K Q := by
  obtain ⟨i, hi, hz0, hz1, hz2⟩ := info_parts info50
  refine wp_buildSlice 28 39 1 _ ho (flR [r]).toArray i _ Try.underlying28 hi hz0 (by rw [hz1]; decide) (by rw [hz1]; decide) ?_ (h _ _ (new_rg w [r] 1 rfl (by omega)) (bel1 _ _))
  have := Great.fill_whole (s := 17) (by decide) [r.val] ((Array.range (1 * i.size)).map (Rc.zero.val.cells[· % Rc.zero.val.cells.size]!))
    (by intro v hv; simp at hv; subst hv; simp [Rc.val, Value.cells, Rc.len]) (by simp [hz1])
  rw [hz1] at this ⊢
  simpa [hx, Value.cells, Rc.val, flR] using this
theorem app_step {op : Oper} {a : Act} {w : World} {K : Act → World → Prop} {Q : Exit → Act → World → Prop} {n n2 c2 m : Nat} {ao1 ao2 : Option Addr} {l1 l2 : List Rc}
    (h1 : RG w ao1 n n l1) (h2 : RG w ao2 n2 c2 l2) (hm : n + n2 = m) (hsmall : m ≤ 1000000) (s y : Operand) (ho : op.op = .call { callee := .builtin .append, args := #[s, y], argTypes := #[28, 28] }) (hs : a.eval s = .slice ao1 n n) (hx : a.eval y = .slice ao2 n2 c2)
    (h : ∀ ao cap w', RG w' ao m cap (l1 ++ l2) → Below w.heap.size w w' → K (a.put op.dst (.slice ao m cap)) w') : op.wp Try.prog a w K Q := by
  obtain ⟨ao, cap, w', hrun, hR, hB⟩ := app_full_run op.type h1 h2 hm hsmall
  unfold Oper.wp
  simp [execOp, ho, resolve, invoke, builtin, hs, hx, hrun, Result.andThen]
  exact h ao cap w' hR hB
set_option maxHeartbeats 8000000 in
theorem again_walk (x0 : Option Addr) (y0 z0 : Nat) (zs : List Int) (a1 : Int) (x2 : Option Addr) (y2 z2 : Nat) (bs2 : List Bool) (a3 : Int) (w : World) (i0 : InB w x0 y0 z0 zs) (b1 : 0 ≤ a1 ∧ a1 < 256) (i2 : InF w x2 y2 z2 bs2) (_b3 : -9223372036854775808 ≤ a3 ∧ a3 ≤ 9223372036854775807) :
    Calls Try.prog 3 #[.slice x0 y0 z0, .int .u8 a1, .slice x2 y2 z2, .int .i64 a3] w fun e w' => e = .returned (.bool true) ∧ Below w.heap.size w w' := by
  have I2 : Hid (Dsc.InF w x2 y2 bs2) := i2
  have I0 : Hid (Dsc.InB w x0 y0 zs) := i0
  clear i0 i2
  by_cases hc12 : 12 < y0
  · have g1 : decide ((12 : Int) < (y0 : Int)) = true := by simp; omega
    go_enter Try.func3, Try.ntmps3
    go_wp2_with (first | (go_at_call 4; refine (known_any _).mono ?_; rintro e w1 ⟨rfl, k1'⟩; have K1 := hid k1'; clear k1'))
    go_ret
    exact ⟨rfl, K1.out⟩
  have g1 : decide ((12 : Int) < (y0 : Int)) = false := by simp; omega
  by_cases hk40 : 40 < y2
  · have g2 : decide ((40 : Int) < (y2 : Int)) = true := by simp; omega
    go_enter Try.func3, Try.ntmps3
    go_wp2_with (first | (go_at_call 4; refine (known_any _).mono ?_; rintro e w1 ⟨rfl, k1'⟩; have K1 := hid k1'; clear k1'))
    go_ret
    exact ⟨rfl, K1.out⟩
  have g2 : decide ((40 : Int) < (y2 : Int)) = false := by simp; omega
  have hy12 : y0 ≤ 12 := by omega
  clear hc12 hk40
  go_enter Try.func3, Try.ntmps3
  go_wp2_with (first | (go_at_call 6; refine (open_new J1.out (by omega)).mono ?_; rintro e w2 ⟨q2, ao2, cap2, h2, rfl, j2, g2', k2⟩; have J2 := hid j2; clear j2 g2' k2) | (go_at_call 5; refine (new_jd 600 600 rfl K1.out).mono ?_; rintro e w1' ⟨p1, rfl, j1, k1'⟩; have J1 := hid j1; clear j1 k1') | (go_at_call 4; refine (known_any _).mono ?_; rintro e w1 ⟨rfl, k1'⟩; have K1 := hid k1'; clear k1'))
  clear g1 g2
  go_loopw [10, 13, 14] (fun j al i wr => ∃ (k q na cap : Nat) (ao : Option Addr) (d : Dk) (h : Hd) (l : List Rc), k ≤ y0 ∧ j = .pointer (some ⟨q, 0, none⟩) ∧ al = .slice ao na cap ∧ i = .int .i64 (k : Int) ∧ JS w wr p1 q d h l ∧ d.secs.length = 600 ∧ RG wr ao na cap l ∧ na ≤ k) (fun _ _ i _ => y0 - (intOf i).toNat)
  case atStart => exact ⟨0, q2, 0, 0, none, newD 600, h2, [], by omega, rfl, rfl, rfl, J2.out, by simp [newD], RG.none _, by omega⟩
  case round =>
    obtain ⟨k, q, na, cap, ao, d, h, l, hk, rfl, rfl, rfl, j, n, rr, hna⟩ := hrel
    have J := hid j
    have N := hid n
    have R := hid rr
    have rc1 := rr.cap1
    have rc2 := rr.cap2
    have LN := hid rr.leq
    clear j n rr
    by_cases hlt : k < y0
    · obtain ⟨ilen, ibyt, irow, ilt⟩ := I0.out
      obtain ⟨zc, hzc⟩ : ∃ z, zs[k]? = some z := ⟨zs[k]'(by omega), by simp⟩
      have hzb := ibyt zc (List.mem_of_getElem? hzc)
      have hne0 : zs ≠ [] := fun e => by rw [e] at hzc; simp at hzc
      obtain ⟨b, o, rfl, hrow⟩ : ∃ b o, x0 = some ⟨b, o, none⟩ ∧ ∀ i x, zs[i]? = some x → w.cell? ⟨b, o + i, none⟩ = some (.int .u8 x) := by
        rcases irow with e | e
        · exact absurd e hne0
        · exact e
      have hbl : b < w.heap.size := ilt hne0 _ rfl
      have HCC := hid (hrow k zc hzc)
      have tc : zc.tmod 8 = ((zc % 8).toNat : Int) := tmod_nat (by unfold Dsc.Byt at hzb; omega) 8 (by omega)
      have hc8 : (zc % 8).toNat < 8 := by omega
      generalize (zc % 8).toNat = c at *
      have y1 : IntKind.i64.wrap (c : Int) = c := wr64 (by omega)
      have y3 : IntKind.u8.wrap (k : Int) = k := by rw [IntKind.wrap_u8]; omega
      obtain ⟨K, hK⟩ : ∃ K, (a1 + k) % 256 = K := ⟨_, rfl⟩
      have y4 : IntKind.u8.wrap (a1 + k) = K := by rw [IntKind.wrap_u8]; exact hK
      have hKa : 0 ≤ K ∧ K < 256 := by omega
      have hg : Hid (Good [seatR K a1 k 9]) := by
        unfold Hid; intro x hx; simp at hx; subst hx
        exact ⟨Frm.seat_right b1.1 b1.2 (by omega) (by omega), Frm.seat_ok⟩
      obtain ⟨r, hr⟩ : ∃ r, seatR K a1 k 9 = r := ⟨_, rfl⟩
      rw [hr] at hg
      have HR := hid hr
      have HFI : Hid ((frs (l ++ [r])).length ≤ (600 - 1) / 2 * 64) := by
        unfold Hid
        have h1 := frs_many (J.out.held.good.app hg.out)
        rw [List.length_append, LN.out] at h1
        simp only [List.length_cons, List.length_nil] at h1
        omega
      clear hr hK ilen ibyt irow ilt hzc hzb hne0 hrow
      go_upto_region 16 with (first | (go_at_call 6; refine (open_up J7.out U7.out.1 U7.out.2 H7.out nr HNR.out).mono ?_; rintro e w8 ⟨q8, ao8, cap8, h8, rfl, j8, g8, k8⟩; have J8 := hid j8; have G8 := hid g8; have R8 := hid (R7.out.below k8); have B8 := hid (B7.out.below k8); clear j8 g8 k8) | (go_at_call 10; refine (reopen_jd J6.out C6.out I2.out a3).mono ?_; rintro e w7 ⟨rfl, k7, d7, l7, j7, u7, v7, y7, n7, o7, h7⟩; have J7 := hid j7; have U7 := hid (And.intro u7 v7); have H7 := hid h7; have O7 := hid o7; have N7 := hid (n7.trans N6.out); have R7 := hid (R6.out.kin k7); have B7 := hid (B6.out.kin k7); obtain ⟨nr, hnr⟩ : ∃ n, l7.length = n := ⟨_, rfl⟩; have HNR := hid hnr; clear hnr j7 u7 v7 y7 h7 o7 n7 k7) | (go_at_call 9; refine (add_cut J5.out X5.out hg.out (by rw [LN.out]; omega) 600 N4.out HFI.out).mono ?_; rintro e w6 ⟨z, rfl, k6, d6, lo, j6, n6, c6, o6⟩; have J6 := hid j6; have N6 := hid n6; have C6 := hid c6; have O6 := hid o6; have R6 := hid (R5.out.kin k6); have B6 := hid (B5.out.kin k6); clear j6 n6 c6 o6 k6) | (refine bsR (r := r) rfl _ rfl rfl ?_; intro ao5 w5 r5 k5; have X5 := hid r5; have J5 := hid (J4.out.more k5); have R5 := hid (R4.out.below k5); have B5 := hid (B4.out.below k5); clear r5 k5) | (refine ld29 B4.out.rv rfl _ rfl rfl ?_) | (go_at_call 8; refine (cut_jd J3.out.log.disk ((c : Int) + 1) _ rfl (by omega)).mono ?_; rintro e w4 ⟨rfl, l4⟩; obtain ⟨j4, n4⟩ := J3.out.cut l4 (by omega); have J4 := hid j4; have N4 := hid (n4.trans N.out); have R4 := hid (R3.out.kin l4.2.1); have B4 := hid (B3.out.kin l4.2.1); clear j4 n4 l4) | (refine stB (r := r) (w0 := wr) Z2.out (sq KX.out Y2.out) (by have := KX.out.size; omega) rfl _ _ rfl rfl rfl ?_; intro w3 b3 l3; have B3 := hid b3; have J3 := hid (J.out.more l3); have R3 := hid (R.out.below l3); have cc := (J3.out.log.disk.bel.cell (p := ⟨b, o + k, none⟩) hbl).trans HCC.out; clear b3 l3) | (refine alB rfl rfl ?_; intro bb w2 hbb z2 y2; have Z2 := hid z2; have Y2 := hid y2; clear z2 y2) | (go_at_call 7; refine (Frm.rec9 K a1 k 9 _ hKa.1 hKa.2 b1.1 b1.2 (by omega) (by omega) (by omega) (by omega)).mono ?_; rintro e wx ⟨rfl, kx⟩; rw [HR.out]; have KX := hid kx; clear kx))
      clear y1 y3 y4 tc cc
      have three : (z = 0 ∧ l7 = l ++ [r]) ∨ (z = 22 ∧ l7 = l ++ [r]) ∨ (z = 22 ∧ l7 = l) := by
        rcases O6.out with ⟨h1, h2⟩ | ⟨h1, h2⟩ <;> rcases O7.out with h3 | h3
        · exact .inl ⟨h1, h3.trans h2⟩
        · exact .inl ⟨h1, h3⟩
        · exact .inr (.inr ⟨h1, h3.trans h2⟩)
        · exact .inr (.inl ⟨h1, h3⟩)
      clear O6 O7
      rcases three with ⟨rfl, he⟩ | ⟨rfl, he⟩ | ⟨rfl, he⟩
      · as_aux_lemma =>
          have HE := hid he
          clear he
          have G8e : Hid (RG w8 ao8 nr cap8 (l ++ [r])) := by unfold Hid; have := G8.out; rw [HE.out] at this; exact this
          have hnr : nr ≤ k + 1 := by have h1 := HNR.out; rw [HE.out, List.length_append, LN.out] at h1; simp at h1; omega
          go_upto_region 18 with fail
          refine wp_region_noPanic ?_
          refine wp_region_held_drew (S := (fun w' : World => w'.rangeAt bb 0 r.cells)) (by kernel_rfl) B8.out.rv.at0 (fun hHeld => ?_)
          (refine Dsc.tk_yes (v := ?_) 0 (some 89) rfl rfl (by kernel_rfl) (by kernel_rfl) (by kernel_rfl) (fun _ _ _ h => h) (by rfl) ?_ hHeld ?_; rotate_left; focus (intro w hSw; go_simp; try with_reducible rfl))
          simp only [Act.put, List.setIfInBounds_toArray, List.set_cons_zero, List.set_cons_succ]
          (refine Dsc.tk_yes (v := ?_) 1 (some 90) rfl rfl (by kernel_rfl) (by kernel_rfl) (by kernel_rfl) (fun _ _ _ h => h) (by rfl) ?_ hHeld ?_; rotate_left; focus (intro w hSw; go_simp; try with_reducible rfl))
          simp only [Act.put, List.setIfInBounds_toArray, List.set_cons_zero, List.set_cons_succ]
          (refine Dsc.tk_yes (v := ?_) 2 (some 91) rfl rfl (by kernel_rfl) (by kernel_rfl) (by kernel_rfl) (fun _ _ _ h => h) (by rfl) ?_ hHeld ?_; rotate_left; focus (intro w hSw; go_simp; try with_reducible rfl))
          simp only [Act.put, List.setIfInBounds_toArray, List.set_cons_zero, List.set_cons_succ]
          (refine Dsc.tk_yes (v := ?_) 3 (some 92) rfl rfl (by kernel_rfl) (by kernel_rfl) (by kernel_rfl) (fun _ _ _ h => h) (by rfl) ?_ hHeld ?_; rotate_left; focus (intro w hSw; go_simp; try with_reducible rfl))
          simp only [Act.put, List.setIfInBounds_toArray, List.set_cons_zero, List.set_cons_succ]
          (refine Dsc.tk_yes (v := ?_) 4 (some 93) rfl rfl (by kernel_rfl) (by kernel_rfl) (by kernel_rfl) (fun _ _ _ h => h) (by rfl) ?_ hHeld ?_; rotate_left; focus (intro w hSw; go_simp; try with_reducible rfl))
          simp only [Act.put, List.setIfInBounds_toArray, List.set_cons_zero, List.set_cons_succ]
          (refine Dsc.tk_yes (v := ?_) 5 (some 94) rfl rfl (by kernel_rfl) (by kernel_rfl) (by kernel_rfl) (fun _ _ _ h => h) (by rfl) ?_ hHeld ?_; rotate_left; focus (intro w hSw; go_simp; try with_reducible rfl))
          simp only [Act.put, List.setIfInBounds_toArray, List.set_cons_zero, List.set_cons_succ]
          refine Dsc.tk_ld 6 (some 95) rfl rfl (by kernel_rfl) (by kernel_rfl) (by kernel_rfl) (fun _ _ _ h => h) (by rfl) 39 _ rfl rfl (fun w h => h) Try.underlying39 rfl Frm.n29 hHeld ?_
          simp only [Act.put, List.setIfInBounds_toArray, List.set_cons_zero, List.set_cons_succ]
          refine wpAnyH_ready (rs := [7]) (by kernel_rfl) (by simp) ?_
          refine AllReadyH.cons rfl (fun K hK => ?_) AllReadyH.nil
          rw [if_pos (by rfl)]
          refine bs1_step (r := r) _ rfl rfl ?_
          intro ao9 w9 r9 k9
          have X9 := hid r9
          have K9 := hid (sq (Below.refl _ _).drew k9)
          have B9 := hid (B8.out.below K9.out)
          clear r9 k9
          refine hK.out _ _ B9.out.rv.at0 (fun hHeld => ?_)
          clear hK K
          try simp only [Act.put, List.setIfInBounds_toArray]
          refine wpAnyH_ready (rs := [8]) (by kernel_rfl) (by simp) ?_
          refine AllReadyH.cons rfl (fun K hK => ?_) AllReadyH.nil
          rw [if_pos (by rfl)]
          refine app_step ((R8.out.below K9.out).take' na rfl) X9.out (m := na + 1) rfl (by omega) _ _ rfl rfl rfl ?_
          intro ao10 cap10 w10 r10 k10
          have G10 := hid r10
          have K10 := hid (sq K9.out k10)
          have B10 := hid (B9.out.below k10)
          clear r10 k10
          refine hK.out _ _ B10.out.rv.at0 (fun hHeld => ?_)
          clear hK K
          try simp only [Act.put]
          (refine Dsc.tk_yes (v := ?_) 9 (some 20) rfl rfl (by kernel_rfl) (by kernel_rfl) (by kernel_rfl) (fun _ _ _ h => h) (by rfl) ?_ hHeld ?_; rotate_left; focus (intro w hSw; go_simp; try with_reducible rfl))
          simp only [Act.put]
          refine wpAnyH_done (by kernel_rfl) ?_ _
          refine NoPanic.normal ?_
          go_wp2_with (first | (go_at_call 11; refine (recs_eq (G8e.out.below K10.out) G10.out).mono ?_; rintro e w11 ⟨rfl, k11⟩; have K11 := hid (sq K10.out k11); clear k11))
          go_roundw
          case rel => exact ⟨k + 1, q8, nr, cap8, ao8, d7, h8, l7, by omega, rfl, rfl, by go_num, J8.out.more K11.out, N7.out, G8.out.below K11.out, by omega⟩
          case measure => simp [intOf]; omega
      · as_aux_lemma =>
          have HE := hid he
          clear he
          have G8e : Hid (RG w8 ao8 nr cap8 (l ++ [r])) := by unfold Hid; have := G8.out; rw [HE.out] at this; exact this
          have hnr : nr ≤ k + 1 := by have h1 := HNR.out; rw [HE.out, List.length_append, LN.out] at h1; simp at h1; omega
          go_upto_region 18 with fail
          refine wp_region_noPanic ?_
          refine wp_region_held_drew (S := (fun w' : World => w'.rangeAt bb 0 r.cells)) (by kernel_rfl) B8.out.rv.at0 (fun hHeld => ?_)
          (refine Dsc.tk_yes (v := ?_) 0 (some 89) rfl rfl (by kernel_rfl) (by kernel_rfl) (by kernel_rfl) (fun _ _ _ h => h) (by rfl) ?_ hHeld ?_; rotate_left; focus (intro w hSw; go_simp; try with_reducible rfl))
          simp only [Act.put, List.setIfInBounds_toArray, List.set_cons_zero, List.set_cons_succ]
          (refine Dsc.tk_yes (v := ?_) 1 (some 90) rfl rfl (by kernel_rfl) (by kernel_rfl) (by kernel_rfl) (fun _ _ _ h => h) (by rfl) ?_ hHeld ?_; rotate_left; focus (intro w hSw; go_simp; try with_reducible rfl))
          simp only [Act.put, List.setIfInBounds_toArray, List.set_cons_zero, List.set_cons_succ]
          (refine Dsc.tk_yes (v := ?_) 2 (some 91) rfl rfl (by kernel_rfl) (by kernel_rfl) (by kernel_rfl) (fun _ _ _ h => h) (by rfl) ?_ hHeld ?_; rotate_left; focus (intro w hSw; go_simp; try with_reducible rfl))
          simp only [Act.put, List.setIfInBounds_toArray, List.set_cons_zero, List.set_cons_succ]
          (refine Dsc.tk_yes (v := ?_) 3 (some 92) rfl rfl (by kernel_rfl) (by kernel_rfl) (by kernel_rfl) (fun _ _ _ h => h) (by rfl) ?_ hHeld ?_; rotate_left; focus (intro w hSw; go_simp; try with_reducible rfl))
          simp only [Act.put, List.setIfInBounds_toArray, List.set_cons_zero, List.set_cons_succ]
          (refine Dsc.tk_yes (v := ?_) 4 (some 93) rfl rfl (by kernel_rfl) (by kernel_rfl) (by kernel_rfl) (fun _ _ _ h => h) (by rfl) ?_ hHeld ?_; rotate_left; focus (intro w hSw; go_simp; try with_reducible rfl))
          simp only [Act.put, List.setIfInBounds_toArray, List.set_cons_zero, List.set_cons_succ]
          (refine Dsc.tk_yes (v := ?_) 5 (some 94) rfl rfl (by kernel_rfl) (by kernel_rfl) (by kernel_rfl) (fun _ _ _ h => h) (by rfl) ?_ hHeld ?_; rotate_left; focus (intro w hSw; go_simp; try with_reducible rfl))
          simp only [Act.put, List.setIfInBounds_toArray, List.set_cons_zero, List.set_cons_succ]
          refine Dsc.tk_ld 6 (some 95) rfl rfl (by kernel_rfl) (by kernel_rfl) (by kernel_rfl) (fun _ _ _ h => h) (by rfl) 39 _ rfl rfl (fun w h => h) Try.underlying39 rfl Frm.n29 hHeld ?_
          simp only [Act.put, List.setIfInBounds_toArray, List.set_cons_zero, List.set_cons_succ]
          refine wpAnyH_ready (rs := [7]) (by kernel_rfl) (by simp) ?_
          refine AllReadyH.cons rfl (fun K hK => ?_) AllReadyH.nil
          rw [if_pos (by rfl)]
          refine bs1_step (r := r) _ rfl rfl ?_
          intro ao9 w9 r9 k9
          have X9 := hid r9
          have K9 := hid (sq (Below.refl _ _).drew k9)
          have B9 := hid (B8.out.below K9.out)
          clear r9 k9
          refine hK.out _ _ B9.out.rv.at0 (fun hHeld => ?_)
          clear hK K
          try simp only [Act.put, List.setIfInBounds_toArray]
          refine wpAnyH_ready (rs := [8]) (by kernel_rfl) (by simp) ?_
          refine AllReadyH.cons rfl (fun K hK => ?_) AllReadyH.nil
          rw [if_pos (by rfl)]
          refine app_step ((R8.out.below K9.out).take' na rfl) X9.out (m := na + 1) rfl (by omega) _ _ rfl rfl rfl ?_
          intro ao10 cap10 w10 r10 k10
          have G10 := hid r10
          have K10 := hid (sq K9.out k10)
          have B10 := hid (B9.out.below k10)
          clear r10 k10
          refine hK.out _ _ B10.out.rv.at0 (fun hHeld => ?_)
          clear hK K
          try simp only [Act.put]
          (refine Dsc.tk_yes (v := ?_) 9 (some 20) rfl rfl (by kernel_rfl) (by kernel_rfl) (by kernel_rfl) (fun _ _ _ h => h) (by rfl) ?_ hHeld ?_; rotate_left; focus (intro w hSw; go_simp; try with_reducible rfl))
          simp only [Act.put]
          refine wpAnyH_done (by kernel_rfl) ?_ _
          refine NoPanic.normal ?_
          go_wp2_with (first | (go_at_call 11; refine (recs_eq (G8e.out.below K10.out) G10.out).mono ?_; rintro e w11 ⟨rfl, k11⟩; have K11 := hid (sq K10.out k11); clear k11))
          go_roundw
          case rel => exact ⟨k + 1, q8, nr, cap8, ao8, d7, h8, l7, by omega, rfl, rfl, by go_num, J8.out.more K11.out, N7.out, G8.out.below K11.out, by omega⟩
          case measure => simp [intOf]; omega
      · as_aux_lemma =>
          have HE := hid he
          clear he
          have hne : Hid (¬ l7 = l ++ [r]) := by unfold Hid; rw [HE.out]; intro e; have := congrArg List.length e; simp at this
          have hnr : nr ≤ k + 1 := by have h1 := HNR.out; rw [HE.out, LN.out] at h1; omega
          have G8e : Hid (RG w8 ao8 nr cap8 l) := by unfold Hid; have := G8.out; rw [HE.out] at this; exact this
          go_upto_region 18 with fail
          refine wp_region_noPanic ?_
          refine wp_region_held_drew (S := (fun w' : World => w'.rangeAt bb 0 r.cells)) (by kernel_rfl) B8.out.rv.at0 (fun hHeld => ?_)
          (refine Dsc.tk_yes (v := ?_) 0 (some 89) rfl rfl (by kernel_rfl) (by kernel_rfl) (by kernel_rfl) (fun _ _ _ h => h) (by rfl) ?_ hHeld ?_; rotate_left; focus (intro w hSw; go_simp; try with_reducible rfl))
          simp only [Act.put, List.setIfInBounds_toArray, List.set_cons_zero, List.set_cons_succ]
          (refine Dsc.tk_yes (v := ?_) 1 (some 90) rfl rfl (by kernel_rfl) (by kernel_rfl) (by kernel_rfl) (fun _ _ _ h => h) (by rfl) ?_ hHeld ?_; rotate_left; focus (intro w hSw; go_simp; try with_reducible rfl))
          simp only [Act.put, List.setIfInBounds_toArray, List.set_cons_zero, List.set_cons_succ]
          (refine Dsc.tk_yes (v := ?_) 2 (some 91) rfl rfl (by kernel_rfl) (by kernel_rfl) (by kernel_rfl) (fun _ _ _ h => h) (by rfl) ?_ hHeld ?_; rotate_left; focus (intro w hSw; go_simp; try with_reducible rfl))
          simp only [Act.put, List.setIfInBounds_toArray, List.set_cons_zero, List.set_cons_succ]
          (refine Dsc.tk_yes (v := ?_) 3 (some 92) rfl rfl (by kernel_rfl) (by kernel_rfl) (by kernel_rfl) (fun _ _ _ h => h) (by rfl) ?_ hHeld ?_; rotate_left; focus (intro w hSw; go_simp; try with_reducible rfl))
          simp only [Act.put, List.setIfInBounds_toArray, List.set_cons_zero, List.set_cons_succ]
          (refine Dsc.tk_yes (v := ?_) 4 (some 93) rfl rfl (by kernel_rfl) (by kernel_rfl) (by kernel_rfl) (fun _ _ _ h => h) (by rfl) ?_ hHeld ?_; rotate_left; focus (intro w hSw; go_simp; try with_reducible rfl))
          simp only [Act.put, List.setIfInBounds_toArray, List.set_cons_zero, List.set_cons_succ]
          (refine Dsc.tk_yes (v := ?_) 5 (some 94) rfl rfl (by kernel_rfl) (by kernel_rfl) (by kernel_rfl) (fun _ _ _ h => h) (by rfl) ?_ hHeld ?_; rotate_left; focus (intro w hSw; go_simp; try with_reducible rfl))
          simp only [Act.put, List.setIfInBounds_toArray, List.set_cons_zero, List.set_cons_succ]
          refine Dsc.tk_ld 6 (some 95) rfl rfl (by kernel_rfl) (by kernel_rfl) (by kernel_rfl) (fun _ _ _ h => h) (by rfl) 39 _ rfl rfl (fun w h => h) Try.underlying39 rfl Frm.n29 hHeld ?_
          simp only [Act.put, List.setIfInBounds_toArray, List.set_cons_zero, List.set_cons_succ]
          refine wpAnyH_ready (rs := [7]) (by kernel_rfl) (by simp) ?_
          refine AllReadyH.cons rfl (fun K hK => ?_) AllReadyH.nil
          rw [if_pos (by rfl)]
          refine bs1_step (r := r) _ rfl rfl ?_
          intro ao9 w9 r9 k9
          have X9 := hid r9
          have K9 := hid (sq (Below.refl _ _).drew k9)
          have B9 := hid (B8.out.below K9.out)
          clear r9 k9
          refine hK.out _ _ B9.out.rv.at0 (fun hHeld => ?_)
          clear hK K
          try simp only [Act.put, List.setIfInBounds_toArray]
          refine wpAnyH_ready (rs := [8]) (by kernel_rfl) (by simp) ?_
          refine AllReadyH.cons rfl (fun K hK => ?_) AllReadyH.nil
          rw [if_pos (by rfl)]
          refine app_step ((R8.out.below K9.out).take' na rfl) X9.out (m := na + 1) rfl (by omega) _ _ rfl rfl rfl ?_
          intro ao10 cap10 w10 r10 k10
          have G10 := hid r10
          have K10 := hid (sq K9.out k10)
          have B10 := hid (B9.out.below k10)
          clear r10 k10
          refine hK.out _ _ B10.out.rv.at0 (fun hHeld => ?_)
          clear hK K
          try simp only [Act.put]
          (refine Dsc.tk_yes (v := ?_) 9 (some 20) rfl rfl (by kernel_rfl) (by kernel_rfl) (by kernel_rfl) (fun _ _ _ h => h) (by rfl) ?_ hHeld ?_; rotate_left; focus (intro w hSw; go_simp; try with_reducible rfl))
          simp only [Act.put]
          refine wpAnyH_done (by kernel_rfl) ?_ _
          refine NoPanic.normal ?_
          go_wp2_with (first | (go_at_call 11; have X := K11.out; refine (recs_eq (G8e.out.below K11.out) (R8.out.below K11.out)).mono ?_; rintro e w12 ⟨rfl, k12⟩; have K12 := hid (sq K11.out k12); clear k12 X) | (go_at_call 11; refine (recs_ne (G8.out.below K10.out) G10.out hne.out).mono ?_; rintro e w11 ⟨rfl, k11⟩; have K11 := hid (sq K10.out k11); clear k11))
          go_roundw
          case rel => exact ⟨k + 1, q8, nr, cap8, ao8, d7, h8, l7, by omega, rfl, rfl, by go_num, J8.out.more K12.out, N7.out, G8.out.below K12.out, by omega⟩
          case measure => simp [intOf]; omega
    · go_wp2_with (first | (go_at_call 12; refine (len_js J.out na LN.out).mono ?_; rintro e w5 ⟨rfl, rfl⟩))
      go_ret
      exact ⟨rfl, J.out.log.disk.bel⟩
theorem journalAgain_own : ownKnob Try.prog.godebug = none := by kernel_rfl
theorem journalAgain_laid : laidOutB Try.prog = true := by kernel_rfl

set_option maxRecDepth 100000 in
set_option maxHeartbeats 1000000 in
theorem journalAgain_lifted (os : Os) (started : os.Started) (H : Type) (enc : TypeId × Value → H) :
    ReturnsInHanded {} Try.checked os 3 .any (Rows.journalAgainSpec.pre6 enc Try.prog Try.f3 Rows.journalAgainRow.domain false) (Rows.journalAgainSpec.post enc Try.prog Try.f3 false true false false) := by
  refine returnsInHanded_of_change (C := Try.checked) journalAgain_own started (by kernel_rfl) Try.func3
    (ChangeSpec.witness6 (enc := enc) (C := Try.checked) false ⟨#[], #[.slice none 0 0, .int .u8 0, .slice none 0 0, .int .i64 0], []⟩ 8 (by kernel_rfl) (by kernel_rfl) (by kernel_rfl) (by kernel_rfl)) ?_
  intro W base args ds gs before hval0 hW hcnd _
  have hval : ∀ (j : Nat) t v, Try.f3.params[j]? = some t → args[j]? = some v → Value.okWide Try.prog W .any base t v := hval0
  have hW' := hW
  obtain ⟨p, q, hA0, hV, rfl, hfz, hnd⟩ := hW
  have hA : DataW.TrodAll enc Try.prog W 0 (fun _ => true) true Try.f3.params.toList args.toList ds p := hA0
  rw [Try.params3] at hA hval
  obtain ⟨v0, vs0, d0, ds0, p0, q0, hargs, rfl, rfl, h0, r0⟩ := trodAll_cons hA
  obtain ⟨v1, vs1, d1, ds1, p1, q1, rfl, rfl, rfl, h1, r1⟩ := trodAll_cons r0
  obtain ⟨v2, vs2, d2, ds2, p2, q2, rfl, rfl, rfl, h2, r2⟩ := trodAll_cons r1
  obtain ⟨v3, vs3, d3, ds3, p3, q3, rfl, rfl, rfl, h3, r3⟩ := trodAll_cons r2
  obtain ⟨rfl, rfl, rfl⟩ := trodAll_nil r3
  obtain rfl : args = #[v0, v1, v2, v3] := by cases args; simp_all
  obtain ⟨rfl, rfl⟩ := trodVars_none hV
  obtain ⟨x0, y0, z0, rfl⟩ := okWide_slice Try.underlying22 (hval 0 22 v0 rfl rfl)
  have k0 := h0
  have lt0 : ∀ x ∈ p0, x.block < W.heap.size := by obtain ⟨m, hm⟩ := k0; exact DataW.trod_lt m _ _ _ hm
  obtain ⟨a0, len0, cap0, l0, e0, w0⟩ : ∃ a len cap l, Value.slice x0 y0 z0 = .slice a len cap ∧ InB W a len cap l := by
    obtain ⟨fuel, hf⟩ := h0
    exact open_inB hf
  cases e0
  obtain ⟨a1, rfl, rfl, rfl, w1⟩ := open_int Try.underlying5 (hval 1 5 v1 rfl rfl) h1
  obtain ⟨x2, y2, z2, rfl⟩ := okWide_slice Try.underlying23 (hval 2 23 v2 rfl rfl)
  have k2 := h2
  have lt2 : ∀ x ∈ p2, x.block < W.heap.size := by obtain ⟨m, hm⟩ := k2; exact DataW.trod_lt m _ _ _ hm
  obtain ⟨a2, len2, cap2, l2, e2, w2⟩ : ∃ a len cap l, Value.slice x2 y2 z2 = .slice a len cap ∧ InF W a len cap l := by
    obtain ⟨fuel, hf⟩ := h2
    exact open_inF hf
  cases e2
  obtain ⟨a3, rfl, rfl, rfl, w3⟩ := open_int Try.underlying3 (hval 3 3 v3 rfl rfl) h3
  clear hA0 hval0
  refine (again_walk x0 y0 z0 l0 a1 x2 y2 z2 l2 a3 W w0 (by have := bounds_u8 w1; omega) w2 (by have := bounds_i64 w3; omega)).mono fun e W' ⟨he, bel⟩ => ?_
  subst he
  exact ⟨_, rfl, _, _, _, [], _, [], hW', trodAll_mk1 (shut_bool Try.underlying4 _), (trodAll_cons_mk (Below.trod journalAgain_laid (by kernel_rfl) (of_decide_eq_true (by kernel_rfl)) k0 bel lt0) (trodAll_cons_mk (shut_int Try.underlying5 w1) (trodAll_cons_mk (Below.trod journalAgain_laid (by kernel_rfl) (of_decide_eq_true (by kernel_rfl)) k2 bel lt2) (trodAll_cons_mk (shut_int Try.underlying3 w3) trodAll_mk0)))), rfl, bel.frame _, fun h => by cases h⟩

theorem journalAgain_over : Rows.journalAgainRow.holds Try.pinned (OpenSpec.ofChange Rows.journalAgainSpec) :=
  OpenClaim.holds_of_wide 3 Try.f3 rfl rfl rfl rfl rfl rfl rfl ⟨rfl, rfl, rfl, rfl, rfl⟩ rfl rfl rfl rfl rfl (by kernel_rfl) Try.func3 (by kernel_rfl)
    (of_decide_eq_true (by kernel_rfl)) (by unfold Func.isWrapper; first | (rw [if_pos (by decide +kernel)]; kernel_rfl) | (rw [if_neg (by decide +kernel)]; exact ⟨rfl, rfl⟩))
    (fun os started H enc _ => journalAgain_lifted os started H enc)

/-- The statement. -/
theorem journalAgain_holds : Rows.JournalAgainSaid := journalAgain_over
#print axioms journalAgain_holds
end Go.Proofs.Ythhgnflkplpklab
