/- What the document reads bytes as. -/
import Derived.Test.YthchgjndaeefmaaReadC
namespace Go.Proofs.Ythchgjndaeefmaa
open Go.ChangeShapes Go.WideShapes Go.ChangeAt Go.RowKit

theorem numV_no {s : ByteArray} (h : numOk s = false) : numV s = 0 := by unfold numV; rw [h]; rfl
set_option maxHeartbeats 20000000 in
theorem read13 (ao : Option Addr) (len cap : Nat) (zs : List Int) (w : World) (h : Given w ao len cap zs) (hl : len ≤ 900000) :
    Calls Try.prog 13 #[.slice ao len cap] w (RdAns w zs) := by
  have HG := hid h
  have HX := hid (uf_x h.byt)
  clear h
  cases hB : ufB zs
  · have HB := hid hB
    have HE : Hid (rdP zs = Ps.zero ∧ rdE zs = 23) := rd_none hB
    have H0 := hid (uf_0 hB)
    clear hB
    go_enter Try.func13, Try.ntmps13
    go_wp2_with (first | (have kill := V2.out; refine st25 (r := Ps.zero) V2.out L2.out hb1 rfl _ _ rfl rfl rfl ?_; intro w9 v9 l9; have V9 := hid v9; have L9 := hid l9; clear v9 l9 kill V2) | (have kill := V2.out; refine bd25 rfl rfl ?_) | (go_at_call 23; have kill := V1.out; refine (unf20 _ _ _ zs _ (HG.out.below L1.out) hl).mono ?_; rintro e w2 ⟨a2, n2, c2, rfl, m2⟩; rw [HB.out]; have M2 := hid m2; have L2 := hid (sq L1.out m2.2); have V2 := hid (V1.out.below m2.2); clear m2 kill V1 L1) | (refine al25 rfl rfl ?_; intro b1 w1 hb1 v1 l1; have V1 := hid v1; have L1 := hid l1; clear v1 l1))
    refine bodyPost_ret (results_c2 Try.results13 _ _ rfl rfl rfl V9.out) rfl ⟨?_, L9.out⟩
    rw [HE.out.1, HE.out.2, H0.out]; rfl
  · have HB := hid hB
    have HNO : Hid (reqB (ufX zs) = false → rdP zs = Ps.zero ∧ rdE zs = 23) := fun e => rd_no e
    have HYE : Hid (reqB (ufX zs) = true → rdP zs = reqP (ufX zs) ∧ rdE zs = 0) := fun e => rd_yes hB e
    clear hB
    obtain ⟨x, hx⟩ : ∃ x, ufX zs = x := ⟨_, rfl⟩
    have HXX := hid hx
    rw [hx] at HX HNO HYE
    clear hx
    go_enter Try.func13, Try.ntmps13
    go_upto_region 2 with (first | (go_at_call 23; have kill := V1.out; refine (unf20 _ _ _ zs _ (HG.out.below L1.out) hl).mono ?_; rintro e w2 ⟨a2, n2, c2, rfl, m2⟩; rw [HB.out]; have M2 := hid m2; have L2 := hid (sq L1.out m2.2); have V2 := hid (V1.out.below m2.2); clear m2 kill V1 L1) | (refine al25 rfl rfl ?_; intro b1 w1 hb1 v1 l1; have V1 := hid v1; have L1 := hid l1; clear v1 l1))
    rw [HXX.out] at M2
    have ca := M2.out.1.caps
    have ca1 := ca.2.1
    have ca2 := ca.2.2
    clear ca
    have hn : x.length = n2 := M2.out.1.len
    have G2 := hid (M2.out.given HX.out.1)
    have hx5 : n2 ≤ 500 := by rw [← hn]; exact HX.out.2
    clear M2
    by_cases h25 : n2 < 25
    · have HE := hid (HNO.out (req_short (by omega)))
      have hd : decide ((n2 : Int) < 25) = true := decide_eq_true (by omega)
      clear hn
      go_wp2_with (first | (have kill := V2.out; refine st25 (r := Ps.zero) V2.out L2.out hb1 rfl _ _ rfl rfl rfl ?_; intro w9 v9 l9; have V9 := hid v9; have L9 := hid l9; clear v9 l9 kill V2) | (have kill := V2.out; refine bd25 rfl rfl ?_))
      refine bodyPost_ret (results_c2 Try.results13 _ _ rfl rfl rfl V9.out) rfl ⟨?_, L9.out⟩
      rw [HE.out.1, HE.out.2]; rfl
    · have hd : decide ((n2 : Int) < 25) = false := decide_eq_false (by omega)
      have h26 : 25 ≤ n2 := by omega
      obtain ⟨bb, oo, hao, hc⟩ := G2.out.cell 0 (by omega)
      subst hao
      rw [Nat.add_zero] at hc
      by_cases hh : x.getD 0 0 = 80
      · rw [hh] at hc
        obtain ⟨s1, r1, g1, _⟩ := sub_lh (ao := some ⟨bb, oo, none⟩) (len := n2) (cap := c2) 1 6 (by omega) (by omega) ca1
        obtain ⟨s2, r2, g2, _⟩ := sub_lh (ao := some ⟨bb, oo, none⟩) (len := n2) (cap := c2) 6 12 (by omega) (by omega) ca1
        obtain ⟨s3, r3, g3, _⟩ := sub_lh (ao := some ⟨bb, oo, none⟩) (len := n2) (cap := c2) 12 24 (by omega) (by omega) ca1
        obtain ⟨s4, r4, g4, _⟩ := sub_l (ao := some ⟨bb, oo, none⟩) (len := n2) (cap := c2) 24 24 rfl (by omega) ca1
        have G21 := g1 _ _ G2.out
        have G22 := g2 _ _ G2.out
        have G23 := g3 _ _ G2.out
        have G24 := g4 _ _ G2.out
        have q1 := run_str w2 s1 (pc x 1 5) 5 (c2 - 1) G21.leq G21.row
        have q2 := run_str w2 s2 (pc x 6 6) 6 (c2 - 6) G22.leq G22.row
        have q3 := run_str w2 s3 (pc x 12 12) 12 (c2 - 12) G23.leq G23.row
        have q4 := run_str w2 s4 (x.drop 24) (n2 - 24) (c2 - 24) G24.leq G24.row
        have r1' : ∀ w, (Instr.sliceAt 26 (.slice (some ⟨bb, oo, none⟩) n2 c2) (some (.int .i64 1)) (some (.int .i64 6)) none).run Try.prog w = .ok (.slice s1 5 (c2 - 1)) w := r1
        have r2' : ∀ w, (Instr.sliceAt 26 (.slice (some ⟨bb, oo, none⟩) n2 c2) (some (.int .i64 6)) (some (.int .i64 12)) none).run Try.prog w = .ok (.slice s2 6 (c2 - 6)) w := r2
        have r3' : ∀ w, (Instr.sliceAt 26 (.slice (some ⟨bb, oo, none⟩) n2 c2) (some (.int .i64 12)) (some (.int .i64 24)) none).run Try.prog w = .ok (.slice s3 12 (c2 - 12)) w := r3
        clear r1 r2 r3 g1 g2 g3 g4 G21 G22 G23 G24
        have z1 : (fT x).size = 5 := by unfold fT; rw [strOfNums_size]; exact pc_lenX x 1 5 (by omega)
        have z2 : (fS x).size = 6 := by unfold fS; rw [strOfNums_size]; exact pc_lenX x 6 6 (by omega)
        have z3 : (fA x).size = 12 := by unfold fA; rw [strOfNums_size]; exact pc_lenX x 12 12 (by omega)
        have z4 : (fP x).size = n2 - 24 := by unfold fP; rw [strOfNums_size, List.length_drop, hn]
        have b1 := numV_bd 5 z1
        have b2 := numV_bd 6 z2
        have b3 := numV_bd 12 z3
        have HQ1 := hid (@nums_1 x)
        have HQ2 := hid (@nums_2 x)
        have HQ3 := hid (@nums_3 x)
        have HQ4 := hid (@nums_4 x)
        have HQ5 := hid (@nums_all x)
        have hrp : reqP x = ⟨numV (fT x), numV (fS x), fP x, numV (fA x)⟩ := rfl
        have HRP := hid hrp
        have q1' : (convert 26 9 (.slice s1 5 (c2 - 1))).run Try.prog w2 = .ok (.string (fT x)) w2 := q1
        have q2' : (convert 26 9 (.slice s2 6 (c2 - 6))).run Try.prog w2 = .ok (.string (fS x)) w2 := q2
        have q3' : (convert 26 9 (.slice s3 12 (c2 - 12))).run Try.prog w2 = .ok (.string (fA x)) w2 := q3
        have q4' : (convert 26 9 (.slice s4 (n2 - 24) (c2 - 24))).run Try.prog w2 = .ok (.string (fP x)) w2 := q4
        clear q1 q2 q3 q4 hrp
        have hno1 := numV_no (s := fT x)
        obtain ⟨tv, htv⟩ : ∃ v, numV (fT x) = v := ⟨_, rfl⟩
        obtain ⟨tk, htk⟩ : ∃ v, numOk (fT x) = v := ⟨_, rfl⟩
        obtain ⟨sv, hsv⟩ : ∃ v, numV (fS x) = v := ⟨_, rfl⟩
        obtain ⟨sk, hsk⟩ : ∃ v, numOk (fS x) = v := ⟨_, rfl⟩
        obtain ⟨av, hav⟩ : ∃ v, numV (fA x) = v := ⟨_, rfl⟩
        obtain ⟨ak, hak⟩ : ∃ v, numOk (fA x) = v := ⟨_, rfl⟩
        have HT : Hid ((fT x).size ≤ 9223372036854775807 ∧ numV (fT x) = tv ∧ numOk (fT x) = tk) := ⟨by omega, htv, htk⟩
        have HS : Hid ((fS x).size ≤ 9223372036854775807 ∧ numV (fS x) = sv ∧ numOk (fS x) = sk) := ⟨by omega, hsv, hsk⟩
        have HA : Hid ((fA x).size ≤ 9223372036854775807 ∧ numV (fA x) = av ∧ numOk (fA x) = ak) := ⟨by omega, hav, hak⟩
        rw [htv, hsv, hav] at HRP
        rw [htk] at HQ1 HQ2 HQ3 HQ4 HQ5 hno1
        rw [hsk] at HQ2 HQ3 HQ4 HQ5
        rw [hak] at HQ3 HQ4 HQ5
        rw [htv] at HQ4 HQ5 b1 hno1
        rw [hsv] at b2
        rw [hav] at b3
        have t0 : 0 ≤ tv := b1.1
        have t1 : tv < 100000 := by have := b1.2; omega
        have u0 : 0 ≤ sv := b2.1
        have u1 : sv < 1000000 := by have := b2.2; omega
        have K3 : Hid True := trivial
        have HH := hid hh
        have HP : Hid ((fP x).size ≤ 9223372036854775807) := by unfold Hid; rw [z4]; omega
        obtain ⟨tx, htx⟩ : ∃ t, fT x = t := ⟨_, rfl⟩
        obtain ⟨sx, hsx⟩ : ∃ t, fS x = t := ⟨_, rfl⟩
        obtain ⟨ax, hax⟩ : ∃ t, fA x = t := ⟨_, rfl⟩
        obtain ⟨pn, hpn⟩ : ∃ t, fP x = t := ⟨_, rfl⟩
        obtain ⟨k1, hk1⟩ : ∃ k, c2 - 1 = k := ⟨_, rfl⟩
        obtain ⟨k2, hk2⟩ : ∃ k, c2 - 6 = k := ⟨_, rfl⟩
        obtain ⟨k3, hk3⟩ : ∃ k, c2 - 12 = k := ⟨_, rfl⟩
        obtain ⟨k4, hk4⟩ : ∃ k, c2 - 24 = k := ⟨_, rfl⟩
        obtain ⟨m4, hm4⟩ : ∃ k, n2 - 24 = k := ⟨_, rfl⟩
        rw [htx] at q1' HT
        rw [hsx] at q2' HS
        rw [hax] at q3' HA
        rw [hpn] at q4' HP HRP
        rw [hk1] at q1' r1'
        rw [hk2] at q2' r2'
        rw [hk3] at q3' r3'
        rw [hk4, hm4] at q4' r4
        have HX25 : Hid (25 ≤ x.length) := by unfold Hid; rw [hn]; exact h26
        clear z1 z2 z3 z4 b1 b2 b3 htv htk hsv hsk hav hak hh hn htx hsx hax hpn hk1 hk2 hk3 hk4 hm4
        cases tk
        · have HE := hid (HNO.out (req_nums (HQ1.out rfl)))
          have e0 : tv = 0 := hno1 rfl
          subst e0
          clear HQ1 HQ2 HQ3 HQ4 HQ5 HRP HP hno1 t0 t1
          go_wp2_with (first | (have kill := V6.out; refine st25 (r := Ps.zero) V6.out L6.out hb1 rfl _ _ rfl rfl rfl ?_; intro w9 v9 l9; have V9 := hid v9; have L9 := hid l9; clear v9 l9 kill V6) | (have kill := V6.out; refine bd25 rfl rfl ?_) | (have kill := X5.out; refine st25 (r := ⟨0, sv, pn, av⟩) X5.out Y5.out hb5 rfl _ _ rfl rfl rfl ?_; intro w6 v6 l6; have V6 := hid (V2X.out.below l6); have L6 := hid (sq L2.out l6); have X6 := hid v6; clear v6 l6 kill X5 Y5) | (have kill := K7.out; refine al25 rfl rfl ?_; intro b5 w5 hb5 v5 l5; have X5 := hid v5; have Y5 := hid l5; have V2X := hid V2.out; clear v5 l5 kill K7 V2) | (have kill := K6.out; refine bdP25 (r := ⟨0, sv, pn, av⟩) rfl _ _ _ _ rfl rfl rfl rfl rfl ?_; have K7 : Hid True := trivial; clear kill K6) | (go_at_call 24; have kill := K5.out; refine (num9 _ _ HA.out.1).mono ?_; rintro e w3 ⟨rfl, rfl⟩; rw [HA.out.2.1, HA.out.2.2]; clear kill K5; have K6 : Hid True := trivial) | (go_at_call 24; have kill := K4.out; refine (num9 _ _ HS.out.1).mono ?_; rintro e w3 ⟨rfl, rfl⟩; rw [HS.out.2.1, HS.out.2.2]; clear kill K4; have K5 : Hid True := trivial) | (go_at_call 24; have kill := K3.out; refine (num9 _ _ HT.out.1).mono ?_; rintro e w3 ⟨rfl, rfl⟩; rw [HT.out.2.1, HT.out.2.2]; clear kill K3; have K4 : Hid True := trivial))
          refine bodyPost_ret (results_c2 Try.results13 _ _ rfl rfl rfl V9.out) rfl ⟨?_, L9.out⟩
          rw [HE.out.1, HE.out.2]; rfl
        · clear hno1
          by_cases ht : tv ≤ 65535
          · have dgt : decide (65535 < tv) = false := decide_eq_false (by omega)
            cases sk
            · have HE := hid (HNO.out (req_nums (HQ2.out rfl rfl)))
              clear HQ1 HQ2 HQ3 HQ4 HQ5 HRP HP
              go_wp2_with (first | (have kill := V6.out; refine st25 (r := Ps.zero) V6.out L6.out hb1 rfl _ _ rfl rfl rfl ?_; intro w9 v9 l9; have V9 := hid v9; have L9 := hid l9; clear v9 l9 kill V6) | (have kill := V6.out; refine bd25 rfl rfl ?_) | (have kill := X5.out; refine st25 (r := ⟨tv, sv, pn, av⟩) X5.out Y5.out hb5 rfl _ _ rfl rfl rfl ?_; intro w6 v6 l6; have V6 := hid (V2X.out.below l6); have L6 := hid (sq L2.out l6); have X6 := hid v6; clear v6 l6 kill X5 Y5) | (have kill := K7.out; refine al25 rfl rfl ?_; intro b5 w5 hb5 v5 l5; have X5 := hid v5; have Y5 := hid l5; have V2X := hid V2.out; clear v5 l5 kill K7 V2) | (have kill := K6.out; refine bdP25 (r := ⟨tv, sv, pn, av⟩) rfl _ _ _ _ rfl rfl rfl rfl rfl ?_; have K7 : Hid True := trivial; clear kill K6) | (go_at_call 24; have kill := K5.out; refine (num9 _ _ HA.out.1).mono ?_; rintro e w3 ⟨rfl, rfl⟩; rw [HA.out.2.1, HA.out.2.2]; clear kill K5; have K6 : Hid True := trivial) | (go_at_call 24; have kill := K4.out; refine (num9 _ _ HS.out.1).mono ?_; rintro e w3 ⟨rfl, rfl⟩; rw [HS.out.2.1, HS.out.2.2]; clear kill K4; have K5 : Hid True := trivial) | (go_at_call 24; have kill := K3.out; refine (num9 _ _ HT.out.1).mono ?_; rintro e w3 ⟨rfl, rfl⟩; rw [HT.out.2.1, HT.out.2.2]; clear kill K3; have K4 : Hid True := trivial))
              refine bodyPost_ret (results_c2 Try.results13 _ _ rfl rfl rfl V9.out) rfl ⟨?_, L9.out⟩
              rw [HE.out.1, HE.out.2]; rfl
            · cases ak
              · have HE := hid (HNO.out (req_nums (HQ3.out rfl rfl rfl)))
                clear HQ1 HQ2 HQ3 HQ4 HQ5 HRP HP
                go_wp2_with (first | (have kill := V6.out; refine st25 (r := Ps.zero) V6.out L6.out hb1 rfl _ _ rfl rfl rfl ?_; intro w9 v9 l9; have V9 := hid v9; have L9 := hid l9; clear v9 l9 kill V6) | (have kill := V6.out; refine bd25 rfl rfl ?_) | (have kill := X5.out; refine st25 (r := ⟨tv, sv, pn, av⟩) X5.out Y5.out hb5 rfl _ _ rfl rfl rfl ?_; intro w6 v6 l6; have V6 := hid (V2X.out.below l6); have L6 := hid (sq L2.out l6); have X6 := hid v6; clear v6 l6 kill X5 Y5) | (have kill := K7.out; refine al25 rfl rfl ?_; intro b5 w5 hb5 v5 l5; have X5 := hid v5; have Y5 := hid l5; have V2X := hid V2.out; clear v5 l5 kill K7 V2) | (have kill := K6.out; refine bdP25 (r := ⟨tv, sv, pn, av⟩) rfl _ _ _ _ rfl rfl rfl rfl rfl ?_; have K7 : Hid True := trivial; clear kill K6) | (go_at_call 24; have kill := K5.out; refine (num9 _ _ HA.out.1).mono ?_; rintro e w3 ⟨rfl, rfl⟩; rw [HA.out.2.1, HA.out.2.2]; clear kill K5; have K6 : Hid True := trivial) | (go_at_call 24; have kill := K4.out; refine (num9 _ _ HS.out.1).mono ?_; rintro e w3 ⟨rfl, rfl⟩; rw [HS.out.2.1, HS.out.2.2]; clear kill K4; have K5 : Hid True := trivial) | (go_at_call 24; have kill := K3.out; refine (num9 _ _ HT.out.1).mono ?_; rintro e w3 ⟨rfl, rfl⟩; rw [HT.out.2.1, HT.out.2.2]; clear kill K3; have K4 : Hid True := trivial))
                refine bodyPost_ret (results_c2 Try.results13 _ _ rfl rfl rfl V9.out) rfl ⟨?_, L9.out⟩
                rw [HE.out.1, HE.out.2]; rfl
              · have HN := hid (HQ5.out rfl rfl rfl ht)
                clear HQ1 HQ2 HQ3 HQ4 HQ5
                cases hr : rightL ⟨tv, sv, pn, av⟩
                · have HE := hid (HNO.out (req_right (x := x) (by rw [HRP.out]; exact hr)))
                  have HR := hid hr
                  clear hr HRP
                  go_wp2_with (first | (have kill := V7.out; refine st25 (r := Ps.zero) V7.out L7.out hb1 rfl _ _ rfl rfl rfl ?_; intro w9 v9 l9; have V9 := hid v9; have L9 := hid l9; clear v9 l9 kill V7) | (have kill := V7.out; refine bd25 rfl rfl ?_) | (go_at_call 11; have kill := X6.out; refine (right11 ⟨tv, sv, pn, av⟩ _ HP.out).mono ?_; rintro e w7 ⟨rfl, l7⟩; rw [HR.out]; have V7 := hid (V6.out.below l7); have L7 := hid (sq L6.out l7); have X7 := hid (X6.out.below l7); clear l7 kill X6 V6) | (have kill := X6.out; refine ldw25 X6.out _ rfl (by kernel_rfl) rfl ?_) | (have kill := X5.out; refine st25 (r := ⟨tv, sv, pn, av⟩) X5.out Y5.out hb5 rfl _ _ rfl rfl rfl ?_; intro w6 v6 l6; have V6 := hid (V2X.out.below l6); have L6 := hid (sq L2.out l6); have X6 := hid v6; clear v6 l6 kill X5 Y5) | (have kill := K7.out; refine al25 rfl rfl ?_; intro b5 w5 hb5 v5 l5; have X5 := hid v5; have Y5 := hid l5; have V2X := hid V2.out; clear v5 l5 kill K7 V2) | (have kill := K6.out; refine bdP25 (r := ⟨tv, sv, pn, av⟩) rfl _ _ _ _ rfl rfl rfl rfl rfl ?_; have K7 : Hid True := trivial; clear kill K6) | (go_at_call 24; have kill := K5.out; refine (num9 _ _ HA.out.1).mono ?_; rintro e w3 ⟨rfl, rfl⟩; rw [HA.out.2.1, HA.out.2.2]; clear kill K5; have K6 : Hid True := trivial) | (go_at_call 24; have kill := K4.out; refine (num9 _ _ HS.out.1).mono ?_; rintro e w3 ⟨rfl, rfl⟩; rw [HS.out.2.1, HS.out.2.2]; clear kill K4; have K5 : Hid True := trivial) | (go_at_call 24; have kill := K3.out; refine (num9 _ _ HT.out.1).mono ?_; rintro e w3 ⟨rfl, rfl⟩; rw [HT.out.2.1, HT.out.2.2]; clear kill K3; have K4 : Hid True := trivial))
                  refine bodyPost_ret (results_c2 Try.results13 _ _ rfl rfl rfl V9.out) rfl ⟨?_, L9.out⟩
                  rw [HE.out.1, HE.out.2]; rfl
                · have HE : Hid (rdP zs = ⟨tv, sv, pn, av⟩ ∧ rdE zs = 0) := by
                    have := HYE.out (req_all HX25.out HH.out HN.out (by rw [HRP.out]; exact hr))
                    rwa [HRP.out] at this
                  have HR := hid hr
                  clear hr HRP
                  go_wp2_with (first | (have kill := V7.out; refine st25 (r := ⟨tv, sv, pn, av⟩) V7.out L7.out hb1 rfl _ _ rfl rfl rfl ?_; intro w9 v9 l9; have V9 := hid v9; have L9 := hid l9; clear v9 l9 kill V7) | (have kill := X7.out; refine ld25 X7.out rfl _ rfl rfl ?_) | (go_at_call 11; have kill := X6.out; refine (right11 ⟨tv, sv, pn, av⟩ _ HP.out).mono ?_; rintro e w7 ⟨rfl, l7⟩; rw [HR.out]; have V7 := hid (V6.out.below l7); have L7 := hid (sq L6.out l7); have X7 := hid (X6.out.below l7); clear l7 kill X6 V6) | (have kill := X6.out; refine ldw25 X6.out _ rfl (by kernel_rfl) rfl ?_) | (have kill := X5.out; refine st25 (r := ⟨tv, sv, pn, av⟩) X5.out Y5.out hb5 rfl _ _ rfl rfl rfl ?_; intro w6 v6 l6; have V6 := hid (V2X.out.below l6); have L6 := hid (sq L2.out l6); have X6 := hid v6; clear v6 l6 kill X5 Y5) | (have kill := K7.out; refine al25 rfl rfl ?_; intro b5 w5 hb5 v5 l5; have X5 := hid v5; have Y5 := hid l5; have V2X := hid V2.out; clear v5 l5 kill K7 V2) | (have kill := K6.out; refine bdP25 (r := ⟨tv, sv, pn, av⟩) rfl _ _ _ _ rfl rfl rfl rfl rfl ?_; have K7 : Hid True := trivial; clear kill K6) | (go_at_call 24; have kill := K5.out; refine (num9 _ _ HA.out.1).mono ?_; rintro e w3 ⟨rfl, rfl⟩; rw [HA.out.2.1, HA.out.2.2]; clear kill K5; have K6 : Hid True := trivial) | (go_at_call 24; have kill := K4.out; refine (num9 _ _ HS.out.1).mono ?_; rintro e w3 ⟨rfl, rfl⟩; rw [HS.out.2.1, HS.out.2.2]; clear kill K4; have K5 : Hid True := trivial) | (go_at_call 24; have kill := K3.out; refine (num9 _ _ HT.out.1).mono ?_; rintro e w3 ⟨rfl, rfl⟩; rw [HT.out.2.1, HT.out.2.2]; clear kill K3; have K4 : Hid True := trivial))
                  refine bodyPost_ret (results_c2 Try.results13 _ _ rfl rfl rfl V9.out) rfl ⟨?_, L9.out⟩
                  rw [HE.out.1, HE.out.2]; rfl
          · have dgt : decide (65535 < tv) = true := decide_eq_true (by omega)
            obtain ⟨tw, htw⟩ : ∃ t, IntKind.u16.wrap tv = t := ⟨_, rfl⟩
            cases sk
            · have HE := hid (HNO.out (req_nums (HQ2.out rfl rfl)))
              clear HQ1 HQ2 HQ3 HQ4 HQ5 HRP HP
              go_wp2_with (first | (have kill := V6.out; refine st25 (r := Ps.zero) V6.out L6.out hb1 rfl _ _ rfl rfl rfl ?_; intro w9 v9 l9; have V9 := hid v9; have L9 := hid l9; clear v9 l9 kill V6) | (have kill := V6.out; refine bd25 rfl rfl ?_) | (have kill := X5.out; refine st25 (r := ⟨tw, sv, pn, av⟩) X5.out Y5.out hb5 rfl _ _ rfl rfl rfl ?_; intro w6 v6 l6; have V6 := hid (V2X.out.below l6); have L6 := hid (sq L2.out l6); have X6 := hid v6; clear v6 l6 kill X5 Y5) | (have kill := K7.out; refine al25 rfl rfl ?_; intro b5 w5 hb5 v5 l5; have X5 := hid v5; have Y5 := hid l5; have V2X := hid V2.out; clear v5 l5 kill K7 V2) | (have kill := K6.out; refine bdP25 (r := ⟨tw, sv, pn, av⟩) rfl _ _ _ _ rfl rfl rfl rfl rfl ?_; have K7 : Hid True := trivial; clear kill K6) | (go_at_call 24; have kill := K5.out; refine (num9 _ _ HA.out.1).mono ?_; rintro e w3 ⟨rfl, rfl⟩; rw [HA.out.2.1, HA.out.2.2]; clear kill K5; have K6 : Hid True := trivial) | (go_at_call 24; have kill := K4.out; refine (num9 _ _ HS.out.1).mono ?_; rintro e w3 ⟨rfl, rfl⟩; rw [HS.out.2.1, HS.out.2.2]; clear kill K4; have K5 : Hid True := trivial) | (go_at_call 24; have kill := K3.out; refine (num9 _ _ HT.out.1).mono ?_; rintro e w3 ⟨rfl, rfl⟩; rw [HT.out.2.1, HT.out.2.2]; clear kill K3; have K4 : Hid True := trivial))
              refine bodyPost_ret (results_c2 Try.results13 _ _ rfl rfl rfl V9.out) rfl ⟨?_, L9.out⟩
              rw [HE.out.1, HE.out.2]; rfl
            · cases ak
              · have HE := hid (HNO.out (req_nums (HQ3.out rfl rfl rfl)))
                clear HQ1 HQ2 HQ3 HQ4 HQ5 HRP HP
                go_wp2_with (first | (have kill := V6.out; refine st25 (r := Ps.zero) V6.out L6.out hb1 rfl _ _ rfl rfl rfl ?_; intro w9 v9 l9; have V9 := hid v9; have L9 := hid l9; clear v9 l9 kill V6) | (have kill := V6.out; refine bd25 rfl rfl ?_) | (have kill := X5.out; refine st25 (r := ⟨tw, sv, pn, av⟩) X5.out Y5.out hb5 rfl _ _ rfl rfl rfl ?_; intro w6 v6 l6; have V6 := hid (V2X.out.below l6); have L6 := hid (sq L2.out l6); have X6 := hid v6; clear v6 l6 kill X5 Y5) | (have kill := K7.out; refine al25 rfl rfl ?_; intro b5 w5 hb5 v5 l5; have X5 := hid v5; have Y5 := hid l5; have V2X := hid V2.out; clear v5 l5 kill K7 V2) | (have kill := K6.out; refine bdP25 (r := ⟨tw, sv, pn, av⟩) rfl _ _ _ _ rfl rfl rfl rfl rfl ?_; have K7 : Hid True := trivial; clear kill K6) | (go_at_call 24; have kill := K5.out; refine (num9 _ _ HA.out.1).mono ?_; rintro e w3 ⟨rfl, rfl⟩; rw [HA.out.2.1, HA.out.2.2]; clear kill K5; have K6 : Hid True := trivial) | (go_at_call 24; have kill := K4.out; refine (num9 _ _ HS.out.1).mono ?_; rintro e w3 ⟨rfl, rfl⟩; rw [HS.out.2.1, HS.out.2.2]; clear kill K4; have K5 : Hid True := trivial) | (go_at_call 24; have kill := K3.out; refine (num9 _ _ HT.out.1).mono ?_; rintro e w3 ⟨rfl, rfl⟩; rw [HT.out.2.1, HT.out.2.2]; clear kill K3; have K4 : Hid True := trivial))
                refine bodyPost_ret (results_c2 Try.results13 _ _ rfl rfl rfl V9.out) rfl ⟨?_, L9.out⟩
                rw [HE.out.1, HE.out.2]; rfl
              · have HE := hid (HNO.out (req_nums (HQ4.out rfl rfl rfl ht)))
                clear HQ1 HQ2 HQ3 HQ4 HQ5 HRP HP
                go_wp2_with (first | (have kill := V6.out; refine st25 (r := Ps.zero) V6.out L6.out hb1 rfl _ _ rfl rfl rfl ?_; intro w9 v9 l9; have V9 := hid v9; have L9 := hid l9; clear v9 l9 kill V6) | (have kill := V6.out; refine bd25 rfl rfl ?_) | (have kill := X5.out; refine st25 (r := ⟨tw, sv, pn, av⟩) X5.out Y5.out hb5 rfl _ _ rfl rfl rfl ?_; intro w6 v6 l6; have V6 := hid (V2X.out.below l6); have L6 := hid (sq L2.out l6); have X6 := hid v6; clear v6 l6 kill X5 Y5) | (have kill := K7.out; refine al25 rfl rfl ?_; intro b5 w5 hb5 v5 l5; have X5 := hid v5; have Y5 := hid l5; have V2X := hid V2.out; clear v5 l5 kill K7 V2) | (have kill := K6.out; refine bdP25 (r := ⟨tw, sv, pn, av⟩) rfl _ _ _ _ rfl rfl rfl rfl rfl ?_; have K7 : Hid True := trivial; clear kill K6) | (go_at_call 24; have kill := K5.out; refine (num9 _ _ HA.out.1).mono ?_; rintro e w3 ⟨rfl, rfl⟩; rw [HA.out.2.1, HA.out.2.2]; clear kill K5; have K6 : Hid True := trivial) | (go_at_call 24; have kill := K4.out; refine (num9 _ _ HS.out.1).mono ?_; rintro e w3 ⟨rfl, rfl⟩; rw [HS.out.2.1, HS.out.2.2]; clear kill K4; have K5 : Hid True := trivial) | (go_at_call 24; have kill := K3.out; refine (num9 _ _ HT.out.1).mono ?_; rintro e w3 ⟨rfl, rfl⟩; rw [HT.out.2.1, HT.out.2.2]; clear kill K3; have K4 : Hid True := trivial))
                refine bodyPost_ret (results_c2 Try.results13 _ _ rfl rfl rfl V9.out) rfl ⟨?_, L9.out⟩
                rw [HE.out.1, HE.out.2]; rfl
      · have HE := hid (HNO.out (req_head hh))
        have hc8 := byt_getD HX.out.1 0
        obtain ⟨c, hcc⟩ : ∃ c, x.getD 0 0 = c := ⟨_, rfl⟩
        rw [hcc] at hc hh hc8
        have hc0 : 0 ≤ c := hc8.1
        have hc1 : c < 256 := hc8.2
        clear hn hcc hc8
        go_wp2_with (first | (have kill := V2.out; refine st25 (r := Ps.zero) V2.out L2.out hb1 rfl _ _ rfl rfl rfl ?_; intro w9 v9 l9; have V9 := hid v9; have L9 := hid l9; clear v9 l9 kill V2) | (have kill := V2.out; refine bd25 rfl rfl ?_))
        refine bodyPost_ret (results_c2 Try.results13 _ _ rfl rfl rfl V9.out) rfl ⟨?_, L9.out⟩
        rw [HE.out.1, HE.out.2]; rfl
end Go.Proofs.Ythchgjndaeefmaa
