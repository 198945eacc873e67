/- What the code reads a request's text as. -/
import Derived.Test.YthchgjndaeefmaaExts
namespace Go.Proofs.Ythchgjndaeefmaa
open Go.ChangeShapes Go.WideShapes Go.ChangeAt Go.RowKit

def ReqAns (w : World) (x : List Int) (e : Ending) (w' : World) : Prop := e = .returned (.tuple #[(reqL x).val, .bool (reqB x)]) ∧ Below w.heap.size w w'
set_option maxHeartbeats 8000000 in
theorem request22 (x : List Int) (w : World) (hb : Byt x) (hl : x.length ≤ 900000) : Calls Try.prog 22 #[.string (strOfNums x)] w (ReqAns w x) := by
  have e1 := ext_str x 1 6 5 rfl
  have e2 := ext_str x 6 12 6 rfl
  have e3 := ext_str x 12 24 12 rfl
  have e4 := ext_rest x 24 (strOfNums x).size (strOfNums_size x).symm
  have h80 := head80 x hb
  obtain ⟨s, hs⟩ : ∃ s, strOfNums x = s := ⟨_, rfl⟩
  have hsz : s.size = x.length := by rw [← hs, strOfNums_size]
  rw [hs] at e1 e2 e3 e4 h80 ⊢
  clear hs
  have hbig : s.size ≤ 9223372036854775807 := by omega
  by_cases h24 : s.size < 24
  · have HE := hid (req_no (req_short (x := x) (by omega)))
    have HD : Hid True := trivial
    clear e1 e2 e3 e4 h80 hsz hb hl
    go_enter Try.func22, Try.ntmps22
    go_wp2_with (first | (have kill := V1.out; refine st25 (r := Ps.zero) V1.out L1.out hb1 rfl _ _ rfl rfl rfl ?_; intro w9 v9 l9; have V9 := hid v9; have L9 := hid l9; clear v9 l9 kill V1) | (have kill := V1.out; refine bd25 rfl rfl ?_) | (refine al25 rfl rfl ?_; intro b1 w1 hb1 v1 l1; have V1 := hid v1; have L1 := hid l1; clear v1 l1))
    refine bodyPost_ret (results_c1 Try.results22 _ _ rfl rfl V9.out) rfl ⟨?_, L9.out⟩
    rw [HE.out.1, HE.out.2]; rfl
  · have h24' : 24 ≤ s.size := by omega
    have h81 := h80 (by omega)
    clear h80
    have hd : decide ((s.size : Int) < 24) = false := decide_eq_false (by omega)
    by_cases hh : x.getD 0 0 = 80
    · rw [decide_eq_true hh] at h81
      have z1 : (fT x).size = 5 := by unfold fT; rw [strOfNums_size]; exact pc_lenX x 1 5 (by omega)
      have z2 : (fS x).size = 6 := by unfold fS; rw [strOfNums_size]; exact pc_lenX x 6 6 (by omega)
      have z3 : (fA x).size = 12 := by unfold fA; rw [strOfNums_size]; exact pc_lenX x 12 12 (by omega)
      have b1 := numV_bd 5 z1
      have b2 := numV_bd 6 z2
      have b3 := numV_bd 12 z3
      have HQ1 := hid (@nums_1 x)
      have HQ2 := hid (@nums_2 x)
      have HQ3 := hid (@nums_3 x)
      have HQ4 := hid (@nums_4 x)
      have HQ5 := hid (@nums_all x)
      have HRP : Hid (reqP x = ⟨numV (fT x), numV (fS x), s.extract 24 s.size, numV (fA x)⟩) := by unfold Hid reqP fP; rw [e4]
      obtain ⟨tv, htv⟩ : ∃ v, numV (fT x) = v := ⟨_, rfl⟩
      obtain ⟨tk, htk⟩ : ∃ v, numOk (fT x) = v := ⟨_, rfl⟩
      obtain ⟨sv, hsv⟩ : ∃ v, numV (fS x) = v := ⟨_, rfl⟩
      obtain ⟨sk, hsk⟩ : ∃ v, numOk (fS x) = v := ⟨_, rfl⟩
      obtain ⟨av, hav⟩ : ∃ v, numV (fA x) = v := ⟨_, rfl⟩
      obtain ⟨ak, hak⟩ : ∃ v, numOk (fA x) = v := ⟨_, rfl⟩
      have HT : Hid ((s.extract 1 6).size ≤ 9223372036854775807 ∧ numV (s.extract 1 6) = tv ∧ numOk (s.extract 1 6) = tk) := by
        unfold Hid; rw [e1]; exact ⟨by show (fT x).size ≤ _; omega, htv, htk⟩
      have HS : Hid ((s.extract 6 12).size ≤ 9223372036854775807 ∧ numV (s.extract 6 12) = sv ∧ numOk (s.extract 6 12) = sk) := by
        unfold Hid; rw [e2]; exact ⟨by show (fS x).size ≤ _; omega, hsv, hsk⟩
      have HA : Hid ((s.extract 12 24).size ≤ 9223372036854775807 ∧ numV (s.extract 12 24) = av ∧ numOk (s.extract 12 24) = ak) := by
        unfold Hid; rw [e3]; exact ⟨by show (fA x).size ≤ _; omega, hav, hak⟩
      rw [htv, hsv, hav] at HRP
      rw [htk] at HQ1 HQ2 HQ3 HQ4 HQ5
      rw [hsk] at HQ2 HQ3 HQ4 HQ5
      rw [hak] at HQ3 HQ4 HQ5
      rw [htv] at HQ4 HQ5 b1
      rw [hsv] at b2
      rw [hav] at b3
      have t0 : 0 ≤ tv := b1.1
      have t1 : tv < 100000 := by have := b1.2; omega
      have s0 : 0 ≤ sv := b2.1
      have s1 : sv < 1000000 := by have := b2.2; omega
      have K3 : Hid True := trivial
      have HH := hid hh
      have HSZ := hid hsz
      have HP : Hid ((s.extract 24 s.size).size ≤ 9223372036854775807) := by unfold Hid; rw [ByteArray.size_extract]; omega
      clear e1 e2 e3 e4 z1 z2 z3 b1 b2 b3 htv htk hsv hsk hav hak hh hsz hb hl
      cases tk
      · have HE := hid (req_no (req_nums (HQ1.out rfl)))
        clear HQ1 HQ2 HQ3 HQ4 HQ5 HRP HP
        go_enter Try.func22, Try.ntmps22
        go_wp2_with (first | (have kill := V1.out; refine st25 (r := Ps.zero) V1.out L1.out hb1 rfl _ _ rfl rfl rfl ?_; intro w9 v9 l9; have V9 := hid v9; have L9 := hid l9; clear v9 l9 kill V1) | (go_at_call 30; have kill := K5.out; refine (number8 _ _ HA.out.1).mono ?_; rintro e w2 ⟨rfl, rfl⟩; rw [HA.out.2.1, HA.out.2.2]; clear kill K5; have K6 : Hid True := trivial) | (go_at_call 30; have kill := K4.out; refine (number8 _ _ HS.out.1).mono ?_; rintro e w2 ⟨rfl, rfl⟩; rw [HS.out.2.1, HS.out.2.2]; clear kill K4; have K5 : Hid True := trivial) | (go_at_call 30; have kill := K3.out; refine (number8 _ _ HT.out.1).mono ?_; rintro e w2 ⟨rfl, rfl⟩; rw [HT.out.2.1, HT.out.2.2]; clear kill K3; have K4 : Hid True := trivial) | (have kill := V1.out; refine bd25 rfl rfl ?_) | (refine al25 rfl rfl ?_; intro b1 w1 hb1 v1 l1; have V1 := hid v1; have L1 := hid l1; clear v1 l1))
        refine bodyPost_ret (results_c1 Try.results22 _ _ rfl rfl V9.out) rfl ⟨?_, L9.out⟩
        rw [HE.out.1, HE.out.2]; rfl
      · cases sk
        · have HE := hid (req_no (req_nums (HQ2.out rfl rfl)))
          clear HQ1 HQ2 HQ3 HQ4 HQ5 HRP HP
          go_enter Try.func22, Try.ntmps22
          go_wp2_with (first | (have kill := V1.out; refine st25 (r := Ps.zero) V1.out L1.out hb1 rfl _ _ rfl rfl rfl ?_; intro w9 v9 l9; have V9 := hid v9; have L9 := hid l9; clear v9 l9 kill V1) | (go_at_call 30; have kill := K5.out; refine (number8 _ _ HA.out.1).mono ?_; rintro e w2 ⟨rfl, rfl⟩; rw [HA.out.2.1, HA.out.2.2]; clear kill K5; have K6 : Hid True := trivial) | (go_at_call 30; have kill := K4.out; refine (number8 _ _ HS.out.1).mono ?_; rintro e w2 ⟨rfl, rfl⟩; rw [HS.out.2.1, HS.out.2.2]; clear kill K4; have K5 : Hid True := trivial) | (go_at_call 30; have kill := K3.out; refine (number8 _ _ HT.out.1).mono ?_; rintro e w2 ⟨rfl, rfl⟩; rw [HT.out.2.1, HT.out.2.2]; clear kill K3; have K4 : Hid True := trivial) | (have kill := V1.out; refine bd25 rfl rfl ?_) | (refine al25 rfl rfl ?_; intro b1 w1 hb1 v1 l1; have V1 := hid v1; have L1 := hid l1; clear v1 l1))
          refine bodyPost_ret (results_c1 Try.results22 _ _ rfl rfl V9.out) rfl ⟨?_, L9.out⟩
          rw [HE.out.1, HE.out.2]; rfl
        · cases ak
          · have HE := hid (req_no (req_nums (HQ3.out rfl rfl rfl)))
            clear HQ1 HQ2 HQ3 HQ4 HQ5 HRP HP
            go_enter Try.func22, Try.ntmps22
            go_wp2_with (first | (have kill := V1.out; refine st25 (r := Ps.zero) V1.out L1.out hb1 rfl _ _ rfl rfl rfl ?_; intro w9 v9 l9; have V9 := hid v9; have L9 := hid l9; clear v9 l9 kill V1) | (go_at_call 30; have kill := K5.out; refine (number8 _ _ HA.out.1).mono ?_; rintro e w2 ⟨rfl, rfl⟩; rw [HA.out.2.1, HA.out.2.2]; clear kill K5; have K6 : Hid True := trivial) | (go_at_call 30; have kill := K4.out; refine (number8 _ _ HS.out.1).mono ?_; rintro e w2 ⟨rfl, rfl⟩; rw [HS.out.2.1, HS.out.2.2]; clear kill K4; have K5 : Hid True := trivial) | (go_at_call 30; have kill := K3.out; refine (number8 _ _ HT.out.1).mono ?_; rintro e w2 ⟨rfl, rfl⟩; rw [HT.out.2.1, HT.out.2.2]; clear kill K3; have K4 : Hid True := trivial) | (have kill := V1.out; refine bd25 rfl rfl ?_) | (refine al25 rfl rfl ?_; intro b1 w1 hb1 v1 l1; have V1 := hid v1; have L1 := hid l1; clear v1 l1))
            refine bodyPost_ret (results_c1 Try.results22 _ _ rfl rfl V9.out) rfl ⟨?_, L9.out⟩
            rw [HE.out.1, HE.out.2]; rfl
          · by_cases ht : tv ≤ 65535
            · have HN := hid (HQ5.out rfl rfl rfl ht)
              have hv : tv / 65536 = 0 := by omega
              cases hr : rightL ⟨tv, sv, s.extract 24 s.size, av⟩
              · have HE := hid (req_no (req_right (x := x) (by rw [HRP.out]; exact hr)))
                have HR := hid hr
                clear hr HQ1 HQ2 HQ3 HQ4 HQ5 HRP
                go_enter Try.func22, Try.ntmps22
                go_wp2_with (first | (have kill := V7.out; refine st25 (r := Ps.zero) V7.out L7.out hb1 rfl _ _ rfl rfl rfl ?_; intro w9 v9 l9; have V9 := hid v9; have L9 := hid l9; clear v9 l9 kill V7) | (have kill := V7.out; refine bd25 rfl rfl ?_) | (go_at_call 10; have kill := V6.out; refine (right10 ⟨tv, sv, s.extract 24 s.size, av⟩ _ HP.out).mono ?_; rintro e w7 ⟨rfl, l7⟩; rw [HR.out]; have V7 := hid (V1.out.below (sq L6.out l7)); have L7 := hid (sq L1.out (sq L6.out l7)); have X7 := hid (V6.out.below l7); clear l7 kill V6 L6) | (have kill := V6.out; refine ld25 V6.out rfl _ rfl rfl ?_) | (have kill := V5.out; refine st25 (r := ⟨tv, sv, s.extract 24 s.size, av⟩) V5.out L5.out hb5 rfl _ _ rfl rfl rfl ?_; intro w6 v6 l6; have V6 := hid v6; have L6 := hid l6; clear v6 l6 kill V5 L5) | (have kill := K7.out; refine al25 rfl rfl ?_; intro b5 w5 hb5 v5 l5; have V5 := hid v5; have L5 := hid l5; clear v5 l5 kill K7) | (have kill := K6.out; refine bdP25 (r := ⟨tv, sv, s.extract 24 s.size, av⟩) rfl _ _ _ _ rfl rfl rfl rfl rfl ?_; have K7 : Hid True := trivial; clear kill K6) | (go_at_call 30; have kill := K5.out; refine (number8 _ _ HA.out.1).mono ?_; rintro e w2 ⟨rfl, rfl⟩; rw [HA.out.2.1, HA.out.2.2]; clear kill K5; have K6 : Hid True := trivial) | (go_at_call 30; have kill := K4.out; refine (number8 _ _ HS.out.1).mono ?_; rintro e w2 ⟨rfl, rfl⟩; rw [HS.out.2.1, HS.out.2.2]; clear kill K4; have K5 : Hid True := trivial) | (go_at_call 30; have kill := K3.out; refine (number8 _ _ HT.out.1).mono ?_; rintro e w2 ⟨rfl, rfl⟩; rw [HT.out.2.1, HT.out.2.2]; clear kill K3; have K4 : Hid True := trivial) | (refine al25 rfl rfl ?_; intro b1 w1 hb1 v1 l1; have V1 := hid v1; have L1 := hid l1; clear v1 l1))
                refine bodyPost_ret (results_c1 Try.results22 _ _ rfl rfl V9.out) rfl ⟨?_, L9.out⟩
                rw [HE.out.1, HE.out.2]; rfl
              · have hx25 : 25 ≤ x.length := by
                  by_cases h : 25 ≤ x.length
                  · exact h
                  · have := right_24 (x := x) (by omega)
                    rw [HRP.out, hr] at this
                    cases this
                have HE : Hid (reqL x = ⟨tv, sv, s.extract 24 s.size, av⟩ ∧ reqB x = true) := by
                  have := req_yes (req_all hx25 HH.out HN.out (by rw [HRP.out]; exact hr))
                  rwa [HRP.out] at this
                have HR := hid hr
                clear hr hx25 HQ1 HQ2 HQ3 HQ4 HQ5 HRP
                go_enter Try.func22, Try.ntmps22
                go_wp2_with (first | (have kill := V7.out; refine st25 (r := ⟨tv, sv, s.extract 24 s.size, av⟩) V7.out L7.out hb1 rfl _ _ rfl rfl rfl ?_; intro w9 v9 l9; have V9 := hid v9; have L9 := hid l9; clear v9 l9 kill V7) | (have kill := X7.out; refine ld25 X7.out rfl _ rfl rfl ?_) | (go_at_call 10; have kill := V6.out; refine (right10 ⟨tv, sv, s.extract 24 s.size, av⟩ _ HP.out).mono ?_; rintro e w7 ⟨rfl, l7⟩; rw [HR.out]; have V7 := hid (V1.out.below (sq L6.out l7)); have L7 := hid (sq L1.out (sq L6.out l7)); have X7 := hid (V6.out.below l7); clear l7 kill V6 L6) | (have kill := V6.out; refine ld25 V6.out rfl _ rfl rfl ?_) | (have kill := V5.out; refine st25 (r := ⟨tv, sv, s.extract 24 s.size, av⟩) V5.out L5.out hb5 rfl _ _ rfl rfl rfl ?_; intro w6 v6 l6; have V6 := hid v6; have L6 := hid l6; clear v6 l6 kill V5 L5) | (have kill := K7.out; refine al25 rfl rfl ?_; intro b5 w5 hb5 v5 l5; have V5 := hid v5; have L5 := hid l5; clear v5 l5 kill K7) | (have kill := K6.out; refine bdP25 (r := ⟨tv, sv, s.extract 24 s.size, av⟩) rfl _ _ _ _ rfl rfl rfl rfl rfl ?_; have K7 : Hid True := trivial; clear kill K6) | (go_at_call 30; have kill := K5.out; refine (number8 _ _ HA.out.1).mono ?_; rintro e w2 ⟨rfl, rfl⟩; rw [HA.out.2.1, HA.out.2.2]; clear kill K5; have K6 : Hid True := trivial) | (go_at_call 30; have kill := K4.out; refine (number8 _ _ HS.out.1).mono ?_; rintro e w2 ⟨rfl, rfl⟩; rw [HS.out.2.1, HS.out.2.2]; clear kill K4; have K5 : Hid True := trivial) | (go_at_call 30; have kill := K3.out; refine (number8 _ _ HT.out.1).mono ?_; rintro e w2 ⟨rfl, rfl⟩; rw [HT.out.2.1, HT.out.2.2]; clear kill K3; have K4 : Hid True := trivial) | (refine al25 rfl rfl ?_; intro b1 w1 hb1 v1 l1; have V1 := hid v1; have L1 := hid l1; clear v1 l1))
                refine bodyPost_ret (results_c1 Try.results22 _ _ rfl rfl V9.out) rfl ⟨?_, L9.out⟩
                rw [HE.out.1, HE.out.2]; rfl
            · have HE := hid (req_no (req_nums (HQ4.out rfl rfl rfl ht)))
              have hv : (tv / 65536 == 0) = false := by simp; omega
              clear HQ1 HQ2 HQ3 HQ4 HQ5 HRP HP
              go_enter Try.func22, Try.ntmps22
              go_wp2_with (first | (have kill := V1.out; refine st25 (r := Ps.zero) V1.out L1.out hb1 rfl _ _ rfl rfl rfl ?_; intro w9 v9 l9; have V9 := hid v9; have L9 := hid l9; clear v9 l9 kill V1) | (go_at_call 30; have kill := K5.out; refine (number8 _ _ HA.out.1).mono ?_; rintro e w2 ⟨rfl, rfl⟩; rw [HA.out.2.1, HA.out.2.2]; clear kill K5; have K6 : Hid True := trivial) | (go_at_call 30; have kill := K4.out; refine (number8 _ _ HS.out.1).mono ?_; rintro e w2 ⟨rfl, rfl⟩; rw [HS.out.2.1, HS.out.2.2]; clear kill K4; have K5 : Hid True := trivial) | (go_at_call 30; have kill := K3.out; refine (number8 _ _ HT.out.1).mono ?_; rintro e w2 ⟨rfl, rfl⟩; rw [HT.out.2.1, HT.out.2.2]; clear kill K3; have K4 : Hid True := trivial) | (have kill := V1.out; refine bd25 rfl rfl ?_) | (refine al25 rfl rfl ?_; intro b1 w1 hb1 v1 l1; have V1 := hid v1; have L1 := hid l1; clear v1 l1))
              refine bodyPost_ret (results_c1 Try.results22 _ _ rfl rfl V9.out) rfl ⟨?_, L9.out⟩
              rw [HE.out.1, HE.out.2]; rfl
    · rw [decide_eq_false hh] at h81
      have HE := hid (req_no (req_head hh))
      clear e1 e2 e3 e4 hh hsz hb hl
      go_enter Try.func22, Try.ntmps22
      go_wp2_with (first | (have kill := V1.out; refine st25 (r := Ps.zero) V1.out L1.out hb1 rfl _ _ rfl rfl rfl ?_; intro w9 v9 l9; have V9 := hid v9; have L9 := hid l9; clear v9 l9 kill V1) | (have kill := V1.out; refine bd25 rfl rfl ?_) | (refine al25 rfl rfl ?_; intro b1 w1 hb1 v1 l1; have V1 := hid v1; have L1 := hid l1; clear v1 l1))
      refine bodyPost_ret (results_c1 Try.results22 _ _ rfl rfl V9.out) rfl ⟨?_, L9.out⟩
      rw [HE.out.1, HE.out.2]; rfl
end Go.Proofs.Ythchgjndaeefmaa
