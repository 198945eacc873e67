/- JournalRoom: a journal has so much room at least, and what has it goes in, one by one or in the place of all; for every number of sectors and records. -/
import Derived.Test.YthhgnflkplpklaaJKnown
namespace Go.Proofs.Ythhgnflkplpklaa
set_option maxRecDepth 20000
open Go.ChangeShapes Go.WideShapes Go.ChangeAt Go.RowKit
open Dsc (Dk Sec Dat Feet tc hid sq bel1 newD reopD cutD)
open Frm (Rc putL rightB bytesL num Given Mk Row RowAt RV al29 st29 ld29 seatR)
theorem add_no {w0 w : World} {p q : Nat} {d : Dk} {h : Hd} {l : List Rc} (j : JS w0 w p q d h l) {ao : Option Addr} {len cap : Nat} {rs : List Rc} (R : RG w ao len cap rs) (hg : Good rs) (hs : l.length + len ≤ 100000000) (h0 : d.left = 0) (N : Nat) (hN : d.secs.length = N) (hfit : (N - 1) / 2 * 64 < (frs (l ++ rs)).length) :
    Calls Try.prog 19 #[.pointer (some ⟨q, 0, none⟩), .slice ao len cap] w fun e w' => e = .returned (.int .i64 21) ∧ Kin w w' ∧ ∃ h', JS w0 w' p q d h' l := by
  subst hN
  refine (add_any j R hg hs).mono ?_
  rintro e w' ⟨z, rfl, k, ⟨rfl, f, _⟩ | ⟨rfl, _, h', j'⟩ | ⟨rfl, f, _⟩⟩
  · unfold arS at f; omega
  · exact ⟨rfl, k, h', j'⟩
  · omega
theorem RG.one {w : World} {b o len cap : Nat} {l : List Rc} (h : RG w (some ⟨b, o, Option.none⟩) len cap l) {k : Nat} {r : Rc} (hr : l[k]? = some r) : RG w (some ⟨b, o + k * 17, Option.none⟩) 1 (cap - k) [r] := by
  have hk : k < l.length := (List.getElem?_eq_some_iff.1 hr).1
  have hl := h.leq
  have hc := h.cap1
  have := (h.drop k (by omega)).take 1 (cap - k) (by omega) (by omega) (Nat.le_refl _)
  rwa [drop_at hr, List.take_succ_cons, List.take_zero] at this
theorem RG.blk {w : World} {b o len cap : Nat} {r : Rc} (h : RG w (some ⟨b, o, Option.none⟩) len cap [r]) : b < w.heap.size := by
  rcases h.row with e | ⟨b', o', e, _, c, f, hc⟩
  · cases e
  · cases e; exact (Array.getElem?_eq_some_iff.1 hc).1
set_option maxHeartbeats 8000000 in
theorem room_walk (a0 a1 a2 : Int) (a3 : Bool) (w : World) (b0 : 0 ≤ a0 ∧ a0 < 65536) (b1 : 0 ≤ a1 ∧ a1 < 256) (b2 : 0 ≤ a2 ∧ a2 < 256) :
    Calls Try.prog 4 #[.int .u16 a0, .int .u8 a1, .int .u8 a2, .bool a3] w fun e w' => e = .returned (.bool true) ∧ Below w.heap.size w w' := by
  have e0 := tmod_nat b0.1 500 (by omega)
  have e1 := tmod_nat b1.1 50 (by omega)
  have m0 : (a0 % 500).toNat < 500 := by omega
  have m1 : (a1 % 50).toNat < 50 := by omega
  generalize (a0 % 500).toNat = M at *
  generalize (a1 % 50).toNat = n at *
  obtain ⟨A, hA⟩ : ∃ A, (M + 8 - 1) / 2 * 64 = A := ⟨_, rfl⟩
  have hA1 : 16 * (M + 8) ≤ A + 256 := by omega
  have hA2 : A ≤ 100000 := by omega
  have HA := hid hA
  clear hA
  have x1 : IntKind.i64.wrap (M : Int) = M := wr64 (by omega)
  have g1 : decide ((A : Int) < 16 * ((M : Int) + 8) - 256) = false := by simp; omega
  have ga := hid (made_good b2.1 b2.2 (show n ≤ 256 by omega))
  have fa := hid (made_fit b2.1 b2.2 (show n ≤ 256 by omega))
  have la := hid (made_len a2 n)
  obtain ⟨L, hL⟩ : ∃ L, madeL a2 n = L := ⟨_, rfl⟩
  rw [hL] at ga fa la
  have HL := hid hL
  clear hL
  obtain ⟨F, hF⟩ : ∃ F, (frs L).length = F := ⟨_, rfl⟩
  have fa2 : F ≤ 3050 := by have := fa.out; omega
  have HF := hid hF
  clear hF
  by_cases hbig : 16 * ((M : Int) + 8) - 256 < F
  · go_enter Try.func4, Try.ntmps4
    go_wp2_with (first | (go_at_call 14; refine (size_any R4.out ga.out (by omega)).mono ?_; rintro e w5 ⟨rfl, k5⟩; rw [HF.out]; have K5 := hid k5; clear k5) | (go_at_call 12; refine (made_any n a2 _ (by omega) b2.1 b2.2 _ rfl).mono ?_; rintro e w4 ⟨ao4, cap4, rfl, r4, k4⟩; rw [HL.out] at r4; have R4 := hid r4; have J4 := hid (J3.out.more (sq KF2.out k4)); clear r4 k4) | (go_at_call 18; have X := KF1.out; refine (free_js (J3.out.more KF1.out) (M + 8) 0 (by simp [newD]) rfl).mono ?_; rintro e wf2 ⟨rfl, kf2⟩; rw [HA.out]; have KF2 := hid (sq KF1.out kf2); clear kf2 X) | (go_at_call 18; refine (free_js J3.out (M + 8) 0 (by simp [newD]) rfl).mono ?_; rintro e wf1 ⟨rfl, kf1⟩; rw [HA.out]; have KF1 := hid kf1; clear kf1) | (go_at_call 11; refine (open_new J2.out (by omega)).mono ?_; rintro e w3 ⟨q3, ao3, cap3, h3, rfl, j3, g3, k3⟩; have J3 := hid j3; clear j3 g3 k3) | (go_at_call 10; refine (new_jd _ (M + 8) (by omega) K1.out).mono ?_; rintro e w2 ⟨p2, rfl, j2, k2'⟩; have J2 := hid j2; clear j2 k2') | (go_at_call 9; refine (known_any _).mono ?_; rintro e w1 ⟨rfl, k1'⟩; have K1 := hid k1'; clear k1'))
    go_ret
    exact ⟨rfl, sq J4.out.log.disk.bel K5.out⟩
  · have hsm : (F : Int) ≤ 16 * ((M : Int) + 8) - 256 := by omega
    have g2 : decide (16 * ((M : Int) + 8) - 256 < (F : Int)) = false := by simp; omega
    cases a3 with
    | true =>
      have g3 : decide (16 * ((M : Int) + 8) - 256 - F ≤ (A : Int) - F) = true := by simp; omega
      go_enter Try.func4, Try.ntmps4
      go_wp2_with (first | (go_at_call 14; have X := KF3.out; refine (size_any (R6.out.below KF3.out) ga.out (by omega)).mono ?_; rintro e w8 ⟨rfl, k8⟩; rw [HF.out]; have K8 := hid k8; clear k8 X) | (go_at_call 18; have X := J6.out; refine (free_js J6.out (M + 8) F N6.out HF.out).mono ?_; rintro e wf3 ⟨rfl, kf3⟩; rw [HA.out]; have KF3 := hid kf3; clear kf3 X) | (go_at_call 20; refine (len_js J6.out n la.out).mono ?_; rintro e w7 ⟨rfl, rfl⟩) | (go_at_call 13; refine (rep_yes (J4.out.more K5.out) (R4.out.below K5.out) ga.out (by simp; omega) rfl (M + 8) (by simp [newD]) (by rw [HF.out, HA.out]; omega)).mono ?_; rintro e w6 ⟨rfl, k6, d6, h6, j6, n6, l6⟩; have J6 := hid j6; have N6 := hid n6; have R6 := hid ((R4.out.below K5.out).kin k6); clear k6 j6 n6 l6) | (go_at_call 14; refine (size_any R4.out ga.out (by omega)).mono ?_; rintro e w5 ⟨rfl, k5⟩; rw [HF.out]; have K5 := hid k5; clear k5) | (go_at_call 12; refine (made_any n a2 _ (by omega) b2.1 b2.2 _ rfl).mono ?_; rintro e w4 ⟨ao4, cap4, rfl, r4, k4⟩; rw [HL.out] at r4; have R4 := hid r4; have J4 := hid (J3.out.more (sq KF2.out k4)); clear r4 k4) | (go_at_call 18; have X := KF1.out; refine (free_js (J3.out.more KF1.out) (M + 8) 0 (by simp [newD]) rfl).mono ?_; rintro e wf2 ⟨rfl, kf2⟩; rw [HA.out]; have KF2 := hid (sq KF1.out kf2); clear kf2 X) | (go_at_call 18; refine (free_js J3.out (M + 8) 0 (by simp [newD]) rfl).mono ?_; rintro e wf1 ⟨rfl, kf1⟩; rw [HA.out]; have KF1 := hid kf1; clear kf1) | (go_at_call 11; refine (open_new J2.out (by omega)).mono ?_; rintro e w3 ⟨q3, ao3, cap3, h3, rfl, j3, g3, k3⟩; have J3 := hid j3; clear j3 g3 k3) | (go_at_call 10; refine (new_jd _ (M + 8) (by omega) K1.out).mono ?_; rintro e w2 ⟨p2, rfl, j2, k2'⟩; have J2 := hid j2; clear j2 k2') | (go_at_call 9; refine (known_any _).mono ?_; rintro e w1 ⟨rfl, k1'⟩; have K1 := hid k1'; clear k1'))
      go_ret
      refine ⟨?_, sq J6.out.log.disk.bel (sq KF3.out K8.out)⟩
      simp
      omega
    | false =>
      go_enter Try.func4, Try.ntmps4
      go_wp2_with (first | (go_at_call 14; refine (size_any R4.out ga.out (by omega)).mono ?_; rintro e w5 ⟨rfl, k5⟩; rw [HF.out]; have K5 := hid k5; clear k5) | (go_at_call 12; refine (made_any n a2 _ (by omega) b2.1 b2.2 _ rfl).mono ?_; rintro e w4 ⟨ao4, cap4, rfl, r4, k4⟩; rw [HL.out] at r4; have R4 := hid r4; have J4 := hid (J3.out.more (sq KF2.out k4)); clear r4 k4) | (go_at_call 18; have X := KF1.out; refine (free_js (J3.out.more KF1.out) (M + 8) 0 (by simp [newD]) rfl).mono ?_; rintro e wf2 ⟨rfl, kf2⟩; rw [HA.out]; have KF2 := hid (sq KF1.out kf2); clear kf2 X) | (go_at_call 18; refine (free_js J3.out (M + 8) 0 (by simp [newD]) rfl).mono ?_; rintro e wf1 ⟨rfl, kf1⟩; rw [HA.out]; have KF1 := hid kf1; clear kf1) | (go_at_call 11; refine (open_new J2.out (by omega)).mono ?_; rintro e w3 ⟨q3, ao3, cap3, h3, rfl, j3, g3, k3⟩; have J3 := hid j3; clear j3 g3 k3) | (go_at_call 10; refine (new_jd _ (M + 8) (by omega) K1.out).mono ?_; rintro e w2 ⟨p2, rfl, j2, k2'⟩; have J2 := hid j2; clear j2 k2') | (go_at_call 9; refine (known_any _).mono ?_; rintro e w1 ⟨rfl, k1'⟩; have K1 := hid k1'; clear k1'))
      have J5 := hid (J4.out.more K5.out)
      have R5 := hid (R4.out.below K5.out)
      have c4 := R4.out.cap1
      have c4' := R4.out.cap2
      go_loopw [15, 16] (fun c i wr => ∃ (k m : Nat) (d : Dk) (h : Hd) (acc : List Rc), k ≤ n ∧ m ≤ k ∧ acc.length = m ∧ Good acc ∧ i = .int .i64 (k : Int) ∧ c = .int .i64 (m : Int) ∧ JS w wr p2 q3 d h acc ∧ d.left = 0 ∧ d.secs.length = M + 8 ∧ Kin w5 wr) (fun _ i _ => n - (intOf i).toNat)
      case atStart => exact ⟨0, 0, newD (M + 8), h3, [], by omega, by omega, rfl, fun r hr => (by cases hr), rfl, rfl, J5.out, rfl, by simp [newD], Kin.refl _⟩
      case round =>
        obtain ⟨k, m, d, h, acc, hk, hm, hacc, hgood, rfl, rfl, j7, l7, n7, k7⟩ := hrel
        have J7 := hid j7
        have N7 := hid n7
        have K7 := hid k7
        have HAC := hid hacc
        have HGO := hid hgood
        have hfa := j7.held.fit
        rw [n7, HA.out, j7.held.len] at hfa
        obtain ⟨F7, hF7⟩ : ∃ F, (frs acc).length = F := ⟨_, rfl⟩
        rw [hF7] at hfa
        have HF7 := hid hF7
        clear j7 n7 k7 hacc hgood hF7
        by_cases hlt : k < n
        · obtain ⟨r, hr⟩ : ∃ r, L[k]? = some r := ⟨L[k]'(by have := la.out; omega), by simp⟩
          have R7 := R5.out.kin K7.out
          obtain ⟨b, o, rfl, hrg⟩ := R7.at hr
          have RG7 := hid hrg
          have R1 := hid (R7.one hr)
          have hgr : Hid (Good [r]) := by
            unfold Hid; intro x hx; simp at hx; subst hx; exact ga.out.at hr
          have gF := frs_many hgr.out
          obtain ⟨P, hP⟩ : ∃ P, (frs [r]).length = P := ⟨_, rfl⟩
          rw [hP] at gF
          simp only [List.length_cons, List.length_nil] at gF
          have HP := hid hP
          have HFN : Hid ((frs (acc ++ [r])).length = F7 + P) := by unfold Hid; rw [frs_len_app, HF7.out, HP.out]
          have gf0 : decide ((A : Int) - F7 < 0) = false := by simp; omega
          have hck : ¬ cap4 = k := by omega
          clear hP hr hrg R7
          by_cases hfit : F7 + P ≤ A
          · go_wp2_with (first | (go_at_call 19; refine (add_yes J10.out R10.out hgr.out (by rw [HAC.out]; omega) l7 (M + 8) N7.out (by rw [HFN.out, HA.out]; omega)).mono ?_; rintro e w11 ⟨rfl, k11, d11, h11, j11, n11, l11⟩; have J11 := hid j11; have N11 := hid n11; have K11 := hid (K10.out.trans k11); clear k11 j11 n11) | (refine bsR (r := r) rfl _ rfl rfl ?_; intro ao10 w10 r10 k10; have R10 := hid r10; have J10 := hid (J8.out.more k10); have K10 := hid (K8.out.then k10); clear r10 k10) | (refine ldR (Frm.range_kept RG7.out RK8.out) rfl _ rfl rfl ?_) | (go_at_call 18; refine (free_js J7.out (M + 8) F7 N7.out HF7.out).mono ?_; rintro e w8 ⟨rfl, k8⟩; rw [HA.out]; have K8 := hid (K7.out.then k8); have J8 := hid (J7.out.more k8); have RK8 := hid (k8.block b (RG.blk R1.out)); clear k8))
            go_roundw
            case rel => exact ⟨k + 1, m + 1, d11, h11, acc ++ [r], by omega, by omega, by rw [List.length_append, HAC.out]; rfl, HGO.out.app hgr.out, by go_num, by go_num, J11.out, l11, N11.out, K11.out⟩
            case measure => simp [intOf]; omega
          · have gle : decide ((P : Int) ≤ (A : Int) - F7) = false := by simp; omega
            go_wp2_with (first | (go_at_call 14; refine (size_any (R1.out.kin KK11.out) hgr.out (by omega)).mono ?_; rintro e w12 ⟨rfl, k12⟩; rw [HP.out]; have K12 := hid k12; clear k12) | (go_at_call 19; refine (add_no J10.out R10.out hgr.out (by rw [HAC.out]; omega) l7 (M + 8) N7.out (by rw [HFN.out, HA.out]; omega)).mono ?_; rintro e w11 ⟨rfl, k11, h11, j11⟩; have J11 := hid j11; have K11 := hid (K10.out.trans k11); have KK11 := hid (KK10.out.trans k11); clear k11 j11) | (refine bsR (r := r) rfl _ rfl rfl ?_; intro ao10 w10 r10 k10; have R10 := hid r10; have J10 := hid (J8.out.more k10); have K10 := hid (K8.out.then k10); have KK10 := hid (KK8.out.then k10); clear r10 k10) | (refine ldR (Frm.range_kept RG7.out RK8.out) rfl _ rfl rfl ?_) | (go_at_call 18; refine (free_js J7.out (M + 8) F7 N7.out HF7.out).mono ?_; rintro e w8 ⟨rfl, k8⟩; rw [HA.out]; have K8 := hid (K7.out.then k8); have KK8 := hid (Kin.of k8); have J8 := hid (J7.out.more k8); have RK8 := hid (k8.block b (RG.blk R1.out)); clear k8))
            go_roundw
            case rel => exact ⟨k + 1, m, d, h11, acc, by omega, by omega, HAC.out, HGO.out, by go_num, rfl, J11.out.more K12.out, l7, N7.out, K11.out.then K12.out⟩
            case measure => simp [intOf]; omega
        · go_wp2_with (first | (go_at_call 20; refine (len_js J7.out m HAC.out).mono ?_; rintro e w8 ⟨rfl, rfl⟩))
          go_ret
          exact ⟨rfl, J7.out.log.disk.bel⟩
theorem journalRoom_own : ownKnob Try.prog.godebug = none := by kernel_rfl
theorem journalRoom_laid : laidOutB Try.prog = true := by kernel_rfl

set_option maxRecDepth 100000 in
set_option maxHeartbeats 1000000 in
theorem journalRoom_lifted (os : Os) (started : os.Started) (H : Type) (enc : TypeId × Value → H) :
    ReturnsInHanded {} Try.checked os 4 .any (Rows.journalRoomSpec.pre6 enc Try.prog Try.f4 Rows.journalRoomRow.domain false) (Rows.journalRoomSpec.post enc Try.prog Try.f4 false true false false) := by
  refine returnsInHanded_of_change (C := Try.checked) journalRoom_own started (by kernel_rfl) Try.func4
    (ChangeSpec.witness6 (enc := enc) (C := Try.checked) false ⟨#[], #[.int .u16 0, .int .u8 0, .int .u8 0, .bool false], []⟩ 8 (by kernel_rfl) (by kernel_rfl) (by kernel_rfl) (by kernel_rfl)) ?_
  intro W base args ds gs before hval0 hW hcnd _
  have hval : ∀ (j : Nat) t v, Try.f4.params[j]? = some t → args[j]? = some v → Value.okWide Try.prog W .any base t v := hval0
  have hW' := hW
  obtain ⟨p, q, hA0, hV, rfl, hfz, hnd⟩ := hW
  have hA : DataW.TrodAll enc Try.prog W 0 (fun _ => true) true Try.f4.params.toList args.toList ds p := hA0
  rw [Try.params4] at hA hval
  obtain ⟨v0, vs0, d0, ds0, p0, q0, hargs, rfl, rfl, h0, r0⟩ := trodAll_cons hA
  obtain ⟨v1, vs1, d1, ds1, p1, q1, rfl, rfl, rfl, h1, r1⟩ := trodAll_cons r0
  obtain ⟨v2, vs2, d2, ds2, p2, q2, rfl, rfl, rfl, h2, r2⟩ := trodAll_cons r1
  obtain ⟨v3, vs3, d3, ds3, p3, q3, rfl, rfl, rfl, h3, r3⟩ := trodAll_cons r2
  obtain ⟨rfl, rfl, rfl⟩ := trodAll_nil r3
  obtain rfl : args = #[v0, v1, v2, v3] := by cases args; simp_all
  obtain ⟨rfl, rfl⟩ := trodVars_none hV
  obtain ⟨a0, rfl, rfl, rfl, w0⟩ := open_int Try.underlying23 (hval 0 23 v0 rfl rfl) h0
  obtain ⟨a1, rfl, rfl, rfl, w1⟩ := open_int Try.underlying5 (hval 1 5 v1 rfl rfl) h1
  obtain ⟨a2, rfl, rfl, rfl, w2⟩ := open_int Try.underlying5 (hval 2 5 v2 rfl rfl) h2
  obtain ⟨a3, rfl, rfl, rfl⟩ := open_bool Try.underlying4 (hval 3 4 v3 rfl rfl) h3
  clear hA0 hval0
  refine (room_walk a0 a1 a2 a3 W (by have := bounds_u16 w0; omega) (by have := bounds_u8 w1; omega) (by have := bounds_u8 w2; omega)).mono fun e W' ⟨he, bel⟩ => ?_
  subst he
  exact ⟨_, rfl, _, _, _, [], _, [], hW', trodAll_mk1 (shut_bool Try.underlying4 _), (trodAll_cons_mk (shut_int Try.underlying23 w0) (trodAll_cons_mk (shut_int Try.underlying5 w1) (trodAll_cons_mk (shut_int Try.underlying5 w2) (trodAll_cons_mk (shut_bool Try.underlying4 _) trodAll_mk0)))), rfl, bel.frame _, fun h => by cases h⟩

theorem journalRoom_over : Rows.journalRoomRow.holds Try.pinned (OpenSpec.ofChange Rows.journalRoomSpec) :=
  OpenClaim.holds_of_wide 4 Try.f4 rfl rfl rfl rfl rfl rfl rfl ⟨rfl, rfl, rfl, rfl, rfl⟩ rfl rfl rfl rfl rfl (by kernel_rfl) Try.func4 (by kernel_rfl)
    (of_decide_eq_true (by kernel_rfl)) (by unfold Func.isWrapper; first | (rw [if_pos (by decide +kernel)]; kernel_rfl) | (rw [if_neg (by decide +kernel)]; exact ⟨rfl, rfl⟩))
    (fun os started H enc _ => journalRoom_lifted os started H enc)

/-- The statement. -/
theorem journalRoom_holds : Rows.JournalRoomSaid := journalRoom_over
#print axioms journalRoom_holds
end Go.Proofs.Ythhgnflkplpklaa
