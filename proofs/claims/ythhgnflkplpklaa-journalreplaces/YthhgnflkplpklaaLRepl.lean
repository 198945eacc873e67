/- JournalReplaces: what is put in the place of all is all that is there, and the journal goes on from that; for every four numbers. -/
import Derived.Test.YthhgnflkplpklaaJKnown
namespace Go.Proofs.Ythhgnflkplpklaa
set_option maxRecDepth 20000
open Go.ChangeShapes Go.WideShapes Go.ChangeAt Go.RowKit
open Dsc (Dk Sec Dat Feet tc hid sq bel1 newD reopD cutD)
open Frm (Rc putL rightB bytesL num Given Mk Row RowAt RV al29 st29 ld29 seatR)
set_option maxHeartbeats 4000000 in
theorem replaces_walk (a0 a1 a2 a3 : Int) (w : World) (b0 : 0 ≤ a0 ∧ a0 < 256) (b1 : 0 ≤ a1 ∧ a1 < 256) (b2 : 0 ≤ a2 ∧ a2 < 256) (b3 : 0 ≤ a3 ∧ a3 < 256) :
    Calls Try.prog 7 #[.int .u8 a0, .int .u8 a1, .int .u8 a2, .int .u8 a3] w fun e w' => e = .returned (.bool true) ∧ Below w.heap.size w w' := by
  have e0 := tmod_nat b0.1 20 (by omega)
  have e1 := tmod_nat b1.1 20 (by omega)
  have e3 := tmod_nat b3.1 10 (by omega)
  have m0 : (a0 % 20).toNat < 20 := by omega
  have m1 : (a1 % 20).toNat < 20 := by omega
  have m3 : (a3 % 10).toNat < 10 := by omega
  generalize (a0 % 20).toNat = na at *
  generalize (a1 % 20).toNat = nb at *
  generalize (a3 % 10).toNat = nc at *
  obtain ⟨k1, hk1⟩ : ∃ k, (a2 + 1) % 256 = k := ⟨_, rfl⟩
  obtain ⟨k2, hk2⟩ : ∃ k, (a2 + 2) % 256 = k := ⟨_, rfl⟩
  have x1 : IntKind.u8.wrap (a2 + 1) = k1 := by rw [IntKind.wrap_u8]; exact hk1
  have x2 : IntKind.u8.wrap (a2 + 2) = k2 := by rw [IntKind.wrap_u8]; exact hk2
  have hk1a : 0 ≤ k1 ∧ k1 < 256 := by omega
  have hk2a : 0 ≤ k2 ∧ k2 < 256 := by omega
  have HK1 := hid hk1
  have HK2 := hid hk2
  clear hk1 hk2
  have ga := hid (made_good b2.1 b2.2 (show na ≤ 256 by omega))
  have gb := hid (made_good hk1a.1 hk1a.2 (show nb ≤ 256 by omega))
  have gc := hid (made_good hk2a.1 hk2a.2 (show nc ≤ 256 by omega))
  have fa := hid (made_fit b2.1 b2.2 (show na ≤ 256 by omega))
  have fb := hid (made_fit hk1a.1 hk1a.2 (show nb ≤ 256 by omega))
  have fc := hid (made_fit hk2a.1 hk2a.2 (show nc ≤ 256 by omega))
  have la := hid (made_len a2 na)
  have lb := hid (made_len k1 nb)
  have lc := hid (made_len k2 nc)
  go_enter Try.func7, Try.ntmps7
  go_wp2_with (first | (go_at_call 20; have X := K12.out; refine (len_js (J10.out.more (sq K11.out K12.out)) (nb + nc) (by rw [List.length_append, lb.out, lc.out])).mono ?_; rintro e w13 ⟨rfl, rfl⟩) | (go_at_call 21; refine (recs_eq (G10.out.below K11.out) R11.out).mono ?_; rintro e w12 ⟨rfl, k12⟩; have K12 := hid k12; clear k12) | (refine app_fullw ((B9.out.below K10.out).take' nb rfl) (C9.out.below K10.out) (m := nb + nc) rfl (by omega) _ _ rfl (by kernel_rfl) rfl rfl ?_; intro ao11 cap11 w11 r11 k11; have R11 := hid r11; have K11 := hid k11; clear r11 k11) | (go_at_call 11; refine (open_js J9.out (nb + nc) (by rw [List.length_append, lb.out, lc.out])).mono ?_; rintro e w10 ⟨q10, ao10, cap10, h10, rfl, j10, g10, k10⟩; have J10 := hid j10; have G10 := hid g10; have K10 := hid k10; clear j10 g10 k10) | (go_at_call 19; refine (add_yes J8.out C8.out gc.out (by rw [lb.out]; omega) l8 400 N8.out (by rw [frs_len_app]; have := fb.out; have := fc.out; omega)).mono ?_; rintro e w9 ⟨rfl, k9, d9, h9, j9, n9, l9⟩; have J9 := hid j9; have N9 := hid n9; have B9 := hid (B8.out.kin k9); have C9 := hid (C8.out.kin k9); clear k9 j9 n9) | (go_at_call 20; refine (len_js J8.out nb lb.out).mono ?_; rintro e w8b ⟨rfl, rfl⟩) | (go_at_call 13; refine (rep_yes J7.out B7.out gb.out (by rw [la.out]; omega) l7 400 N7.out (by have := fb.out; omega)).mono ?_; rintro e w8 ⟨rfl, k8, d8, h8, j8, n8, l8⟩; have J8 := hid j8; have N8 := hid n8; have B8 := hid (B7.out.kin k8); have C8 := hid (C7.out.kin k8); clear k8 j8 n8) | (go_at_call 19; refine (add_yes J6.out A6.out ga.out (by simp; omega) rfl 400 (by simp [newD]) (by rw [List.nil_append]; have := fa.out; omega)).mono ?_; rintro e w7 ⟨rfl, k7, d7, h7, j7, n7, l7⟩; rw [List.nil_append] at j7; have J7 := hid j7; have N7 := hid n7; have B7 := hid (B6.out.kin k7); have C7 := hid (C6.out.kin k7); clear k7 j7 n7) | (go_at_call 12; have X := B5.out; refine (made_any nc k2 _ (by omega) hk2a.1 hk2a.2 _ rfl).mono ?_; rintro e w6 ⟨ao6, cap6, rfl, r6, k6⟩; have C6 := hid r6; have A6 := hid (A5.out.below k6); have B6 := hid (B5.out.below k6); have J6 := hid (J5.out.more k6); clear r6 k6 X) | (go_at_call 12; have X := A4.out; refine (made_any nb k1 _ (by omega) hk1a.1 hk1a.2 _ rfl).mono ?_; rintro e w5 ⟨ao5, cap5, rfl, r5, k5⟩; have B5 := hid r5; have c5 := r5.cap1; have c5' := r5.cap2; have A5 := hid (A4.out.below k5); have J5 := hid (J4.out.more k5); clear r5 k5 X) | (go_at_call 12; refine (made_any na a2 _ (by omega) b2.1 b2.2 _ rfl).mono ?_; rintro e w4 ⟨ao4, cap4, rfl, r4, k4⟩; have A4 := hid r4; have J4 := hid (J3.out.more k4); clear r4 k4) | (go_at_call 11; refine (open_new J2.out (by omega)).mono ?_; rintro e w3 ⟨q3, ao3, cap3, h3, rfl, j3, g3, k3⟩; have J3 := hid j3; clear j3 g3 k3) | (go_at_call 10; refine (new_jd 400 400 rfl K1.out).mono ?_; rintro e w2 ⟨p2, rfl, j2, k2'⟩; have J2 := hid j2; clear j2 k2') | (go_at_call 9; refine (known_any _).mono ?_; rintro e w1 ⟨rfl, k1'⟩; have K1 := hid k1'; clear k1'))
  go_ret
  exact ⟨rfl, sq J10.out.log.disk.bel (sq K11.out K12.out)⟩
theorem journalReplaces_own : ownKnob Try.prog.godebug = none := by kernel_rfl
theorem journalReplaces_laid : laidOutB Try.prog = true := by kernel_rfl

set_option maxRecDepth 100000 in
set_option maxHeartbeats 1000000 in
theorem journalReplaces_lifted (os : Os) (started : os.Started) (H : Type) (enc : TypeId × Value → H) :
    ReturnsInHanded {} Try.checked os 7 .any (Rows.journalReplacesSpec.pre6 enc Try.prog Try.f7 Rows.journalReplacesRow.domain false) (Rows.journalReplacesSpec.post enc Try.prog Try.f7 false true false false) := by
  refine returnsInHanded_of_change (C := Try.checked) journalReplaces_own started (by kernel_rfl) Try.func7
    (ChangeSpec.witness6 (enc := enc) (C := Try.checked) false ⟨#[], #[.int .u8 0, .int .u8 0, .int .u8 0, .int .u8 0], []⟩ 8 (by kernel_rfl) (by kernel_rfl) (by kernel_rfl) (by kernel_rfl)) ?_
  intro W base args ds gs before hval0 hW hcnd _
  have hval : ∀ (j : Nat) t v, Try.f7.params[j]? = some t → args[j]? = some v → Value.okWide Try.prog W .any base t v := hval0
  have hW' := hW
  obtain ⟨p, q, hA0, hV, rfl, hfz, hnd⟩ := hW
  have hA : DataW.TrodAll enc Try.prog W 0 (fun _ => true) true Try.f7.params.toList args.toList ds p := hA0
  rw [Try.params7] at hA hval
  obtain ⟨v0, vs0, d0, ds0, p0, q0, hargs, rfl, rfl, h0, r0⟩ := trodAll_cons hA
  obtain ⟨v1, vs1, d1, ds1, p1, q1, rfl, rfl, rfl, h1, r1⟩ := trodAll_cons r0
  obtain ⟨v2, vs2, d2, ds2, p2, q2, rfl, rfl, rfl, h2, r2⟩ := trodAll_cons r1
  obtain ⟨v3, vs3, d3, ds3, p3, q3, rfl, rfl, rfl, h3, r3⟩ := trodAll_cons r2
  obtain ⟨rfl, rfl, rfl⟩ := trodAll_nil r3
  obtain rfl : args = #[v0, v1, v2, v3] := by cases args; simp_all
  obtain ⟨rfl, rfl⟩ := trodVars_none hV
  obtain ⟨a0, rfl, rfl, rfl, w0⟩ := open_int Try.underlying5 (hval 0 5 v0 rfl rfl) h0
  obtain ⟨a1, rfl, rfl, rfl, w1⟩ := open_int Try.underlying5 (hval 1 5 v1 rfl rfl) h1
  obtain ⟨a2, rfl, rfl, rfl, w2⟩ := open_int Try.underlying5 (hval 2 5 v2 rfl rfl) h2
  obtain ⟨a3, rfl, rfl, rfl, w3⟩ := open_int Try.underlying5 (hval 3 5 v3 rfl rfl) h3
  clear hA0 hval0
  refine (replaces_walk a0 a1 a2 a3 W (by have := bounds_u8 w0; omega) (by have := bounds_u8 w1; omega) (by have := bounds_u8 w2; omega) (by have := bounds_u8 w3; omega)).mono fun e W' ⟨he, bel⟩ => ?_
  subst he
  exact ⟨_, rfl, _, _, _, [], _, [], hW', trodAll_mk1 (shut_bool Try.underlying4 _), (trodAll_cons_mk (shut_int Try.underlying5 w0) (trodAll_cons_mk (shut_int Try.underlying5 w1) (trodAll_cons_mk (shut_int Try.underlying5 w2) (trodAll_cons_mk (shut_int Try.underlying5 w3) trodAll_mk0)))), rfl, bel.frame _, fun h => by cases h⟩

theorem journalReplaces_over : Rows.journalReplacesRow.holds Try.pinned (OpenSpec.ofChange Rows.journalReplacesSpec) :=
  OpenClaim.holds_of_wide 7 Try.f7 rfl rfl rfl rfl rfl rfl rfl ⟨rfl, rfl, rfl, rfl, rfl⟩ rfl rfl rfl rfl rfl (by kernel_rfl) Try.func7 (by kernel_rfl)
    (of_decide_eq_true (by kernel_rfl)) (by unfold Func.isWrapper; first | (rw [if_pos (by decide +kernel)]; kernel_rfl) | (rw [if_neg (by decide +kernel)]; exact ⟨rfl, rfl⟩))
    (fun os started H enc _ => journalReplaces_lifted os started H enc)

/-- The statement. -/
theorem journalReplaces_holds : Rows.JournalReplacesSaid := journalReplaces_over
#print axioms journalReplaces_holds
end Go.Proofs.Ythhgnflkplpklaa
