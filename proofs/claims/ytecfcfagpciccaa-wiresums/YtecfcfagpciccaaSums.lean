/- WireSums: a frame's last byte makes all from behind its STX on come to nought. -/
import Derived.Test.YtecfcfagpciccaaCat
namespace Go.Proofs.Ytecfcfagpciccaa
open Go.ChangeShapes Go.WideShapes Go.ChangeAt Go.RowKit

set_option maxHeartbeats 4000000 in
set_option maxRecDepth 20000 in
theorem sums_walk (x0 : Option Addr) (y0 z0 : Nat) (l0 : List Int) (x1 : Option Addr) (y1 z1 : Nat) (l1 : List Int) (W : World) (h0 : InB W x0 y0 z0 l0) (h1 : InB W x1 y1 z1 l1) :
    Calls Try.prog 8 #[.slice x0 y0 z0, .slice x1 y1 z1] W fun e w' => e = .returned (.bool true) ∧ Below W.heap.size W w' := by
  have H0 := hid h0
  have H1 := hid h1
  have cp0 := Nat.le_trans h0.giv.cap1 h0.giv.cap2
  have cp1 := Nat.le_trans h1.giv.cap1 h1.giv.cap2
  clear h0 h1
  have K0 := hid True.intro
  by_cases j0 : 100 < y0
  · have d0 : decide ((100 : Int) < (y0 : Int)) = true := decide_eq_true (by omega)
    have d0' : decide (100 < y0) = true := decide_eq_true j0
    go_enter Try.func8, Try.ntmps8
    go_wp2_with (go_at_call 9; have kill := K0.out; refine (known9 _).mono ?_; rintro e w1 ⟨rfl, b1⟩; have B1 := hid b1; clear b1 kill K0)
    go_ret
    exact ⟨rfl, B1.out⟩
  have d0 : decide ((100 : Int) < (y0 : Int)) = false := decide_eq_false (by omega)
  have d0' : decide (100 < y0) = false := decide_eq_false j0
  by_cases j1 : 100 < y1
  · have d1 : decide ((100 : Int) < (y1 : Int)) = true := decide_eq_true (by omega)
    have d1' : decide (100 < y1) = true := decide_eq_true j1
    go_enter Try.func8, Try.ntmps8
    go_wp2_with (go_at_call 9; have kill := K0.out; refine (known9 _).mono ?_; rintro e w1 ⟨rfl, b1⟩; have B1 := hid b1; clear b1 kill K0)
    go_ret
    exact ⟨rfl, B1.out⟩
  have d1 : decide ((100 : Int) < (y1 : Int)) = false := decide_eq_false (by omega)
  have d1' : decide (100 < y1) = false := decide_eq_false j1
  go_enter Try.func8, Try.ntmps8
  go_upto_region 5 with (go_at_call 9; have kill := K0.out; refine (known9 _).mono ?_; rintro e w1 ⟨rfl, b1⟩; have B1 := hid b1; clear b1 kill K0)
  have G0 := hid (H0.out.giv.below B1.out)
  obtain ⟨F, hF⟩ : ∃ F, frOk l0 = F := ⟨_, rfl⟩
  have HF := hid hF
  clear hF
  go_upto_region 6 with (go_at_call 17; refine (frame17 _ _ _ l0 _ G0.out H0.out.nil).mono ?_; rintro e w2 ⟨a2, n2, c2, rfl, m2⟩; rw [HF.out]; have M2 := hid m2; clear m2)
  have B2 : Hid (Below W.heap.size W w2) := sq B1.out M2.out.2
  have P0 := hid (H0.out.giv.below B2.out)
  have P1 := hid (H1.out.giv.below B2.out)
  have q0 := hid H0.out.nil
  have q1 := hid H1.out.nil
  clear d0 d0' d1 d1'
  go_cut [48] from 22 (fun v w => v = .bool false ∧ w = w2)
  case first =>
    cases F
    · go_wp2
      go_meet
      case rel => exact ⟨rfl, rfl⟩
    · have m2 := M2.out
      rw [frX_yes HF.out] at m2
      have hl0 : l0.length = y0 := H0.out.giv.leq
      have hb0 := H0.out.giv.byt
      have hl2 := m2.1.len
      rw [fr_len, hl0] at hl2
      subst hl2
      have gf := m2.given (fr_byt hb0)
      obtain ⟨b, o, rfl, hc0⟩ := gf.cell 0 (by omega)
      obtain ⟨_, _, e0, hc3⟩ := gf.cell (y0 + 1) (by omega)
      cases e0
      rw [fr_at0, Nat.add_zero] at hc0
      have h3 := fr_at3 l0
      rw [hl0] at h3
      rw [h3] at hc3
      obtain ⟨a3, r3, g3, _⟩ := sub_l (ao := some ⟨b, o, none⟩) (len := y0 + 3) (cap := c2) 1 1 rfl (by omega) gf.cap1
      have G3 := hid (g3 _ _ gf)
      have HX := hid (fr_nought hb0)
      have e2 : ((y0 + 3 : Nat) : Int) - 2 = ((y0 + 1 : Nat) : Int) := by omega
      have e3 : decide (((y0 + 3 : Nat) : Int) < 3) = false := decide_eq_false (by omega)
      have e4 : decide (y0 + 3 < 3) = false := decide_eq_false (by omega)
      have cc := gf.cap1
      clear g3 gf m2 h3 hl0 hb0 M2
      go_wp2_with (go_at_call 14; refine (lrc14 _ _ _ _ _ G3.out).mono ?_; rintro e w4 ⟨rfl, rfl⟩; rw [HX.out])
      go_meet
      case rel => exact ⟨rfl, rfl⟩
  case rest =>
    obtain ⟨rfl, rfl⟩ := hcut
    have R0 : Hid (RowAt wc x0 l0) := P0.out.row
    have LL0 : Hid (l0.length = y0) := P0.out.leq
    have LL1 : Hid (l1.length = y1) := P1.out.leq
    have hb0 := hid P0.out.byt
    have hb1 := hid P1.out.byt
    obtain ⟨A, hA⟩ : ∃ A, lrcL l0 = A := ⟨_, rfl⟩
    obtain ⟨C, hC⟩ : ∃ C, lrcL l1 = C := ⟨_, rfl⟩
    obtain ⟨Q, hQ⟩ : ∃ Q, bits .xor .u8 A C = Q := ⟨_, rfl⟩
    have HS : Hid (lrcL (l0 ++ l1) = Q) := by unfold Hid; rw [lrc_app hb0.out hb1.out, hA, hC]; exact hQ
    have HB2 : Hid (Byt (l0 ++ l1)) := byt_app hb0.out hb1.out
    have HA := hid hA
    have HC := hid hC
    have T1 := hid True.intro
    clear hA hC
    go_wp2_with (first
      | (go_at_call 14; have kill := T4.out; refine (lrc14 none 0 0 [] _ (nil_given _)).mono ?_; rintro e w9 ⟨rfl, rfl⟩; rw [lrc_nil]; clear kill T4)
      | (go_at_call 14; have kill := T3.out; refine (lrc14 _ _ _ l1 _ (P1.out.below D2.out.2)).mono ?_; rintro e w9 ⟨rfl, rfl⟩; rw [HC.out]; have T4 := hid True.intro; clear kill T3)
      | (go_at_call 14; have kill := T2.out; refine (lrc14 _ _ _ l0 _ (P0.out.below D2.out.2)).mono ?_; rintro e w9 ⟨rfl, rfl⟩; rw [HA.out]; have T3 := hid True.intro; clear kill T2)
      | (go_at_call 14; have kill := D2.out; refine (lrc14 _ _ _ _ _ (D2.out.given HB2.out)).mono ?_; rintro e w9 ⟨rfl, rfl⟩; rw [HS.out]; have T2 := hid True.intro; clear kill)
      | (at_builtin; have kill := R1.out; refine app_row (l2 := l1) D1.out.1 R1.out LL1.out q1.out D1.out.2.size (by omega) rfl _ _ rfl rfl rfl ?_; intro a5 c5 w5 r5 t5; have D2 := hid (D1.out.next r5 t5); clear r5 t5 kill R1)
      | (at_builtin; have kill := R0.out; refine app_none (l2 := l0) R0.out LL0.out q0.out (by omega) rfl _ _ rfl rfl rfl ?_; intro a4 c4 w4 m4; have D1 := hid m4; have R1 := hid (P1.out.below D1.out.2).row; clear m4 kill R0))
    go_ret
    exact ⟨rfl, sq B2.out D2.out.2⟩
theorem wireSums_own : ownKnob Try.prog.godebug = none := by kernel_rfl
theorem wireSums_laid : laidOutB Try.prog = true := by kernel_rfl

set_option maxRecDepth 100000 in
set_option maxHeartbeats 1000000 in
theorem wireSums_lifted (os : Os) (started : os.Started) (H : Type) (enc : TypeId × Value → H) :
    ReturnsInHanded {} Try.checked os 8 .any (Rows.wireSumsSpec.pre6 enc Try.prog Try.f8 Rows.wireSumsRow.domain false) (Rows.wireSumsSpec.post enc Try.prog Try.f8 false true false false) := by
  refine returnsInHanded_of_change (C := Try.checked) wireSums_own started (by kernel_rfl) Try.func8
    (ChangeSpec.witness6 (enc := enc) (C := Try.checked) false ⟨#[], #[.slice none 0 0, .slice none 0 0], []⟩ 8 (by kernel_rfl) (by kernel_rfl) (by kernel_rfl) (by kernel_rfl)) ?_
  intro W base args ds gs before hval0 hW hcnd _
  have hval : ∀ (j : Nat) t v, Try.f8.params[j]? = some t → args[j]? = some v → Value.okWide Try.prog W .any base t v := hval0
  have hW' := hW
  obtain ⟨p, q, hA0, hV, rfl, hfz, hnd⟩ := hW
  have hA : DataW.TrodAll enc Try.prog W 0 (fun _ => true) true Try.f8.params.toList args.toList ds p := hA0
  rw [Try.params8] at hA hval
  obtain ⟨v0, vs0, d0, ds0, p0, q0, hargs, rfl, rfl, h0, r0⟩ := trodAll_cons hA
  obtain ⟨v1, vs1, d1, ds1, p1, q1, rfl, rfl, rfl, h1, r1⟩ := trodAll_cons r0
  obtain ⟨rfl, rfl, rfl⟩ := trodAll_nil r1
  obtain rfl : args = #[v0, v1] := by cases args; simp_all
  obtain ⟨rfl, rfl⟩ := trodVars_none hV
  obtain ⟨x0, y0, z0, rfl⟩ := okWide_slice Try.underlying22 (hval 0 22 v0 rfl rfl)
  have k0 := h0
  have lt0 : ∀ x ∈ p0, x.block < W.heap.size := by obtain ⟨m, hm⟩ := k0; exact DataW.trod_lt m _ _ _ hm
  obtain ⟨a0, len0, cap0, l0, e0, w0⟩ : ∃ a len cap l, Value.slice x0 y0 z0 = .slice a len cap ∧ InB W a len cap l := by
    obtain ⟨fuel, hf⟩ := h0
    exact open_inB hf
  cases e0
  obtain ⟨x1, y1, z1, rfl⟩ := okWide_slice Try.underlying22 (hval 1 22 v1 rfl rfl)
  have k1 := h1
  have lt1 : ∀ x ∈ p1, x.block < W.heap.size := by obtain ⟨m, hm⟩ := k1; exact DataW.trod_lt m _ _ _ hm
  obtain ⟨a1, len1, cap1, l1, e1, w1⟩ : ∃ a len cap l, Value.slice x1 y1 z1 = .slice a len cap ∧ InB W a len cap l := by
    obtain ⟨fuel, hf⟩ := h1
    exact open_inB hf
  cases e1
  clear hA0 hval0
  refine (sums_walk x0 y0 z0 l0 x1 y1 z1 l1 W w0 w1).mono fun e W' ⟨he, bel⟩ => ?_
  subst he
  exact ⟨_, rfl, _, _, _, [], _, [], hW', trodAll_mk1 (shut_bool Try.underlying4 _), (trodAll_cons_mk (Below.trod wireSums_laid (by kernel_rfl) (of_decide_eq_true (by kernel_rfl)) k0 bel lt0) (trodAll_cons_mk (Below.trod wireSums_laid (by kernel_rfl) (of_decide_eq_true (by kernel_rfl)) k1 bel lt1) trodAll_mk0)), rfl, bel.frame _, fun h => by cases h⟩

theorem wireSums_over : Rows.wireSumsRow.holds Try.pinned (OpenSpec.ofChange Rows.wireSumsSpec) :=
  OpenClaim.holds_of_wide 8 Try.f8 rfl rfl rfl rfl rfl rfl rfl ⟨rfl, rfl, rfl, rfl, rfl⟩ rfl rfl rfl rfl rfl (by kernel_rfl) Try.func8 (by kernel_rfl)
    (of_decide_eq_true (by kernel_rfl)) (by unfold Func.isWrapper; first | (rw [if_pos (by decide +kernel)]; kernel_rfl) | (rw [if_neg (by decide +kernel)]; exact ⟨rfl, rfl⟩))
    (fun os started H enc _ => wireSums_lifted os started H enc)

/-- The statement. -/
theorem wireSums_holds : Rows.WireSumsSaid := wireSums_over
#print axioms wireSums_holds
end Go.Proofs.Ytecfcfagpciccaa
