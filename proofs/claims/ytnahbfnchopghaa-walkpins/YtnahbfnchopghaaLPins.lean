/- A walk at a state B goes on by four digits alone, and elsewhere by anything else: for every text of at most 40 bytes, and for the decimals of every number of 16 bits. -/
import Derived.Test.YtnahbfnchopghaaDecs
namespace Go.Proofs.Ytnahbfnchopghaa
open Go.ChangeShapes Go.WideShapes Go.ChangeAt Go.RowKit

theorem txt_one {x : ByteArray} (h : x.size ≤ 9223372036854775807) : Txt [x] := fun s hs => by
  have : s = x := by simpa using hs
  rw [this]; exact h
def pinR (B : Bool) : Rs := ⟨if B = true then 1 else 2, 1, false, ⟨#[]⟩, 0⟩
theorem pins_runR (x : ByteArray) : runL L3 0 [x] = pinR (pinB x) := pins_run x
set_option maxRecDepth 20000 in
set_option maxHeartbeats 20000000 in
theorem pins_walk (s : ByteArray) (n : Int) (W : World) (hs : s.size ≤ 9223372036854775807) (hn : 0 ≤ n ∧ n < 65536) :
    Calls Try.prog 6 #[.string s, .int .u16 n] W fun e w' => e = .returned (.bool true) ∧ Below W.heap.size W w' := by
  have TA := hid True.intro
  have TB := hid True.intro
  by_cases h40 : 40 < s.size
  · have hd : decide (40 < (s.size : Int)) = true := by simp; omega
    go_enter Try.func6, Try.ntmps6
    go_wp2_with (have kill := TA.out; go_at_call 7; refine (known7 _).mono ?_; rintro e w1 ⟨rfl, l1⟩; have L1 := hid l1; clear l1 kill TA)
    go_ret
    exact ⟨rfl, L1.out⟩
  have hd : decide (40 < (s.size : Int)) = false := by simp; omega
  have hd2 : ¬ 40 < (s.size : Int) := by omega
  obtain ⟨B0, hB0⟩ : ∃ B, decide (s.size = 4) = B := ⟨_, rfl⟩
  have hb : ((s.size : Int) == 4) = B0 := by
    rw [← hB0]
    by_cases h : s.size = 4
    · rw [decide_eq_true h]; simp; omega
    · rw [decide_eq_false h, beq_eq_false_iff_ne]; omega
  have HB0 := hid ((good_zero s).trans hB0)
  clear hB0
  go_enter Try.func6, Try.ntmps6
  go_upto_region 7 with (first | (have kill := TA.out; go_at_call 7; refine (known7 _).mono ?_; rintro e w1 ⟨rfl, l1⟩; have L1 := hid l1; clear l1 kill TA) | (have kill := L1.out; refine bsS3 (r0 := ⟨0, 66, 1, 2⟩) (r1 := ⟨1, 90, 0, 0⟩) (r2 := ⟨2, 90, 0, 0⟩) rfl _ _ _ rfl rfl rfl rfl ?_; intro a2 w2 m2; have M2 : Hid (MkS w1 w2 (.slice a2 3 3) 3 L3) := hid m2; have E2 := hid (sq L1.out m2.bel); clear m2 kill L1) | (refine bdP34 (r := ⟨0, 66, 1, 2⟩) rfl _ _ _ _ rfl rfl rfl rfl rfl ?_) | (refine bdT34 (r := ⟨1, 90, 0, 0⟩) rfl _ _ rfl rfl rfl rfl rfl ?_) | (refine bdT34 (r := ⟨2, 90, 0, 0⟩) rfl _ _ rfl rfl rfl rfl rfl ?_))
  (try go_frame)

  clear hb
  go_wp2_with fail
  (try go_frame)
  go_loop [6, 7] (fun g i => ∃ k : Nat, k ≤ s.size ∧ i = .int .i64 (k : Int) ∧ g = .bool (goodK s k)) (fun _ i => s.size - (intOf i).toNat)
  case atStart => exact ⟨0, by omega, rfl, by rw [HB0.out]⟩
  case round =>
    obtain ⟨k, hk, rfl, rfl⟩ := hrel
    by_cases hlt : k < s.size
    · have HG := hid (good_step hlt)
      cases hg : goodK s k
      · have HG2 : Hid (goodK s (k + 1) = false) := hid (by rw [HG.out, hg]; rfl)
        clear hg HG
        go_wp2_with fail
        go_round
        case rel => exact ⟨k + 1, by omega, by go_num, by rw [HG2.out]⟩
        case measure => simp [intOf]; omega
      · rcases (show (s[k].toNat : Int) < 48 ∨ 57 < (s[k].toNat : Int) ∨ (48 ≤ (s[k].toNat : Int) ∧ (s[k].toNat : Int) ≤ 57) by omega) with h | h | ⟨h1, h2⟩
        · have HG2 : Hid (goodK s (k + 1) = false) := hid (by rw [HG.out, hg, decide_eq_false (by omega)]; rfl)
          have e1 : decide (48 ≤ (s[k].toNat : Int)) = false := decide_eq_false (by omega)
          have e2 : ¬ 48 ≤ (s[k].toNat : Int) := by omega
          clear hg HG h
          go_wp2_with fail
          go_round
          case rel => exact ⟨k + 1, by omega, by go_num, by rw [HG2.out]⟩
          case measure => simp [intOf]; omega
        · have HG2 : Hid (goodK s (k + 1) = false) := hid (by rw [HG.out, hg, decide_eq_false (by omega)]; rfl)
          have e1 : decide (48 ≤ (s[k].toNat : Int)) = true := decide_eq_true (by omega)
          have e2 : decide ((s[k].toNat : Int) ≤ 57) = false := decide_eq_false (by omega)
          have e3 : ¬ (s[k].toNat : Int) ≤ 57 := by omega
          have e4 : 48 ≤ (s[k].toNat : Int) := by omega
          clear hg HG h
          go_wp2_with fail
          go_round
          case rel => exact ⟨k + 1, by omega, by go_num, by rw [HG2.out]⟩
          case measure => simp [intOf]; omega
        · have HG2 : Hid (goodK s (k + 1) = true) := hid (by rw [HG.out, hg, decide_eq_true ⟨h1, h2⟩]; rfl)
          have e1 : decide (48 ≤ (s[k].toNat : Int)) = true := decide_eq_true h1
          have e2 : decide ((s[k].toNat : Int) ≤ 57) = true := decide_eq_true h2
          clear hg HG
          go_wp2_with fail
          go_round
          case rel => exact ⟨k + 1, by omega, by go_num, by rw [HG2.out]⟩
          case measure => simp [intOf]; omega
    · obtain rfl : k = s.size := by omega
      rw [good_all]
      have HD := hid (pin_dec hn.1 hn.2)
      have HDc := hid (fun w => dec13 n w hn.1 (by omega))
      have HDs : Hid ((decS n).size ≤ 9223372036854775807) := hid (by have := decS_len n (by omega) (by omega); omega)
      have HS := hid hs
      clear hs hlt hk
      have HP := hid (pins_runR s)
      generalize pinB s = P at HP ⊢
      rcases (show n < 1000 ∨ 9999 < n ∨ (1000 ≤ n ∧ n ≤ 9999) by omega) with h | h | ⟨h1, h2⟩
      · have HD2 : Hid (runL L3 0 [decS n] = pinR false) := hid (by rw [pins_runR, HD.out, decide_eq_false (by omega)]; rfl)
        have e1 : decide (1000 ≤ n) = false := decide_eq_false (by omega)
        have e2 : ¬ 1000 ≤ n := by omega
        clear HD h h40
        cases P <;> (
          go_wp2_with (first | (have kill := D10.out; refine st30 (r := pinR false) (w0 := w9) D10.out K10.out hb10.out rfl _ _ rfl rfl rfl ?_; intro w11 v l; have p0 := v.cell 0 (v := .int .i64 2) rfl; have hx : RR w11 b5 (pinR false) := (D9z.out.below l); have c0 := hx.cell 0 (v := .int .i64 2) rfl; have c1 := hx.cell 1 (v := .int .i64 1) rfl; have E9 := hid (sq E2.out (sq F9.out l)); clear v l hx kill D10 K10 hb10 F9) | (have kill := D10.out; refine st30 (r := pinR false) (w0 := w9) D10.out K10.out hb10.out rfl _ _ rfl rfl rfl ?_; intro w11 v l; have p0 := v.cell 0 (v := .int .i64 2) rfl; have hx : RR w11 b5 (pinR true) := (D9z.out.below l); have c0 := hx.cell 0 (v := .int .i64 1) rfl; have c1 := hx.cell 1 (v := .int .i64 1) rfl; have E9 := hid (sq E2.out (sq F9.out l)); clear v l hx kill D10 K10 hb10 F9) | (have kill := F9.out; refine al30 rfl rfl ?_; intro b10 w10 hb v l; have D10 := hid v; have D9z := D9; have K10 := hid l; have hb10 := hid hb; clear v l hb kill D9) | (have kill := G8.out; go_at_call 10; refine (run10 _ _ _ L3 _ _ _ _ [decS n] _ (M2.out.given.below F8.out) (G8.out.given (txt_one HDs.out))).mono ?_; rintro e w9 ⟨rfl, l⟩; rw [HD2.out]; have D9 := hid (D8.out.below l); have F9 := hid (sq F8.out l); clear l kill G8 D8 F8) | (have kill := F7.out; refine bsT1 (r0 := decS n) rfl _ rfl rfl ?_; intro a8 w8 m; have G8 := hid m; have D8 := hid (D7.out.below m.bel); have F8 := hid (sq F7.out m.bel); clear m kill D7 F7) | (have kill := D6.out; go_at_call 13; refine (HDc.out _).mono ?_; rintro e w7 ⟨rfl, l⟩; have D7 := hid (D6.out.below l); have F7 := hid (sq F6.out l); clear l kill D6 F6) | (have kill := D5.out; refine st30 (r := pinR false) (w0 := w4) D5.out K5.out hb5.out rfl _ _ rfl rfl rfl ?_; intro w6 v l; have D6 := hid v; have F6 := hid (sq F4.out l); clear v l kill D5 K5 hb5 F4) | (have kill := D5.out; refine st30 (r := pinR true) (w0 := w4) D5.out K5.out hb5.out rfl _ _ rfl rfl rfl ?_; intro w6 v l; have D6 := hid v; have F6 := hid (sq F4.out l); clear v l kill D5 K5 hb5 F4) | (have kill := F4.out; refine al30 rfl rfl ?_; intro b5 w5 hb v l; have D5 := hid v; have K5 := hid l; have hb5 := hid hb; clear v l hb kill) | (have kill := G3.out; go_at_call 10; refine (run10 _ _ _ L3 _ _ _ _ [s] _ (M2.out.given.below G3.out.bel) (G3.out.given (txt_one HS.out))).mono ?_; rintro e w4 ⟨rfl, l⟩; rw [HP.out]; have F4 := hid (sq F3.out l); clear l kill G3 F3) | (have kill := E2.out; refine bsT1 (r0 := s) rfl _ rfl rfl ?_; intro a3 w3 m; have G3 := hid m; have F3 := hid m.bel; clear m kill))
          go_ret
          exact ⟨rfl, E9.out⟩)
      · have HD2 : Hid (runL L3 0 [decS n] = pinR false) := hid (by rw [pins_runR, HD.out, decide_eq_false (p := n ≤ 9999) (by omega)]; simp)
        have e1 : decide (1000 ≤ n) = true := decide_eq_true (by omega)
        have e2 : decide (n ≤ 9999) = false := decide_eq_false (by omega)
        have e3 : ¬ n ≤ 9999 := by omega
        have e4 : 1000 ≤ n := by omega
        clear HD h h40
        cases P <;> (
          go_wp2_with (first | (have kill := D10.out; refine st30 (r := pinR false) (w0 := w9) D10.out K10.out hb10.out rfl _ _ rfl rfl rfl ?_; intro w11 v l; have p0 := v.cell 0 (v := .int .i64 2) rfl; have hx : RR w11 b5 (pinR false) := (D9z.out.below l); have c0 := hx.cell 0 (v := .int .i64 2) rfl; have c1 := hx.cell 1 (v := .int .i64 1) rfl; have E9 := hid (sq E2.out (sq F9.out l)); clear v l hx kill D10 K10 hb10 F9) | (have kill := D10.out; refine st30 (r := pinR false) (w0 := w9) D10.out K10.out hb10.out rfl _ _ rfl rfl rfl ?_; intro w11 v l; have p0 := v.cell 0 (v := .int .i64 2) rfl; have hx : RR w11 b5 (pinR true) := (D9z.out.below l); have c0 := hx.cell 0 (v := .int .i64 1) rfl; have c1 := hx.cell 1 (v := .int .i64 1) rfl; have E9 := hid (sq E2.out (sq F9.out l)); clear v l hx kill D10 K10 hb10 F9) | (have kill := F9.out; refine al30 rfl rfl ?_; intro b10 w10 hb v l; have D10 := hid v; have D9z := D9; have K10 := hid l; have hb10 := hid hb; clear v l hb kill D9) | (have kill := G8.out; go_at_call 10; refine (run10 _ _ _ L3 _ _ _ _ [decS n] _ (M2.out.given.below F8.out) (G8.out.given (txt_one HDs.out))).mono ?_; rintro e w9 ⟨rfl, l⟩; rw [HD2.out]; have D9 := hid (D8.out.below l); have F9 := hid (sq F8.out l); clear l kill G8 D8 F8) | (have kill := F7.out; refine bsT1 (r0 := decS n) rfl _ rfl rfl ?_; intro a8 w8 m; have G8 := hid m; have D8 := hid (D7.out.below m.bel); have F8 := hid (sq F7.out m.bel); clear m kill D7 F7) | (have kill := D6.out; go_at_call 13; refine (HDc.out _).mono ?_; rintro e w7 ⟨rfl, l⟩; have D7 := hid (D6.out.below l); have F7 := hid (sq F6.out l); clear l kill D6 F6) | (have kill := D5.out; refine st30 (r := pinR false) (w0 := w4) D5.out K5.out hb5.out rfl _ _ rfl rfl rfl ?_; intro w6 v l; have D6 := hid v; have F6 := hid (sq F4.out l); clear v l kill D5 K5 hb5 F4) | (have kill := D5.out; refine st30 (r := pinR true) (w0 := w4) D5.out K5.out hb5.out rfl _ _ rfl rfl rfl ?_; intro w6 v l; have D6 := hid v; have F6 := hid (sq F4.out l); clear v l kill D5 K5 hb5 F4) | (have kill := F4.out; refine al30 rfl rfl ?_; intro b5 w5 hb v l; have D5 := hid v; have K5 := hid l; have hb5 := hid hb; clear v l hb kill) | (have kill := G3.out; go_at_call 10; refine (run10 _ _ _ L3 _ _ _ _ [s] _ (M2.out.given.below G3.out.bel) (G3.out.given (txt_one HS.out))).mono ?_; rintro e w4 ⟨rfl, l⟩; rw [HP.out]; have F4 := hid (sq F3.out l); clear l kill G3 F3) | (have kill := E2.out; refine bsT1 (r0 := s) rfl _ rfl rfl ?_; intro a3 w3 m; have G3 := hid m; have F3 := hid m.bel; clear m kill))
          go_ret
          exact ⟨rfl, E9.out⟩)
      · have HD2 : Hid (runL L3 0 [decS n] = pinR true) := hid (by rw [pins_runR, HD.out, decide_eq_true h1, decide_eq_true h2]; rfl)
        have e1 : decide (1000 ≤ n) = true := decide_eq_true h1
        have e2 : decide (n ≤ 9999) = true := decide_eq_true h2
        clear HD h40
        cases P <;> (
          go_wp2_with (first | (have kill := D10.out; refine st30 (r := pinR true) (w0 := w9) D10.out K10.out hb10.out rfl _ _ rfl rfl rfl ?_; intro w11 v l; have p0 := v.cell 0 (v := .int .i64 1) rfl; have hx : RR w11 b5 (pinR false) := (D9z.out.below l); have c0 := hx.cell 0 (v := .int .i64 2) rfl; have c1 := hx.cell 1 (v := .int .i64 1) rfl; have E9 := hid (sq E2.out (sq F9.out l)); clear v l hx kill D10 K10 hb10 F9) | (have kill := D10.out; refine st30 (r := pinR true) (w0 := w9) D10.out K10.out hb10.out rfl _ _ rfl rfl rfl ?_; intro w11 v l; have p0 := v.cell 0 (v := .int .i64 1) rfl; have hx : RR w11 b5 (pinR true) := (D9z.out.below l); have c0 := hx.cell 0 (v := .int .i64 1) rfl; have c1 := hx.cell 1 (v := .int .i64 1) rfl; have E9 := hid (sq E2.out (sq F9.out l)); clear v l hx kill D10 K10 hb10 F9) | (have kill := F9.out; refine al30 rfl rfl ?_; intro b10 w10 hb v l; have D10 := hid v; have D9z := D9; have K10 := hid l; have hb10 := hid hb; clear v l hb kill D9) | (have kill := G8.out; go_at_call 10; refine (run10 _ _ _ L3 _ _ _ _ [decS n] _ (M2.out.given.below F8.out) (G8.out.given (txt_one HDs.out))).mono ?_; rintro e w9 ⟨rfl, l⟩; rw [HD2.out]; have D9 := hid (D8.out.below l); have F9 := hid (sq F8.out l); clear l kill G8 D8 F8) | (have kill := F7.out; refine bsT1 (r0 := decS n) rfl _ rfl rfl ?_; intro a8 w8 m; have G8 := hid m; have D8 := hid (D7.out.below m.bel); have F8 := hid (sq F7.out m.bel); clear m kill D7 F7) | (have kill := D6.out; go_at_call 13; refine (HDc.out _).mono ?_; rintro e w7 ⟨rfl, l⟩; have D7 := hid (D6.out.below l); have F7 := hid (sq F6.out l); clear l kill D6 F6) | (have kill := D5.out; refine st30 (r := pinR false) (w0 := w4) D5.out K5.out hb5.out rfl _ _ rfl rfl rfl ?_; intro w6 v l; have D6 := hid v; have F6 := hid (sq F4.out l); clear v l kill D5 K5 hb5 F4) | (have kill := D5.out; refine st30 (r := pinR true) (w0 := w4) D5.out K5.out hb5.out rfl _ _ rfl rfl rfl ?_; intro w6 v l; have D6 := hid v; have F6 := hid (sq F4.out l); clear v l kill D5 K5 hb5 F4) | (have kill := F4.out; refine al30 rfl rfl ?_; intro b5 w5 hb v l; have D5 := hid v; have K5 := hid l; have hb5 := hid hb; clear v l hb kill) | (have kill := G3.out; go_at_call 10; refine (run10 _ _ _ L3 _ _ _ _ [s] _ (M2.out.given.below G3.out.bel) (G3.out.given (txt_one HS.out))).mono ?_; rintro e w4 ⟨rfl, l⟩; rw [HP.out]; have F4 := hid (sq F3.out l); clear l kill G3 F3) | (have kill := E2.out; refine bsT1 (r0 := s) rfl _ rfl rfl ?_; intro a3 w3 m; have G3 := hid m; have F3 := hid m.bel; clear m kill))
          go_ret
          exact ⟨rfl, E9.out⟩)
theorem walkPins_own : ownKnob Try.prog.godebug = none := by kernel_rfl
theorem walkPins_laid : laidOutB Try.prog = true := by kernel_rfl

set_option maxRecDepth 100000 in
set_option maxHeartbeats 1000000 in
theorem walkPins_lifted (os : Os) (started : os.Started) (H : Type) (enc : TypeId × Value → H) :
    ReturnsInHanded {} Try.checked os 6 .any (Rows.walkPinsSpec.pre6 enc Try.prog Try.f6 Rows.walkPinsRow.domain false) (Rows.walkPinsSpec.post enc Try.prog Try.f6 false true false false) := by
  refine returnsInHanded_of_change (C := Try.checked) walkPins_own started (by kernel_rfl) Try.func6
    (ChangeSpec.witness6 (enc := enc) (C := Try.checked) false ⟨#[], #[.string ⟨#[]⟩, .int .u16 0], []⟩ 8 (by kernel_rfl) (by kernel_rfl) (by kernel_rfl) (by kernel_rfl)) ?_
  intro W base args ds gs before hval0 hW hcnd _
  have hval : ∀ (j : Nat) t v, Try.f6.params[j]? = some t → args[j]? = some v → Value.okWide Try.prog W .any base t v := hval0
  have hW' := hW
  obtain ⟨p, q, hA0, hV, rfl, hfz, hnd⟩ := hW
  have hA : DataW.TrodAll enc Try.prog W 0 (fun _ => true) true Try.f6.params.toList args.toList ds p := hA0
  rw [Try.params6] at hA hval
  obtain ⟨v0, vs0, d0, ds0, p0, q0, hargs, rfl, rfl, h0, r0⟩ := trodAll_cons hA
  obtain ⟨v1, vs1, d1, ds1, p1, q1, rfl, rfl, rfl, h1, r1⟩ := trodAll_cons r0
  obtain ⟨rfl, rfl, rfl⟩ := trodAll_nil r1
  obtain rfl : args = #[v0, v1] := by cases args; simp_all
  obtain ⟨rfl, rfl⟩ := trodVars_none hV
  obtain ⟨a0, rfl, rfl, rfl, w0⟩ := Go.ChangeMaps.open_string Try.underlying9 (hval 0 9 v0 rfl rfl) h0
  obtain ⟨a1, rfl, rfl, rfl, w1⟩ := open_int Try.underlying39 (hval 1 39 v1 rfl rfl) h1
  clear hA0 hval0
  refine (pins_walk a0 a1 W w0 (by have := bounds_u16 w1; omega)).mono fun e W' ⟨he, bel⟩ => ?_
  subst he
  exact ⟨_, rfl, _, _, _, [], _, [], hW', trodAll_mk1 (shut_bool Try.underlying4 _), (trodAll_cons_mk (Go.ChangeMaps.shut_string Try.underlying9 w0) (trodAll_cons_mk (shut_int Try.underlying39 w1) trodAll_mk0)), rfl, bel.frame _, fun h => by cases h⟩

theorem walkPins_over : Rows.walkPinsRow.holds Try.pinned (OpenSpec.ofChange Rows.walkPinsSpec) :=
  OpenClaim.holds_of_wide 6 Try.f6 rfl rfl rfl rfl rfl rfl rfl ⟨rfl, rfl, rfl, rfl, rfl⟩ rfl rfl rfl rfl rfl (by kernel_rfl) Try.func6 (by kernel_rfl)
    (of_decide_eq_true (by kernel_rfl)) (by unfold Func.isWrapper; first | (rw [if_pos (by decide +kernel)]; kernel_rfl) | (rw [if_neg (by decide +kernel)]; exact ⟨rfl, rfl⟩))
    (fun os started H enc _ => walkPins_lifted os started H enc)

/-- The statement. -/
theorem walkPins_holds : Rows.WalkPinsSaid := walkPins_over
#print axioms walkPins_holds
end Go.Proofs.Ytnahbfnchopghaa
