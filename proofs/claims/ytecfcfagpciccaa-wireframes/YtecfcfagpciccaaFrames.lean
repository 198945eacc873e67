/- WireFrames: any bytes are a frame, or none, and it comes back, whatever stands ahead that begins none, and behind. -/
import Derived.Test.YtecfcfagpciccaaCat
namespace Go.Proofs.Ytecfcfagpciccaa
open Go.ChangeShapes Go.WideShapes Go.ChangeAt Go.RowKit

def no2 (l : List Int) : Bool := l.all fun c => !decide (c = 2)
theorem no2_snoc (zs : List Int) (k : Nat) (h : k < zs.length) : no2 (zs.take (k + 1)) = (no2 (zs.take k) && !decide (zs.getD k 0 = 2)) := by
  rw [take_snocI zs k h, no2, List.all_append]; simp [no2]
theorem no2_all {l : List Int} (h : no2 l = true) : ∀ x ∈ l, ¬ x = 2 := by
  intro x hx; simp [no2] at h; exact h x hx
theorem uf_frame {a b m : List Int} (h : no2 a = true) (hb : frOk b = true) : unf none 0 (a ++ frL b ++ m) = some (b, a.length + (frL b).length) := by
  rw [List.append_assoc, unf_ahead _ _ _ (no2_all h), unf_frame _ _ _ _ hb, Nat.zero_add]
set_option maxHeartbeats 8000000 in
set_option maxRecDepth 20000 in
theorem frames_walk (x0 : Option Addr) (y0 z0 : Nat) (l0 : List Int) (x1 : Option Addr) (y1 z1 : Nat) (l1 : List Int) (x2 : Option Addr) (y2 z2 : Nat) (l2 : List Int) (W : World) (h0 : InB W x0 y0 z0 l0) (h1 : InB W x1 y1 z1 l1) (h2 : InB W x2 y2 z2 l2) :
    Calls Try.prog 4 #[.slice x0 y0 z0, .slice x1 y1 z1, .slice x2 y2 z2] W fun e w' => e = .returned (.bool true) ∧ Below W.heap.size W w' := by
  have H0 := hid h0
  have H1 := hid h1
  have H2 := hid h2
  have cp0 := Nat.le_trans h0.giv.cap1 h0.giv.cap2
  have cp1 := Nat.le_trans h1.giv.cap1 h1.giv.cap2
  have cp2 := Nat.le_trans h2.giv.cap1 h2.giv.cap2
  clear h0 h1 h2
  have K0 := hid True.intro
  by_cases j0 : 600 < y0
  · have d0 : decide ((600 : Int) < (y0 : Int)) = true := decide_eq_true (by omega)
    have d0' : decide (600 < y0) = true := decide_eq_true j0
    go_enter Try.func4, Try.ntmps4
    go_wp2_with (go_at_call 9; have kill := K0.out; refine (known9 _).mono ?_; rintro e w1 ⟨rfl, b1⟩; have B1 := hid b1; clear b1 kill K0)
    go_ret
    exact ⟨rfl, B1.out⟩
  have d0 : decide ((600 : Int) < (y0 : Int)) = false := decide_eq_false (by omega)
  have d0' : decide (600 < y0) = false := decide_eq_false j0
  by_cases j1 : 60 < y1
  · have d1 : decide ((60 : Int) < (y1 : Int)) = true := decide_eq_true (by omega)
    have d1' : decide (60 < y1) = true := decide_eq_true j1
    go_enter Try.func4, Try.ntmps4
    go_wp2_with (go_at_call 9; have kill := K0.out; refine (known9 _).mono ?_; rintro e w1 ⟨rfl, b1⟩; have B1 := hid b1; clear b1 kill K0)
    go_ret
    exact ⟨rfl, B1.out⟩
  have d1 : decide ((60 : Int) < (y1 : Int)) = false := decide_eq_false (by omega)
  have d1' : decide (60 < y1) = false := decide_eq_false j1
  by_cases j2 : 60 < y2
  · have d2 : decide ((60 : Int) < (y2 : Int)) = true := decide_eq_true (by omega)
    have d2' : decide (60 < y2) = true := decide_eq_true j2
    go_enter Try.func4, Try.ntmps4
    go_wp2_with (go_at_call 9; have kill := K0.out; refine (known9 _).mono ?_; rintro e w1 ⟨rfl, b1⟩; have B1 := hid b1; clear b1 kill K0)
    go_ret
    exact ⟨rfl, B1.out⟩
  have d2 : decide ((60 : Int) < (y2 : Int)) = false := decide_eq_false (by omega)
  have d2' : decide (60 < y2) = false := decide_eq_false j2
  go_enter Try.func4, Try.ntmps4
  go_upto_region 5 with (go_at_call 9; have kill := K0.out; refine (known9 _).mono ?_; rintro e w1 ⟨rfl, b1⟩; have B1 := hid b1; clear b1 kill K0)
  have G0 := hid (H0.out.giv.below B1.out)
  obtain ⟨F, hF⟩ : ∃ F, frOk l0 = F := ⟨_, rfl⟩
  have HF := hid hF
  clear hF
  go_upto_region 6 with (go_at_call 17; refine (frame17 _ _ _ l0 _ G0.out H0.out.nil).mono ?_; rintro e w2 ⟨a2, n2, c2, rfl, m2⟩; rw [HF.out]; have M2 := hid m2; clear m2)
  have G2 := hid (G0.out.below M2.out.2)
  go_upto_region 7 with (go_at_call 18; refine (frame18 _ _ _ l0 _ G2.out H0.out.nil).mono ?_; rintro e w3 ⟨a3, n3, c3, rfl, m3⟩; rw [HF.out]; have M3 := hid m3; clear m3)
  have B3 : Hid (Below W.heap.size W w3) := sq (sq B1.out M2.out.2) M3.out.2
  have kc1 := run_str w3 a2 (frX l0) n2 c2 M2.out.1.len (row_mono M3.out.2 M2.out.1.at)
  have kc2 := run_str w3 a3 (frX l0) n3 c3 M3.out.1.len M3.out.1.at
  generalize strOfNums (frX l0) = S at *
  cases F
  · have hl := M2.out.1.len
    rw [frX_no HF.out] at hl
    obtain rfl : n2 = 0 := hl.symm
    clear hl
    go_wp2
    go_ret
    exact ⟨rfl, B3.out⟩
  · have hl := M2.out.1.len
    have hl0 : l0.length = y0 := H0.out.giv.leq
    rw [frX_yes HF.out, fr_len, hl0] at hl
    have FR : Hid (RowAt w3 a2 (frL l0)) := by have := row_mono M3.out.2 M2.out.1.at; rwa [frX_yes HF.out] at this
    have FL : Hid ((frL l0).length = n2) := by unfold Hid; rw [fr_len, hl0]; exact hl
    have FN : Hid (a2 = none → n2 = 0 ∧ c2 = 0) := M2.out.1.caps.1
    have hn2 : n2 ≤ 603 := by omega
    have G3 := hid (H1.out.giv.below B3.out)
    have HQ1 := hid H1.out.giv.leq
    clear hl hl0
    go_wp2
    go_loop [11] (fun i => ∃ (k : Nat), k ≤ y1 ∧ i = .int .i64 (k : Int) ∧ no2 (l1.take k) = true) (fun i => y1 - (intOf i).toNat)
    case atStart => exact ⟨0, by omega, rfl, rfl⟩
    case round =>
      obtain ⟨k, hk, rfl, hno⟩ := hrel
      have HN := hid hno
      clear hno
      by_cases hlt : k < y1
      · have HS : Hid (no2 (l1.take (k + 1)) = !decide (l1.getD k 0 = 2)) := by unfold Hid; rw [no2_snoc l1 k (by rw [HQ1.out]; exact hlt), HN.out, Bool.true_and]
        obtain ⟨b, o, rfl, hc⟩ := G3.out.cell k hlt
        generalize l1.getD k 0 = c at *
        by_cases c2' : c = 2
        · subst c2'
          clear HS
          go_wp2
          go_ret
          exact ⟨rfl, B3.out⟩
        · have HT := hid (HS.out.trans (by rw [decide_eq_false c2', Bool.not_false]))
          have e2 : (c == 2) = false := by simpa using c2'
          clear HS
          go_wp2
          go_round
          case rel => exact ⟨k + 1, by omega, by go_num, HT.out⟩
          case measure => simp [intOf]; omega
      · have hall : no2 l1 = true := by rw [← take_done (zs := l1) (k := k) (by rw [HQ1.out]; omega)]; exact HN.out
        have hu := uf_frame (m := l2) hall HF.out
        rw [HQ1.out, FL.out] at hu
        obtain ⟨e1, e2, e3⟩ := uf_some hu
        have U1 := hid e1
        have U2 := hid e2
        have U3 := hid e3
        have hcast : (y1 : Int) + (n2 : Int) = ((y1 + n2 : Nat) : Int) := by omega
        have BY : Hid (Byt (l1 ++ frL l0 ++ l2)) := byt_app (byt_app H1.out.giv.byt (fr_byt H0.out.giv.byt)) H2.out.giv.byt
        have Q1 := hid H1.out.nil
        have Q2 := hid H2.out.nil
        have R1 := hid G3.out.row
        have L2 := hid H2.out.giv.leq
        clear e1 e2 e3 hu hall HN
        generalize frL l0 = fl at *
        obtain ⟨s, hs⟩ : ∃ s, y1 + n2 = s := ⟨_, rfl⟩
        rw [hs] at hcast U2
        have hs' := hid hs
        clear hs
        have hsb : s ≤ 700 := by have := hs'.out; omega
        go_upto_region 17 with (first
          | (go_at_call 19; have kill := D3.out; refine (unf19 _ _ _ _ _ (D3.out.given BY.out) (by omega)).mono ?_; rintro e w7 ⟨a7, n7, c7, rfl, m7⟩; rw [U2.out, U3.out]; rw [U1.out] at m7; have M7 := hid m7; clear m7 kill)
          | (at_builtin; have kill := R3.out; refine app_row (l2 := l2) D2.out.1 R3.out L2.out Q2.out D2.out.2.size (by omega) rfl _ _ rfl rfl rfl ?_; intro a6 c6 w6 r6 t6; have D3 := hid (D2.out.next r6 t6); clear r6 t6 kill R3)
          | (at_builtin; have kill := R2.out; refine app_row (l2 := fl) D1.out.1 R2.out FL.out FN.out D1.out.2.size (by omega) rfl _ _ rfl rfl rfl ?_; intro a5 c5 w5 r5 t5; have D2 := hid (D1.out.next r5 t5); have R3 := hid (H2.out.giv.below (sq B3.out D2.out.2)).row; clear r5 t5 kill R2)
          | (at_builtin; have kill := R1.out; refine app_none (l2 := l1) R1.out HQ1.out Q1.out (by omega) rfl _ _ rfl rfl rfl ?_; intro a4 c4 w4 m4; have D1 := hid m4; have R2 := hid (row_mono D1.out.2 FR.out); clear m4 kill R1))
        have BB : Hid (Below W.heap.size W w7) := sq (sq B3.out D3.out.2) M7.out.2
        have G7 := hid (H0.out.giv.below BB.out)
        have kc3 := run_str w7 a7 l0 n7 c7 M7.out.1.len M7.out.1.at
        have kc4 := run_str w7 x0 l0 y0 z0 G7.out.leq G7.out.row
        generalize strOfNums l0 = S2 at *
        clear kc1 kc2
        go_wp2
        go_ret
        exact ⟨rfl, BB.out⟩
theorem wireFrames_own : ownKnob Try.prog.godebug = none := by kernel_rfl
theorem wireFrames_laid : laidOutB Try.prog = true := by kernel_rfl

set_option maxRecDepth 100000 in
set_option maxHeartbeats 1000000 in
theorem wireFrames_lifted (os : Os) (started : os.Started) (H : Type) (enc : TypeId × Value → H) :
    ReturnsInHanded {} Try.checked os 4 .any (Rows.wireFramesSpec.pre6 enc Try.prog Try.f4 Rows.wireFramesRow.domain false) (Rows.wireFramesSpec.post enc Try.prog Try.f4 false true false false) := by
  refine returnsInHanded_of_change (C := Try.checked) wireFrames_own started (by kernel_rfl) Try.func4
    (ChangeSpec.witness6 (enc := enc) (C := Try.checked) false ⟨#[], #[.slice none 0 0, .slice none 0 0, .slice none 0 0], []⟩ 8 (by kernel_rfl) (by kernel_rfl) (by kernel_rfl) (by kernel_rfl)) ?_
  intro W base args ds gs before hval0 hW hcnd _
  have hval : ∀ (j : Nat) t v, Try.f4.params[j]? = some t → args[j]? = some v → Value.okWide Try.prog W .any base t v := hval0
  have hW' := hW
  obtain ⟨p, q, hA0, hV, rfl, hfz, hnd⟩ := hW
  have hA : DataW.TrodAll enc Try.prog W 0 (fun _ => true) true Try.f4.params.toList args.toList ds p := hA0
  rw [Try.params4] at hA hval
  obtain ⟨v0, vs0, d0, ds0, p0, q0, hargs, rfl, rfl, h0, r0⟩ := trodAll_cons hA
  obtain ⟨v1, vs1, d1, ds1, p1, q1, rfl, rfl, rfl, h1, r1⟩ := trodAll_cons r0
  obtain ⟨v2, vs2, d2, ds2, p2, q2, rfl, rfl, rfl, h2, r2⟩ := trodAll_cons r1
  obtain ⟨rfl, rfl, rfl⟩ := trodAll_nil r2
  obtain rfl : args = #[v0, v1, v2] := by cases args; simp_all
  obtain ⟨rfl, rfl⟩ := trodVars_none hV
  obtain ⟨x0, y0, z0, rfl⟩ := okWide_slice Try.underlying22 (hval 0 22 v0 rfl rfl)
  have k0 := h0
  have lt0 : ∀ x ∈ p0, x.block < W.heap.size := by obtain ⟨m, hm⟩ := k0; exact DataW.trod_lt m _ _ _ hm
  obtain ⟨a0, len0, cap0, l0, e0, w0⟩ : ∃ a len cap l, Value.slice x0 y0 z0 = .slice a len cap ∧ InB W a len cap l := by
    obtain ⟨fuel, hf⟩ := h0
    exact open_inB hf
  cases e0
  obtain ⟨x1, y1, z1, rfl⟩ := okWide_slice Try.underlying22 (hval 1 22 v1 rfl rfl)
  have k1 := h1
  have lt1 : ∀ x ∈ p1, x.block < W.heap.size := by obtain ⟨m, hm⟩ := k1; exact DataW.trod_lt m _ _ _ hm
  obtain ⟨a1, len1, cap1, l1, e1, w1⟩ : ∃ a len cap l, Value.slice x1 y1 z1 = .slice a len cap ∧ InB W a len cap l := by
    obtain ⟨fuel, hf⟩ := h1
    exact open_inB hf
  cases e1
  obtain ⟨x2, y2, z2, rfl⟩ := okWide_slice Try.underlying22 (hval 2 22 v2 rfl rfl)
  have k2 := h2
  have lt2 : ∀ x ∈ p2, x.block < W.heap.size := by obtain ⟨m, hm⟩ := k2; exact DataW.trod_lt m _ _ _ hm
  obtain ⟨a2, len2, cap2, l2, e2, w2⟩ : ∃ a len cap l, Value.slice x2 y2 z2 = .slice a len cap ∧ InB W a len cap l := by
    obtain ⟨fuel, hf⟩ := h2
    exact open_inB hf
  cases e2
  clear hA0 hval0
  refine (frames_walk x0 y0 z0 l0 x1 y1 z1 l1 x2 y2 z2 l2 W w0 w1 w2).mono fun e W' ⟨he, bel⟩ => ?_
  subst he
  exact ⟨_, rfl, _, _, _, [], _, [], hW', trodAll_mk1 (shut_bool Try.underlying4 _), (trodAll_cons_mk (Below.trod wireFrames_laid (by kernel_rfl) (of_decide_eq_true (by kernel_rfl)) k0 bel lt0) (trodAll_cons_mk (Below.trod wireFrames_laid (by kernel_rfl) (of_decide_eq_true (by kernel_rfl)) k1 bel lt1) (trodAll_cons_mk (Below.trod wireFrames_laid (by kernel_rfl) (of_decide_eq_true (by kernel_rfl)) k2 bel lt2) trodAll_mk0))), rfl, bel.frame _, fun h => by cases h⟩

theorem wireFrames_over : Rows.wireFramesRow.holds Try.pinned (OpenSpec.ofChange Rows.wireFramesSpec) :=
  OpenClaim.holds_of_wide 4 Try.f4 rfl rfl rfl rfl rfl rfl rfl ⟨rfl, rfl, rfl, rfl, rfl⟩ rfl rfl rfl rfl rfl (by kernel_rfl) Try.func4 (by kernel_rfl)
    (of_decide_eq_true (by kernel_rfl)) (by unfold Func.isWrapper; first | (rw [if_pos (by decide +kernel)]; kernel_rfl) | (rw [if_neg (by decide +kernel)]; exact ⟨rfl, rfl⟩))
    (fun os started H enc _ => wireFrames_lifted os started H enc)

/-- The statement. -/
theorem wireFrames_holds : Rows.WireFramesSaid := wireFrames_over
#print axioms wireFrames_holds
end Go.Proofs.Ytecfcfagpciccaa
