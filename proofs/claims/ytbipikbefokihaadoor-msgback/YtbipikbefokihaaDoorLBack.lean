/- MsgBack: any message is bytes as the document says, or refused, and read back. For every input. -/
import Derived.Test.YtbipikbefokihaaDoorLKinds
import Derived.Test.YtbipikbefokihaaDoorOpenM
import Derived.Great.BuildSlice
namespace Go.Proofs.YtbipikbefokihaaDoor
open Go.ChangeShapes Go.WideShapes Go.ChangeAt Go.RowKit

theorem info27 : (Tryd.prog.info? 27).map (fun i => (i.zero, i.size, i.bytes)) = some (some Ms.zero.val, 26, 208) := by kernel_rfl
theorem lt_msg {w : World} {b o : Nat} {r : Ms} (h : w.rangeAt b o r.cells) : b < w.heap.size := World.block_lt_of_cell? w _ (h 0 _ rfl)
/-- Two messages are laid side by side. -/
theorem bsM2 {op : Oper} {a : Act} {w : World} {K : Act → World → Prop} {Q : Exit → Act → World → Prop} {r s : Ms} (x y : Operand) (ho : op.op = .buildSlice 30 2 #[(0, x), (1, y)]) (hx : a.eval x = r.val) (hy : a.eval y = s.val)
    (h : ∀ w', w'.rangeAt w.heap.size 0 r.cells → w'.rangeAt w.heap.size 26 s.cells → Below w.heap.size w w' → K (a.put op.dst (.slice (some ⟨w.heap.size, 0, none⟩) 2 2)) w') : op.wp Tryd.prog a w K Q := by
  obtain ⟨i, hi, hz0, hz1, hz2⟩ := info_parts info27
  have hn := heap_alloc_new w (.cells (r.cells ++ s.cells).toArray 27)
  have hc : ∀ j, (w.alloc (.cells (r.cells ++ s.cells).toArray 27)).cell? ⟨w.heap.size, j, none⟩ = (r.cells ++ s.cells)[j]? := fun j => by rw [cell_of_head hn]; simp
  have h1 : (w.alloc (.cells (r.cells ++ s.cells).toArray 27)).rangeAt w.heap.size 0 r.cells := fun j v hv => by
    have hl := (List.getElem?_eq_some_iff.1 hv).1
    rw [Nat.zero_add, hc, List.getElem?_append_left hl]; exact hv
  have h2 : (w.alloc (.cells (r.cells ++ s.cells).toArray 27)).rangeAt w.heap.size 26 s.cells := fun j v hv => by
    rw [hc, List.getElem?_append_right (by rw [Ms.len]; omega), Ms.len, Nat.add_sub_cancel_left]; exact hv
  refine wp_buildSlice 30 27 2 _ ho (r.cells ++ s.cells).toArray i _ Tryd.underlying30 hi hz0 (by rw [hz1]; decide) (by rw [hz1]; decide) ?_ (h _ h1 h2 (bel1 _ _))
  have := Great.fill_whole (s := 26) (by decide) [r.val, s.val] ((Array.range (2 * i.size)).map (Ms.zero.val.cells[· % Ms.zero.val.cells.size]!))
    (by intro v hv; simp at hv; rcases hv with hv | hv <;> subst hv <;> simp [Ms.val, Value.cells, Ms.len]) (by simp [hz1])
  rw [hz1] at this ⊢
  simpa [hx, hy, Value.cells, Ms.val] using this
/-- Two messages that lie side by side; each may be held. -/
def Two (w : World) (g : Nat) : Prop := ∀ j, j < 2 → ∃ r : Ms, w.rangeAt g (j * 26) r.cells ∧ r.Ok ∧ r.pan.size ≤ 9223372036854775807
theorem Two.below {w w' : World} {g : Nat} (h : Two w g) (hb : Below w.heap.size w w') : Two w' g := fun j hj => by
  obtain ⟨r, h1, h2, h3⟩ := h j hj
  exact ⟨r, range_kept h1 (hb.block g (lt_msg h1)), h2, h3⟩
theorem ldO {ops : Array Oper} {rest : List Oper} {op : Oper} {a : Act} {w : World} {Q : Exit → Act → World → Prop} {b o : Nat} {r : Ms} (hr : w.rangeAt b o r.cells) (hgd : op.guard = none) (y : Operand) (ho : op.op = .load 27 y) (hx : a.eval y = .pointer (some ⟨b, o, none⟩))
    (h : wpList Tryd.prog ops Q rest (a.put op.dst r.val) w) : wpList Tryd.prog ops Q (op :: rest) a w := by
  obtain ⟨d, hu, hd⟩ := row27
  exact wpList_load_mid hgd 27 y ho b o hx r.cells d hr hu hd n27 h
set_option maxRecDepth 20000 in
set_option maxHeartbeats 16000000 in
theorem back_walk (raw : Ms) (d k s t : Int) (W : World) (ro : raw.Ok) (rp : raw.pan.size ≤ maxLen) (hd : 0 ≤ d ∧ d < 256) (hk : 0 ≤ k ∧ k < 256) (hs : 0 ≤ s ∧ s < 65536) (ht : 0 ≤ t ∧ t < 65536) (hT : Tab W) :
    Calls Tryd.prog 3 #[raw.val, .int .u8 d, .int .u8 k, .int .u16 s, .int .u16 t] W fun e w' => e = .returned (.bool true) ∧ Below W.heap.size W w' := by
  obtain ⟨X, hX⟩ : ∃ X, seatM d k s t = X := ⟨_, rfl⟩
  have MX : Hid (∀ w, Calls Tryd.prog 8 #[.int .u8 d, .int .u8 k, .int .u16 s, .int .u16 t] w fun e w' => e = .returned X.val ∧ Below w.heap.size w w') := fun w => by
    rw [← hX]; exact msg8 d k s t w hd.1 hd.2 hk.1 hk.2 hs.1 hs.2 ht.1 ht.2
  have XO : Hid X.Ok := by rw [← hX]; exact seat_ok
  have XP : Hid (X.pan.size ≤ 9223372036854775807) := by rw [← hX]; exact seat_pan
  have RO := hid ro
  have RP : Hid (raw.pan.size ≤ 9223372036854775807) := by unfold maxLen at rp; exact rp
  have HT := hid hT
  have K0 := hid True.intro
  clear hX hd hk hs ht hT ro rp
  obtain ⟨pn, hpn⟩ : ∃ p, raw.pan = p := ⟨_, rfl⟩
  have HPN := hid hpn
  clear hpn
  by_cases h60 : 60 < pn.size
  · go_enter Tryd.func3, Tryd.ntmps3
    go_wp2_with (first | (go_at_call 7; have kill := L1.out; refine (known7 _ (HT.out.below L1.out)).mono ?_; rintro e w2 ⟨rfl, l2⟩; have V2 := hid (V1.out.below l2); have B2 := hid (sq L1.out l2); have cp := (V2.out.cell 3 rfl : w2.cell? ⟨b1, 3, none⟩ = some (.string raw.pan)); rw [HPN.out] at cp; clear l2 kill V1 L1) | (refine bx27 rfl _ rfl rfl ?_; intro b1 w1 hb1 v1 l1; have V1 := hid v1; have L1 := hid l1; clear v1 l1))
    go_ret
    exact ⟨rfl, B2.out⟩
  go_enter Tryd.func3, Tryd.ntmps3
  go_upto_region 5 with (first | (go_at_call 7; have kill := L1.out; refine (known7 _ (HT.out.below L1.out)).mono ?_; rintro e w2 ⟨rfl, l2⟩; have V2 := hid (V1.out.below l2); have B2 := hid (sq L1.out l2); have cp := (V2.out.cell 3 rfl : w2.cell? ⟨b1, 3, none⟩ = some (.string raw.pan)); rw [HPN.out] at cp; clear l2 kill V1 L1) | (refine bx27 rfl _ rfl rfl ?_; intro b1 w1 hb1 v1 l1; have V1 := hid v1; have L1 := hid l1; clear v1 l1))
  refine wp_region_noPanic ?_
  refine wp_region_held_drew (S := (fun w' : World => w'.rangeAt b1 0 raw.cells)) (by kernel_rfl) V2.out.at0 (fun hHeld => ?_)
  have BD := hid (B2.out.drew)
  (refine tk_yes (v := ?_) 1 (some 26) rfl rfl (by kernel_rfl) (by kernel_rfl) (by kernel_rfl) (fun _ _ _ h => h) (by rfl) ?_ hHeld ?_; rotate_left; focus (intro w hSw; go_simp; try with_reducible rfl))
  simp only [Act.put, List.setIfInBounds_toArray, List.set_cons_zero, List.set_cons_succ]
  (refine tk_yes (v := ?_) 2 (some 27) rfl rfl (by kernel_rfl) (by kernel_rfl) (by kernel_rfl) (fun _ _ _ h => h) (by rfl) ?_ hHeld ?_; rotate_left; focus (intro w hSw; go_simp; try with_reducible rfl))
  simp only [Act.put, List.setIfInBounds_toArray, List.set_cons_zero, List.set_cons_succ]
  (refine tk_yes (v := ?_) 3 (some 28) rfl rfl (by kernel_rfl) (by kernel_rfl) (by kernel_rfl) (fun _ _ _ h => h) (by rfl) ?_ hHeld ?_; rotate_left; focus (intro w hSw; go_simp; try with_reducible rfl))
  simp only [Act.put, List.setIfInBounds_toArray, List.set_cons_zero, List.set_cons_succ]
  (refine tk_yes (v := ?_) 4 (some 29) rfl rfl (by kernel_rfl) (by kernel_rfl) (by kernel_rfl) (fun _ _ _ h => h) (by rfl) ?_ hHeld ?_; rotate_left; focus (intro w hSw; go_simp; try with_reducible rfl))
  simp only [Act.put, List.setIfInBounds_toArray, List.set_cons_zero, List.set_cons_succ]
  (refine tk_yes (v := ?_) 8 (some 33) rfl rfl (by kernel_rfl) (by kernel_rfl) (by kernel_rfl) (fun _ _ _ h => h) (by rfl) ?_ hHeld ?_; rotate_left; focus (intro w hSw; go_simp; try with_reducible rfl))
  simp only [Act.put, List.setIfInBounds_toArray, List.set_cons_zero, List.set_cons_succ]
  refine tk_ms 0 (some 25) raw rfl rfl (by kernel_rfl) (by kernel_rfl) (by kernel_rfl) (fun _ _ _ h => h) (by rfl) _ rfl rfl (fun w hSw => hSw) hHeld ?_
  simp only [Act.put, List.setIfInBounds_toArray, List.set_cons_zero, List.set_cons_succ]
  refine wpAnyH_ready (rs := [5]) (by kernel_rfl) (by simp) ?_
  refine AllReadyH.cons rfl (fun K hK => ?_) AllReadyH.nil
  go_simp
  go_at_call 8
  refine (MX.out _).mono ?_
  rintro e wk1 ⟨rfl, l1⟩
  have BK := hid (sq BD.out l1)
  have HH1 : Hid (wk1.rangeAt b1 0 raw.cells) := range_kept hHeld (l1.block _ (lt_msg hHeld))
  go_wp2_with fail
  refine hK.out _ _ HH1.out (fun hHeld => ?_)
  clear hK K l1
  try simp only [Act.put, List.setIfInBounds_toArray, List.set_cons_zero, List.set_cons_succ]
  refine wpAnyH_ready (rs := [6]) (by kernel_rfl) (by simp) ?_
  refine AllReadyH.cons rfl (fun K hK => ?_) AllReadyH.nil
  refine step_of (o := { dst := some 31, op := _, type := _, pos := _, after := _, guard := none }) rfl (bsM2 (r := raw) (s := X) _ _ rfl rfl rfl ?_)
  intro wt hr0 hr1 lt
  have HR0 := hid hr0
  have HR1 := hid hr1
  have BT := hid (sq BK.out lt)
  have HH2 : Hid (wt.rangeAt b1 0 raw.cells) := range_kept hHeld (lt.block _ (lt_msg hHeld))
  refine hK.out _ _ HH2.out (fun hHeld => ?_)
  clear hK K hr0 hr1 lt
  try simp only [Act.put, List.setIfInBounds_toArray, List.set_cons_zero, List.set_cons_succ]
  (refine tk_yes (v := ?_) 7 (some 32) rfl rfl (by kernel_rfl) (by kernel_rfl) (by kernel_rfl) (fun _ _ _ h => h) (by rfl) ?_ hHeld ?_; rotate_left; focus (intro w hSw; go_simp; try with_reducible rfl))
  simp only [Act.put, List.setIfInBounds_toArray, List.set_cons_zero, List.set_cons_succ]
  refine wpAnyH_done (by kernel_rfl) ?_ _
  refine NoPanic.normal ?_
  have TW : Hid (Two wt wk1.heap.size) := fun j hj => by
    have h01 : j = 0 ∨ j = 1 := by omega
    rcases h01 with rfl | rfl
    · exact ⟨raw, HR0.out, RO.out, RP.out⟩
    · exact ⟨X, HR1.out, XO.out, XP.out⟩
  generalize wk1.heap.size = g at *
  clear HR0 HR1 V2 cp
  go_wp2
  go_loopw [33] (fun i wr => ∃ j : Nat, j ≤ 2 ∧ i = .int .i64 (j : Int) ∧ Two wr g ∧ Below W.heap.size W wr) (fun i _ => 2 - (intOf i).toNat)
  case atStart => exact ⟨0, by omega, rfl, TW.out, BT.out⟩
  case round =>
    obtain ⟨j, hj, rfl, htw, hbr⟩ := hrel
    have T2 := hid htw
    have BR := hid hbr
    clear htw hbr TW BT
    have h012 : j = 0 ∨ j = 1 ∨ j = 2 := by omega
    rcases h012 with rfl | rfl | rfl
    · obtain ⟨r, hr, ro, rp⟩ := T2.out 0 (by omega)
      have HRR : Hid (wr.rangeAt g 0 r.cells) := hr
      have RO := hid ro
      have RP := hid rp
      clear hr ro rp
      obtain ⟨PL, hPL⟩ : ∃ l, putL r = l := ⟨_, rfl⟩
      obtain ⟨PE, hPE⟩ : ∃ l, putE r = l := ⟨_, rfl⟩
      obtain ⟨RL, hRL⟩ : ∃ l, rightL r = l := ⟨_, rfl⟩
      obtain ⟨S, hS⟩ : ∃ l, strOfNums PL = l := ⟨_, rfl⟩
      have HPL := hid hPL
      have HPE := hid hPE
      have HRL := hid hRL
      have HS := hid hS
      clear hPL hPE hRL hS
      go_upto_region 10 with (first | (go_at_call 10; have kill := D5.out; refine (put10 r _ RO.out RP.out).mono ?_; rintro e w6 ⟨a6, n6, c6, rfl, d6⟩; rw [HPL.out] at d6; rw [HPE.out]; have D6 := hid d6; have E6 := hid (D5.out.more d6.2); have R6 := hid (R5.out.below d6.2); have T6 := hid (T5.out.below d6.2); have B6 := hid (sq B5.out d6.2); clear d6 kill D5 R5 B5 T5) | (have kill := D5.out; refine ld27 R5.out rfl _ rfl rfl ?_) | (go_at_call 9; have kill := B4.out; refine (put9 r _ RO.out RP.out (HT.out.below B4.out)).mono ?_; rintro e w5 ⟨a5, n5, c5, rfl, d5⟩; rw [HPL.out] at d5; rw [HPE.out]; have D5 := hid d5; have R5 := hid (R4.out.below d5.2); have T5 := hid (T4.out.below d5.2); have B5 := hid (sq B4.out d5.2); clear d5 kill B4 R4 T4) | (have kill := R4.out; refine ld27 R4.out rfl _ rfl rfl ?_) | (have kill := R3.out; refine st27 (r := r) R3.out L3.out hb12 rfl _ _ rfl rfl rfl ?_; intro w4 v4 l4; have R4 := hid v4; have B4 := hid (sq BR.out l4); have T4 := hid (T2.out.below l4); clear v4 l4 kill R3 L3 BR T2) | (refine al27 rfl rfl ?_; intro b12 w3 hb12 v3 l3; have R3 := hid v3; have L3 := hid l3; clear v3 l3) | (have kill := HRR.out; refine ldO HRR.out rfl _ rfl rfl ?_))
      have CX := hid (fun w (h : RowAt w a5 PL) => run_str w a5 PL n5 c5 E6.out.1.len h)
      have CY := hid (fun w (h : RowAt w a6 PL) => run_str w a6 PL n6 c6 D6.out.1.len h)
      rw [HS.out] at CX CY
      refine wp_region_noPanic ?_
      refine wp_region_held_drew (S := (fun w' : World => w'.rangeAt b12 0 r.cells ∧ (RowAt w' a5 PL ∧ RowAt w' a6 PL))) (by kernel_rfl) ⟨R6.out.at0, E6.out.1.at, D6.out.1.at⟩ (fun hHeld => ?_)
      have QZ : Hid (Below w6.heap.size w6 w6.drew) := (Below.refl _ w6).drew
      (refine tk_yes (v := ?_) 0 (some 47) rfl rfl (by kernel_rfl) (by kernel_rfl) (by kernel_rfl) (fun _ _ _ h => h) (by rfl) ?_ hHeld ?_; rotate_left; focus (intro w hSw; go_simp; try with_reducible rfl))
      simp only [Act.put, List.setIfInBounds_toArray, List.set_cons_zero, List.set_cons_succ]
      (refine tk_yes (v := .string S) 1 (some 48) rfl rfl (by kernel_rfl) (by kernel_rfl) (by kernel_rfl) (fun _ _ _ h => h) (by rfl) ?_ hHeld ?_; focus (intro w hSw; have hcv := CX.out w hSw.2.1; go_simp; try with_reducible rfl))
      simp only [Act.put, List.setIfInBounds_toArray, List.set_cons_zero, List.set_cons_succ]
      (refine tk_yes (v := ?_) 2 (some 49) rfl rfl (by kernel_rfl) (by kernel_rfl) (by kernel_rfl) (fun _ _ _ h => h) (by rfl) ?_ hHeld ?_; rotate_left; focus (intro w hSw; go_simp; try with_reducible rfl))
      simp only [Act.put, List.setIfInBounds_toArray, List.set_cons_zero, List.set_cons_succ]
      (refine tk_yes (v := .string S) 3 (some 50) rfl rfl (by kernel_rfl) (by kernel_rfl) (by kernel_rfl) (fun _ _ _ h => h) (by rfl) ?_ hHeld ?_; focus (intro w hSw; have hcv := CY.out w hSw.2.2; go_simp; try with_reducible rfl))
      simp only [Act.put, List.setIfInBounds_toArray, List.set_cons_zero, List.set_cons_succ]
      (refine tk_yes (v := ?_) 4 (some 51) rfl rfl (by kernel_rfl) (by kernel_rfl) (by kernel_rfl) (fun _ _ _ h => h) (by rfl) ?_ hHeld ?_; rotate_left; focus (intro w hSw; go_simp; try with_reducible rfl))
      simp only [Act.put, List.setIfInBounds_toArray, List.set_cons_zero, List.set_cons_succ]
      (refine tk_yes (v := ?_) 5 (some 52) rfl rfl (by kernel_rfl) (by kernel_rfl) (by kernel_rfl) (fun _ _ _ h => h) (by rfl) ?_ hHeld ?_; rotate_left; focus (intro w hSw; go_simp; try with_reducible rfl))
      simp only [Act.put, List.setIfInBounds_toArray, List.set_cons_zero, List.set_cons_succ]
      (refine tk_yes (v := ?_) 6 (some 53) rfl rfl (by kernel_rfl) (by kernel_rfl) (by kernel_rfl) (fun _ _ _ h => h) (by rfl) ?_ hHeld ?_; rotate_left; focus (intro w hSw; go_simp; try with_reducible rfl))
      simp only [Act.put, List.setIfInBounds_toArray, List.set_cons_zero, List.set_cons_succ]
      (refine tk_yes (v := ?_) 7 (some 54) rfl rfl (by kernel_rfl) (by kernel_rfl) (by kernel_rfl) (fun _ _ _ h => h) (by rfl) ?_ hHeld ?_; rotate_left; focus (intro w hSw; go_simp; try with_reducible rfl))
      simp only [Act.put, List.setIfInBounds_toArray, List.set_cons_zero, List.set_cons_succ]
      (refine tk_yes (v := ?_) 8 (some 55) rfl rfl (by kernel_rfl) (by kernel_rfl) (by kernel_rfl) (fun _ _ _ h => h) (by rfl) ?_ hHeld ?_; rotate_left; focus (intro w hSw; go_simp; try with_reducible rfl))
      simp only [Act.put, List.setIfInBounds_toArray, List.set_cons_zero, List.set_cons_succ]
      (refine tk_yes (v := ?_) 9 (some 56) rfl rfl (by kernel_rfl) (by kernel_rfl) (by kernel_rfl) (fun _ _ _ h => h) (by rfl) ?_ hHeld ?_; rotate_left; focus (intro w hSw; go_simp; try with_reducible rfl))
      simp only [Act.put, List.setIfInBounds_toArray, List.set_cons_zero, List.set_cons_succ]
      (refine tk_yes (v := ?_) 10 (some 57) rfl rfl (by kernel_rfl) (by kernel_rfl) (by kernel_rfl) (fun _ _ _ h => h) (by rfl) ?_ hHeld ?_; rotate_left; focus (intro w hSw; go_simp; try with_reducible rfl))
      simp only [Act.put, List.setIfInBounds_toArray, List.set_cons_zero, List.set_cons_succ]
      refine tk_ms 11 (some 58) r rfl rfl (by kernel_rfl) (by kernel_rfl) (by kernel_rfl) (fun _ _ _ h => h) (by rfl) _ rfl rfl (fun w hSw => hSw.1) hHeld ?_
      simp only [Act.put, List.setIfInBounds_toArray, List.set_cons_zero, List.set_cons_succ]
      refine tk_ms 13 (some 60) r rfl rfl (by kernel_rfl) (by kernel_rfl) (by kernel_rfl) (fun _ _ _ h => h) (by rfl) _ rfl rfl (fun w hSw => hSw.1) hHeld ?_
      simp only [Act.put, List.setIfInBounds_toArray, List.set_cons_zero, List.set_cons_succ]
      refine wpAnyH_ready (rs := [12]) (by kernel_rfl) (by simp) ?_
      refine AllReadyH.cons rfl (fun K hK => ?_) AllReadyH.nil
      go_simp
      go_at_call 11
      refine (right11 r _ RO.out RP.out).mono ?_
      rintro e wk1 ⟨rfl, l1⟩
      rw [HRL.out]
      have QB1 := hid (sq QZ.out l1)
      have HH1 : Hid (wk1.rangeAt b12 0 r.cells ∧ (RowAt wk1 a5 PL ∧ RowAt wk1 a6 PL)) := ⟨range_kept hHeld.1 (l1.block _ (lt_msg hHeld.1)), row_mono l1 hHeld.2.1, row_mono l1 hHeld.2.2⟩
      go_wp2_with fail
      refine hK.out _ _ HH1.out (fun hHeld => ?_)
      clear hK K l1
      try simp only [Act.put, List.setIfInBounds_toArray, List.set_cons_zero, List.set_cons_succ]
      refine wpAnyH_ready (rs := [14]) (by kernel_rfl) (by simp) ?_
      refine AllReadyH.cons rfl (fun K hK => ?_) AllReadyH.nil
      go_simp
      go_at_call 12
      refine (right12 r _ RO.out RP.out).mono ?_
      rintro e wk2 ⟨rfl, l2⟩
      rw [HRL.out]
      have QB2 := hid (sq QB1.out l2)
      have HH2 : Hid (wk2.rangeAt b12 0 r.cells ∧ (RowAt wk2 a5 PL ∧ RowAt wk2 a6 PL)) := ⟨range_kept hHeld.1 (l2.block _ (lt_msg hHeld.1)), row_mono l2 hHeld.2.1, row_mono l2 hHeld.2.2⟩
      go_wp2_with fail
      refine hK.out _ _ HH2.out (fun hHeld => ?_)
      clear hK K l2
      try simp only [Act.put, List.setIfInBounds_toArray, List.set_cons_zero, List.set_cons_succ]
      (refine tk_yes (v := ?_) 15 (some 62) rfl rfl (by kernel_rfl) (by kernel_rfl) (by kernel_rfl) (fun _ _ _ h => h) (by rfl) ?_ hHeld ?_; rotate_left; focus (intro w hSw; go_simp; try with_reducible rfl))
      simp only [Act.put, List.setIfInBounds_toArray, List.set_cons_zero, List.set_cons_succ]
      (refine tk_yes (v := ?_) 16 (some 63) rfl rfl (by kernel_rfl) (by kernel_rfl) (by kernel_rfl) (fun _ _ _ h => h) (by rfl) ?_ hHeld ?_; rotate_left; focus (intro w hSw; go_simp; try with_reducible rfl))
      simp only [Act.put, List.setIfInBounds_toArray, List.set_cons_zero, List.set_cons_succ]
      refine wpAnyH_done (by kernel_rfl) ?_ _
      refine NoPanic.normal ?_
      have R7 := hid (R6.out.below QB2.out)
      have T7 := hid (T6.out.below QB2.out)
      have B7 := hid (sq B6.out QB2.out)
      have E7 := hid (E6.out.more QB2.out)
      clear R6 T6 B6 E6 D6 CX CY QZ QB1 QB2 HH1 HH2 hHeld
      cases RL
      · have e27 : PE = 27 := by rw [← HPE.out]; unfold putE; rw [HRL.out]; rfl
        subst e27
        go_wp2
        go_roundw
        case rel => exact ⟨0 + 1, by omega, by go_num, T7.out, B7.out⟩
        case measure => simp [intOf]
      · have e0 : PE = 0 := by rw [← HPE.out]; unfold putE; rw [HRL.out]; rfl
        subst e0
        have HRD : Hid (rdM PL = r ∧ rdE PL = 0) := by
          have h := read_back HRL.out
          rw [HPL.out] at h
          exact rd_some h
        have HPB : Hid (Byt PL) := by rw [← HPL.out]; exact putL_byt r
        have HPN2 : Hid (PL.length ≤ 2000) := by rw [← HPL.out]; exact putL_len r
        have qg := fun x y w => (eqg27 r r x y w).2
        have qb : ∀ w, (binOp .neq 27 r.val r.val).run Tryd.prog w = .ok (.bool false) w := fun w => by
          have h := (gbin r r w).2; simpa using h
        go_wp2_with (first | (have kill := X9.out; refine ldw27 X9.out _ rfl (by kernel_rfl) rfl ?_) | (have kill := X9.out; refine ldw27 R9.out _ rfl (by kernel_rfl) rfl ?_) | (have kill := X8.out; refine st27 (r := r) X8.out L8.out hb17 rfl _ _ rfl rfl rfl ?_; intro w9 v9 l9; have X9 := hid v9; have R9 := hid (R8.out.below l9); have T9 := hid (T8.out.below l9); have B9 := hid (sq B8.out l9); clear v9 l9 kill X8 L8 R8 T8 B8) | (refine al27 rfl rfl ?_; have kill := R8.out; intro b17 w8' hb17 v8 l8; have X8 := hid v8; have L8 := hid l8; clear v8 l8 kill) | (go_at_call 13; have kill := E7.out; refine (read13 _ _ _ PL _ (E7.out.given HPB.out) (by have h1 := HPN2.out; have h2 := E7.out.1.len; omega)).mono ?_; rintro e w8 ⟨rfl, l8⟩; rw [HRD.out.1, HRD.out.2]; have R8 := hid (R7.out.below l8); have T8 := hid (T7.out.below l8); have B8 := hid (sq B7.out l8); clear l8 kill E7 R7 T7 B7))
        go_roundw
        case rel => exact ⟨0 + 1, by omega, by go_num, T9.out, B9.out⟩
        case measure => simp [intOf]
    · obtain ⟨r, hr, ro, rp⟩ := T2.out 1 (by omega)
      have HRR : Hid (wr.rangeAt g 26 r.cells) := hr
      have RO := hid ro
      have RP := hid rp
      clear hr ro rp
      obtain ⟨PL, hPL⟩ : ∃ l, putL r = l := ⟨_, rfl⟩
      obtain ⟨PE, hPE⟩ : ∃ l, putE r = l := ⟨_, rfl⟩
      obtain ⟨RL, hRL⟩ : ∃ l, rightL r = l := ⟨_, rfl⟩
      obtain ⟨S, hS⟩ : ∃ l, strOfNums PL = l := ⟨_, rfl⟩
      have HPL := hid hPL
      have HPE := hid hPE
      have HRL := hid hRL
      have HS := hid hS
      clear hPL hPE hRL hS
      go_upto_region 10 with (first | (go_at_call 10; have kill := D5.out; refine (put10 r _ RO.out RP.out).mono ?_; rintro e w6 ⟨a6, n6, c6, rfl, d6⟩; rw [HPL.out] at d6; rw [HPE.out]; have D6 := hid d6; have E6 := hid (D5.out.more d6.2); have R6 := hid (R5.out.below d6.2); have T6 := hid (T5.out.below d6.2); have B6 := hid (sq B5.out d6.2); clear d6 kill D5 R5 B5 T5) | (have kill := D5.out; refine ld27 R5.out rfl _ rfl rfl ?_) | (go_at_call 9; have kill := B4.out; refine (put9 r _ RO.out RP.out (HT.out.below B4.out)).mono ?_; rintro e w5 ⟨a5, n5, c5, rfl, d5⟩; rw [HPL.out] at d5; rw [HPE.out]; have D5 := hid d5; have R5 := hid (R4.out.below d5.2); have T5 := hid (T4.out.below d5.2); have B5 := hid (sq B4.out d5.2); clear d5 kill B4 R4 T4) | (have kill := R4.out; refine ld27 R4.out rfl _ rfl rfl ?_) | (have kill := R3.out; refine st27 (r := r) R3.out L3.out hb12 rfl _ _ rfl rfl rfl ?_; intro w4 v4 l4; have R4 := hid v4; have B4 := hid (sq BR.out l4); have T4 := hid (T2.out.below l4); clear v4 l4 kill R3 L3 BR T2) | (refine al27 rfl rfl ?_; intro b12 w3 hb12 v3 l3; have R3 := hid v3; have L3 := hid l3; clear v3 l3) | (have kill := HRR.out; refine ldO HRR.out rfl _ rfl rfl ?_))
      have CX := hid (fun w (h : RowAt w a5 PL) => run_str w a5 PL n5 c5 E6.out.1.len h)
      have CY := hid (fun w (h : RowAt w a6 PL) => run_str w a6 PL n6 c6 D6.out.1.len h)
      rw [HS.out] at CX CY
      refine wp_region_noPanic ?_
      refine wp_region_held_drew (S := (fun w' : World => w'.rangeAt b12 0 r.cells ∧ (RowAt w' a5 PL ∧ RowAt w' a6 PL))) (by kernel_rfl) ⟨R6.out.at0, E6.out.1.at, D6.out.1.at⟩ (fun hHeld => ?_)
      have QZ : Hid (Below w6.heap.size w6 w6.drew) := (Below.refl _ w6).drew
      (refine tk_yes (v := ?_) 0 (some 47) rfl rfl (by kernel_rfl) (by kernel_rfl) (by kernel_rfl) (fun _ _ _ h => h) (by rfl) ?_ hHeld ?_; rotate_left; focus (intro w hSw; go_simp; try with_reducible rfl))
      simp only [Act.put, List.setIfInBounds_toArray, List.set_cons_zero, List.set_cons_succ]
      (refine tk_yes (v := .string S) 1 (some 48) rfl rfl (by kernel_rfl) (by kernel_rfl) (by kernel_rfl) (fun _ _ _ h => h) (by rfl) ?_ hHeld ?_; focus (intro w hSw; have hcv := CX.out w hSw.2.1; go_simp; try with_reducible rfl))
      simp only [Act.put, List.setIfInBounds_toArray, List.set_cons_zero, List.set_cons_succ]
      (refine tk_yes (v := ?_) 2 (some 49) rfl rfl (by kernel_rfl) (by kernel_rfl) (by kernel_rfl) (fun _ _ _ h => h) (by rfl) ?_ hHeld ?_; rotate_left; focus (intro w hSw; go_simp; try with_reducible rfl))
      simp only [Act.put, List.setIfInBounds_toArray, List.set_cons_zero, List.set_cons_succ]
      (refine tk_yes (v := .string S) 3 (some 50) rfl rfl (by kernel_rfl) (by kernel_rfl) (by kernel_rfl) (fun _ _ _ h => h) (by rfl) ?_ hHeld ?_; focus (intro w hSw; have hcv := CY.out w hSw.2.2; go_simp; try with_reducible rfl))
      simp only [Act.put, List.setIfInBounds_toArray, List.set_cons_zero, List.set_cons_succ]
      (refine tk_yes (v := ?_) 4 (some 51) rfl rfl (by kernel_rfl) (by kernel_rfl) (by kernel_rfl) (fun _ _ _ h => h) (by rfl) ?_ hHeld ?_; rotate_left; focus (intro w hSw; go_simp; try with_reducible rfl))
      simp only [Act.put, List.setIfInBounds_toArray, List.set_cons_zero, List.set_cons_succ]
      (refine tk_yes (v := ?_) 5 (some 52) rfl rfl (by kernel_rfl) (by kernel_rfl) (by kernel_rfl) (fun _ _ _ h => h) (by rfl) ?_ hHeld ?_; rotate_left; focus (intro w hSw; go_simp; try with_reducible rfl))
      simp only [Act.put, List.setIfInBounds_toArray, List.set_cons_zero, List.set_cons_succ]
      (refine tk_yes (v := ?_) 6 (some 53) rfl rfl (by kernel_rfl) (by kernel_rfl) (by kernel_rfl) (fun _ _ _ h => h) (by rfl) ?_ hHeld ?_; rotate_left; focus (intro w hSw; go_simp; try with_reducible rfl))
      simp only [Act.put, List.setIfInBounds_toArray, List.set_cons_zero, List.set_cons_succ]
      (refine tk_yes (v := ?_) 7 (some 54) rfl rfl (by kernel_rfl) (by kernel_rfl) (by kernel_rfl) (fun _ _ _ h => h) (by rfl) ?_ hHeld ?_; rotate_left; focus (intro w hSw; go_simp; try with_reducible rfl))
      simp only [Act.put, List.setIfInBounds_toArray, List.set_cons_zero, List.set_cons_succ]
      (refine tk_yes (v := ?_) 8 (some 55) rfl rfl (by kernel_rfl) (by kernel_rfl) (by kernel_rfl) (fun _ _ _ h => h) (by rfl) ?_ hHeld ?_; rotate_left; focus (intro w hSw; go_simp; try with_reducible rfl))
      simp only [Act.put, List.setIfInBounds_toArray, List.set_cons_zero, List.set_cons_succ]
      (refine tk_yes (v := ?_) 9 (some 56) rfl rfl (by kernel_rfl) (by kernel_rfl) (by kernel_rfl) (fun _ _ _ h => h) (by rfl) ?_ hHeld ?_; rotate_left; focus (intro w hSw; go_simp; try with_reducible rfl))
      simp only [Act.put, List.setIfInBounds_toArray, List.set_cons_zero, List.set_cons_succ]
      (refine tk_yes (v := ?_) 10 (some 57) rfl rfl (by kernel_rfl) (by kernel_rfl) (by kernel_rfl) (fun _ _ _ h => h) (by rfl) ?_ hHeld ?_; rotate_left; focus (intro w hSw; go_simp; try with_reducible rfl))
      simp only [Act.put, List.setIfInBounds_toArray, List.set_cons_zero, List.set_cons_succ]
      refine tk_ms 11 (some 58) r rfl rfl (by kernel_rfl) (by kernel_rfl) (by kernel_rfl) (fun _ _ _ h => h) (by rfl) _ rfl rfl (fun w hSw => hSw.1) hHeld ?_
      simp only [Act.put, List.setIfInBounds_toArray, List.set_cons_zero, List.set_cons_succ]
      refine tk_ms 13 (some 60) r rfl rfl (by kernel_rfl) (by kernel_rfl) (by kernel_rfl) (fun _ _ _ h => h) (by rfl) _ rfl rfl (fun w hSw => hSw.1) hHeld ?_
      simp only [Act.put, List.setIfInBounds_toArray, List.set_cons_zero, List.set_cons_succ]
      refine wpAnyH_ready (rs := [12]) (by kernel_rfl) (by simp) ?_
      refine AllReadyH.cons rfl (fun K hK => ?_) AllReadyH.nil
      go_simp
      go_at_call 11
      refine (right11 r _ RO.out RP.out).mono ?_
      rintro e wk1 ⟨rfl, l1⟩
      rw [HRL.out]
      have QB1 := hid (sq QZ.out l1)
      have HH1 : Hid (wk1.rangeAt b12 0 r.cells ∧ (RowAt wk1 a5 PL ∧ RowAt wk1 a6 PL)) := ⟨range_kept hHeld.1 (l1.block _ (lt_msg hHeld.1)), row_mono l1 hHeld.2.1, row_mono l1 hHeld.2.2⟩
      go_wp2_with fail
      refine hK.out _ _ HH1.out (fun hHeld => ?_)
      clear hK K l1
      try simp only [Act.put, List.setIfInBounds_toArray, List.set_cons_zero, List.set_cons_succ]
      refine wpAnyH_ready (rs := [14]) (by kernel_rfl) (by simp) ?_
      refine AllReadyH.cons rfl (fun K hK => ?_) AllReadyH.nil
      go_simp
      go_at_call 12
      refine (right12 r _ RO.out RP.out).mono ?_
      rintro e wk2 ⟨rfl, l2⟩
      rw [HRL.out]
      have QB2 := hid (sq QB1.out l2)
      have HH2 : Hid (wk2.rangeAt b12 0 r.cells ∧ (RowAt wk2 a5 PL ∧ RowAt wk2 a6 PL)) := ⟨range_kept hHeld.1 (l2.block _ (lt_msg hHeld.1)), row_mono l2 hHeld.2.1, row_mono l2 hHeld.2.2⟩
      go_wp2_with fail
      refine hK.out _ _ HH2.out (fun hHeld => ?_)
      clear hK K l2
      try simp only [Act.put, List.setIfInBounds_toArray, List.set_cons_zero, List.set_cons_succ]
      (refine tk_yes (v := ?_) 15 (some 62) rfl rfl (by kernel_rfl) (by kernel_rfl) (by kernel_rfl) (fun _ _ _ h => h) (by rfl) ?_ hHeld ?_; rotate_left; focus (intro w hSw; go_simp; try with_reducible rfl))
      simp only [Act.put, List.setIfInBounds_toArray, List.set_cons_zero, List.set_cons_succ]
      (refine tk_yes (v := ?_) 16 (some 63) rfl rfl (by kernel_rfl) (by kernel_rfl) (by kernel_rfl) (fun _ _ _ h => h) (by rfl) ?_ hHeld ?_; rotate_left; focus (intro w hSw; go_simp; try with_reducible rfl))
      simp only [Act.put, List.setIfInBounds_toArray, List.set_cons_zero, List.set_cons_succ]
      refine wpAnyH_done (by kernel_rfl) ?_ _
      refine NoPanic.normal ?_
      have R7 := hid (R6.out.below QB2.out)
      have T7 := hid (T6.out.below QB2.out)
      have B7 := hid (sq B6.out QB2.out)
      have E7 := hid (E6.out.more QB2.out)
      clear R6 T6 B6 E6 D6 CX CY QZ QB1 QB2 HH1 HH2 hHeld
      cases RL
      · have e27 : PE = 27 := by rw [← HPE.out]; unfold putE; rw [HRL.out]; rfl
        subst e27
        go_wp2
        go_roundw
        case rel => exact ⟨1 + 1, by omega, by go_num, T7.out, B7.out⟩
        case measure => simp [intOf]
      · have e0 : PE = 0 := by rw [← HPE.out]; unfold putE; rw [HRL.out]; rfl
        subst e0
        have HRD : Hid (rdM PL = r ∧ rdE PL = 0) := by
          have h := read_back HRL.out
          rw [HPL.out] at h
          exact rd_some h
        have HPB : Hid (Byt PL) := by rw [← HPL.out]; exact putL_byt r
        have HPN2 : Hid (PL.length ≤ 2000) := by rw [← HPL.out]; exact putL_len r
        have qg := fun x y w => (eqg27 r r x y w).2
        have qb : ∀ w, (binOp .neq 27 r.val r.val).run Tryd.prog w = .ok (.bool false) w := fun w => by
          have h := (gbin r r w).2; simpa using h
        go_wp2_with (first | (have kill := X9.out; refine ldw27 X9.out _ rfl (by kernel_rfl) rfl ?_) | (have kill := X9.out; refine ldw27 R9.out _ rfl (by kernel_rfl) rfl ?_) | (have kill := X8.out; refine st27 (r := r) X8.out L8.out hb17 rfl _ _ rfl rfl rfl ?_; intro w9 v9 l9; have X9 := hid v9; have R9 := hid (R8.out.below l9); have T9 := hid (T8.out.below l9); have B9 := hid (sq B8.out l9); clear v9 l9 kill X8 L8 R8 T8 B8) | (refine al27 rfl rfl ?_; have kill := R8.out; intro b17 w8' hb17 v8 l8; have X8 := hid v8; have L8 := hid l8; clear v8 l8 kill) | (go_at_call 13; have kill := E7.out; refine (read13 _ _ _ PL _ (E7.out.given HPB.out) (by have h1 := HPN2.out; have h2 := E7.out.1.len; omega)).mono ?_; rintro e w8 ⟨rfl, l8⟩; rw [HRD.out.1, HRD.out.2]; have R8 := hid (R7.out.below l8); have T8 := hid (T7.out.below l8); have B8 := hid (sq B7.out l8); clear l8 kill E7 R7 T7 B7))
        go_roundw
        case rel => exact ⟨1 + 1, by omega, by go_num, T9.out, B9.out⟩
        case measure => simp [intOf]
    · go_wp2
      go_ret
      exact ⟨rfl, BR.out⟩
set_option maxRecDepth 100000 in
set_option maxHeartbeats 1000000 in
theorem msgBack_lifted (os : Os) (started : os.Started) (H : Type) (enc : TypeId × Value → H) :
    ReturnsInHanded {} Tryd.checked os 3 .any (fun w args => (Rows.msgBackSpec.pre enc Tryd.prog Tryd.f3 [] false w args ∧ laidMetH Tryd.prog lst w) ∧ sizedMet enc Tryd.prog Tryd.f3 (OpenSpec.ofChange Rows.msgBackSpec) false w args)
      (Rows.msgBackSpec.post enc Tryd.prog Tryd.f3 false true false false) := by
  refine returnsInHanded_of_change_and (C := Tryd.checked) (X := fun w _ => laidMetH Tryd.prog lst w) (fun _ _ _ hh h => h.of_heap hh) laid_own started (by kernel_rfl) Tryd.func3
    (ChangeSpec.witness_shaped (enc := enc) (C := Tryd.checked) (os := os) (X := fun w _ => laidMetH Tryd.prog lst w) false (World.doorLaid Tryd.prog 4000 os) #[Ms.zero.val, .int .u8 0, .int .u8 0, .int .u16 0, .int .u16 0] 8 rfl (World.shaped_of_RefB (by kernel_rfl) (by kernel_rfl)) (by kernel_rfl) (by kernel_rfl) (by kernel_rfl) (door_met os _)) ?_
  intro W base args ds gs before hval0 hW _ _ hL _
  have hval : ∀ (j : Nat) t v, Tryd.f3.params[j]? = some t → args[j]? = some v → Value.okWide Tryd.prog W .any base t v := hval0
  have hW' := hW
  obtain ⟨p, q, hA0, hV, rfl, hfz, hnd⟩ := hW
  have hA : DataW.TrodAll enc Tryd.prog W 0 (fun _ => true) true Tryd.f3.params.toList args.toList ds p := hA0
  rw [Tryd.params3] at hA hval
  obtain ⟨v0, vs0, d0, ds0, p0, q0, hargs, rfl, rfl, h0, r0⟩ := trodAll_cons hA
  obtain ⟨v1, vs1, d1, ds1, p1, q1, rfl, rfl, rfl, h1, r1⟩ := trodAll_cons r0
  obtain ⟨v2, vs2, d2, ds2, p2, q2, rfl, rfl, rfl, h2, r2⟩ := trodAll_cons r1
  obtain ⟨v3, vs3, d3, ds3, p3, q3, rfl, rfl, rfl, h3, r3⟩ := trodAll_cons r2
  obtain ⟨v4, vs4, d4, ds4, p4, q4, rfl, rfl, rfl, h4, r4⟩ := trodAll_cons r3
  obtain ⟨rfl, rfl, rfl⟩ := trodAll_nil r4
  obtain rfl : args = #[v0, v1, v2, v3, v4] := by cases args; simp_all
  obtain ⟨rfl, rfl⟩ := trodVars_none hV
  have k0 := h0
  have lt0 : ∀ x ∈ p0, x.block < W.heap.size := by obtain ⟨m, hm⟩ := k0; exact DataW.trod_lt m _ _ _ hm
  obtain ⟨rc0, rfl, ok0, sz0⟩ := open_rec (hval 0 27 v0 rfl rfl) h0
  obtain ⟨a1, rfl, rfl, rfl, w1⟩ := open_int Tryd.underlying5 (hval 1 5 v1 rfl rfl) h1
  obtain ⟨a2, rfl, rfl, rfl, w2⟩ := open_int Tryd.underlying5 (hval 2 5 v2 rfl rfl) h2
  obtain ⟨a3, rfl, rfl, rfl, w3⟩ := open_int Tryd.underlying22 (hval 3 22 v3 rfl rfl) h3
  obtain ⟨a4, rfl, rfl, rfl, w4⟩ := open_int Tryd.underlying22 (hval 4 22 v4 rfl rfl) h4
  clear hA0 hval0
  refine (back_walk rc0 a1 a2 a3 a4 W ok0 sz0 (by have := bounds_u8 w1; omega) (by have := bounds_u8 w2; omega) (by have := bounds_u16 w3; omega) (by have := bounds_u16 w4; omega) (tab_of hL)).mono fun e W' ⟨he, bel⟩ => ?_
  subst he
  exact ⟨_, rfl, _, _, _, [], _, [], hW', trodAll_mk1 (shut_bool Tryd.underlying4 _), (trodAll_cons_mk (Below.trod laid_all (by kernel_rfl) (of_decide_eq_true (by kernel_rfl)) k0 bel lt0) (trodAll_cons_mk (shut_int Tryd.underlying5 w1) (trodAll_cons_mk (shut_int Tryd.underlying5 w2) (trodAll_cons_mk (shut_int Tryd.underlying22 w3) (trodAll_cons_mk (shut_int Tryd.underlying22 w4) trodAll_mk0))))), rfl, bel.frame _, fun h => by cases h⟩

theorem msgBack_over : Rows.msgBackRow.holds Tryd.pinned (OpenSpec.ofChange Rows.msgBackSpec) :=
  OpenClaim.holds_of_wide 3 Tryd.f3 rfl rfl rfl rfl rfl rfl rfl ⟨rfl, rfl, rfl, rfl, rfl⟩ rfl rfl rfl rfl rfl (by kernel_rfl) Tryd.func3 (by kernel_rfl)
    (of_decide_eq_true (by kernel_rfl)) (by unfold Func.isWrapper; first | (rw [if_pos (by decide +kernel)]; kernel_rfl) | (rw [if_neg (by decide +kernel)]; exact ⟨rfl, rfl⟩))
    (fun os started H enc _ => msgBack_lifted os started H enc)

/-- The row's statement, tied to the program's text. -/
theorem msgBack_holds : Rows.MsgBackCardSaid :=
  Claim7.holds_tied_plain_at .later [] [.data, .data, .data] true (true, "1b93e6649467937dc11d5103653e4cbe1f2a4d61aec414c3f70a521379b88323") false
    msgBack_over (fun _ h => by cases h) (by kernel_rfl) (fun _ h => by cases h) msgBack_row_tie rfl ⟨rfl, rfl⟩ (by kernel_rfl) rfl
    (fun f fn hf hfn => by
      obtain rfl : f = 3 := Option.some.inj ((show Tryd.prog.funcNamed Rows.msgBackRow.func = some 3 by kernel_rfl).symm.trans hf) |>.symm
      obtain rfl : fn = Tryd.f3 := (Option.some.inj (Tryd.func3.symm.trans hfn)).symm
      exact ⟨by kernel_rfl, fun j t ht => by
        rw [Tryd.params3] at ht
        have hm : t ∈ [27, 5, 5, 22, 22] := by have h := Array.mem_of_getElem? ht; rw [← Array.mem_toList_iff] at h; exact h
        have hall : ([27, 5, 5, 22, 22].all fun u => !Tryd.prog.wantsStandIn u) = true := by kernel_rfl
        exact (show Tryd.prog.wantsStandIn t = false by simpa using List.all_eq_true.1 hall t hm)⟩)
    (by kernel_rfl)
#print axioms msgBack_holds
end Go.Proofs.YtbipikbefokihaaDoor
