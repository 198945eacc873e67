/- FrameBack: any record is bytes as the document says, or refused, and read back. For every input. -/
import Derived.Test.YtmojndacjngjpaaOpenR
import Derived.Great.BuildSlice
namespace Go.Proofs.Ytmojndacjngjpaa
open Go.ChangeShapes Go.WideShapes Go.ChangeAt Go.RowKit

theorem bs33 {op : Oper} {a : Act} {w : World} {K : Act → World → Prop} {Q : Exit → Act → World → Prop} (y z : Operand) (ho : op.op = .buildSlice 33 2 #[(0, y), (1, z)]) (r s : Rc) (hy : a.eval y = r.val) (hz : a.eval z = s.val)
    (h : K (a.put op.dst (.slice (some ⟨w.heap.size, 0, none⟩) 2 2)) (w.alloc (.cells (r.cells ++ s.cells).toArray 29))) : op.wp Try.prog a w K Q := by
  have hi := z29
  cases hq : Try.prog.info? 29 with
  | none => simp [hq] at hi
  | some i =>
    simp [hq] at hi
    refine wp_buildSlice 33 29 2 _ ho (r.cells ++ s.cells).toArray i _ Try.underlying33 hq hi.1 (by rw [hi.2]; decide) (by rw [hi.2]; decide) ?_ h
    have := Great.fill_whole (s := 17) (by decide) [r.val, s.val] ((Array.range (2 * i.size)).map ((Rc.zero.val).cells[· % (Rc.zero.val).cells.size]!))
      (by intro v hv; simp at hv; rcases hv with rfl | rfl <;> simp [Value.cells, Rc.val, Rc.len]) (by simp [hi.2])
    rw [hi.2] at this ⊢
    simpa [hy, hz, Value.cells, Rc.val] using this
theorem ld29o {ops : Array Oper} {rest : List Oper} {op : Oper} {a : Act} {w : World} {Q : Exit → Act → World → Prop} {b o : Nat} {r : Rc} (hr : w.rangeAt b o r.cells) (hgd : op.guard = none) (y : Operand) (ho : op.op = .load 29 y) (hx : a.eval y = .pointer (some ⟨b, o, none⟩))
    (h : wpList Try.prog ops Q rest (a.put op.dst r.val) w) : wpList Try.prog ops Q (op :: rest) a w := by
  obtain ⟨d, hu, hd⟩ := row29
  exact wpList_load_mid hgd 29 y ho b o hx r.cells d hr hu hd n29 h
theorem two_at {w : World} {q : Nat} {r s : Rc} (h : w.rangeAt q 0 (r.cells ++ s.cells)) : w.rangeAt q 0 r.cells ∧ w.rangeAt q 17 s.cells := by
  constructor
  · intro j v hv
    exact h j v (by rw [List.getElem?_append_left (List.getElem?_eq_some_iff.1 hv).1]; exact hv)
  · intro j v hv
    have := h (17 + j) v (by rw [List.getElem?_append_right (by rw [Rc.len]; omega), Rc.len, Nat.add_sub_cancel_left]; exact hv)
    rwa [Nat.zero_add] at this
set_option maxRecDepth 10000 in
set_option maxHeartbeats 4000000 in
theorem back_walk (r : Rc) (d k s m : Int) (a5 : Option Addr) (len5 cap5 : Nat) (more : List Int) (w : World) (ho : r.Ok) (hd : 0 ≤ d ∧ d < 256) (hk : 0 ≤ k ∧ k < 256) (hs : 0 ≤ s ∧ s < 256) (hm : 0 ≤ m ∧ m < 65536) (h5 : InB w a5 len5 cap5 more) (hp60 : r.pan.size ≤ 60) (hl100 : len5 ≤ 100) :
    Calls Try.prog 3 #[r.val, .int .u8 d, .int .u8 k, .int .u8 s, .int .u16 m, .slice a5 len5 cap5] w fun e w' => e = .returned (.bool true) ∧ Below w.heap.size w w' := by
  obtain ⟨d0, d1⟩ := hd
  obtain ⟨k0, k1⟩ := hk
  obtain ⟨s0, s1⟩ := hs
  obtain ⟨m0, m1⟩ := hm
  obtain ⟨r2, hr2⟩ : ∃ r2, seatR d k s m = r2 := ⟨_, rfl⟩
  have HR2 := hid hr2
  have HT2 : Hid (rightB r2 = true) := by unfold Hid; rw [← hr2]; exact seat_right k0 k1 s0 s1
  have HO2 : Hid r2.Ok := by unfold Hid; rw [← hr2]; exact seat_ok
  have HO := hid ho
  have HG5 := hid h5.giv
  have HNIL := hid h5.nil
  have i1 : (r.pan.size : Int) ≤ 60 := by omega
  have i2 : ¬ (60 : Int) < (r.pan.size : Int) := by omega
  have i3 : ¬ (100 : Int) < (len5 : Int) := by omega
  have i4 : decide ((60 : Int) < (r.pan.size : Int)) = false := by simp; omega
  have i5 : decide ((100 : Int) < (len5 : Int)) = false := by simp; omega
  clear ho hr2 h5
  go_enter Try.func3, Try.ntmps3
  go_wp2_with (first | (go_at_call 8; refine (known8 _).mono ?_; rintro e w1 ⟨rfl, l1⟩; have RV1 := hid (RV0.out.below l1); have L1 := hid (sq BL0.out l1); have c3 := RV1.out.recAt.c3; clear l1) | (refine bx29 (r := r) rfl _ rfl rfl ?_; intro b6 w0 hb6 rv0 bl0; have RV0 := hid rv0; have BL0 := hid bl0; clear rv0 bl0 hb6))
  refine wp_region_noPanic ?_
  refine wp_region_held_drew (S := (fun w' => w'.rangeAt b6 0 r.cells)) (by kernel_rfl) (RV1.out.at0) (fun hHeld => ?_)
  refine tk_rec 0 (some 33) r rfl rfl (by kernel_rfl) (by kernel_rfl) (by kernel_rfl) (fun _ _ _ h => h) (by rfl) _ rfl rfl (fun w h => h) hHeld ?_
  simp only [Act.put, List.setIfInBounds_toArray, List.set_cons_zero, List.set_cons_succ]
  (refine tk_yes (v := ?_) 1 (some 34) rfl rfl (by kernel_rfl) (by kernel_rfl) (by kernel_rfl) (fun _ _ _ h => h) (by rfl) ?_ hHeld ?_; rotate_left; focus (intro w hSw; go_simp; try with_reducible rfl))
  simp only [Act.put, List.setIfInBounds_toArray, List.set_cons_zero, List.set_cons_succ]
  (refine tk_yes (v := ?_) 2 (some 35) rfl rfl (by kernel_rfl) (by kernel_rfl) (by kernel_rfl) (fun _ _ _ h => h) (by rfl) ?_ hHeld ?_; rotate_left; focus (intro w hSw; go_simp; try with_reducible rfl))
  simp only [Act.put, List.setIfInBounds_toArray, List.set_cons_zero, List.set_cons_succ]
  (refine tk_yes (v := ?_) 3 (some 36) rfl rfl (by kernel_rfl) (by kernel_rfl) (by kernel_rfl) (fun _ _ _ h => h) (by rfl) ?_ hHeld ?_; rotate_left; focus (intro w hSw; go_simp; try with_reducible rfl))
  simp only [Act.put, List.setIfInBounds_toArray, List.set_cons_zero, List.set_cons_succ]
  (refine tk_yes (v := ?_) 4 (some 37) rfl rfl (by kernel_rfl) (by kernel_rfl) (by kernel_rfl) (fun _ _ _ h => h) (by rfl) ?_ hHeld ?_; rotate_left; focus (intro w hSw; go_simp; try with_reducible rfl))
  simp only [Act.put, List.setIfInBounds_toArray, List.set_cons_zero, List.set_cons_succ]
  (refine tk_yes (v := ?_) 8 (some 41) rfl rfl (by kernel_rfl) (by kernel_rfl) (by kernel_rfl) (fun _ _ _ h => h) (by rfl) ?_ hHeld ?_; rotate_left; focus (intro w hSw; go_simp; try with_reducible rfl))
  simp only [Act.put, List.setIfInBounds_toArray, List.set_cons_zero, List.set_cons_succ]
  refine wpAnyH_ready (rs := [5]) (by kernel_rfl) (by simp) ?_
  refine AllReadyH.cons rfl (fun K hK => ?_) AllReadyH.nil
  go_simp
  go_at_call 9
  refine (rec9 d k s m _ d0 d1 k0 k1 s0 s1 m0 m1).mono ?_
  rintro e w2 ⟨rfl, l2⟩
  rw [HR2.out]
  have b2 := sq (Below.refl _ w1).drew l2
  have L2 := hid (sq L1.out b2)
  have RV2 := hid (RV1.out.below b2)
  clear l2 b2
  go_wp2_with fail
  refine hK.out _ _ (RV2.out.at0) (fun hHeld => ?_)
  clear hK K
  try simp only [Act.put, List.setIfInBounds_toArray, List.set_cons_zero, List.set_cons_succ]
  refine wpAnyH_ready (rs := [6]) (by kernel_rfl) (by simp) ?_
  refine AllReadyH.cons (o := { dst := some 39, op := _, type := _, pos := _, after := _, guard := none }) rfl (fun K hK => ?_) AllReadyH.nil
  refine step_of rfl (bs33 _ _ rfl r r2 rfl rfl ?_)
  have L3 := hid (sq L2.out (bel1 w2 (.cells (r.cells ++ r2.cells).toArray 29)))
  have RV3 := hid (RV2.out.below (bel1 w2 (.cells (r.cells ++ r2.cells).toArray 29)))
  have Q3 := hid (two_at (by have := range_new w2 (r.cells ++ r2.cells).toArray 29; simpa using this : (w2.alloc (.cells (r.cells ++ r2.cells).toArray 29)).rangeAt w2.heap.size 0 (r.cells ++ r2.cells)))
  have hq3 : w2.heap.size < (w2.alloc (.cells (r.cells ++ r2.cells).toArray 29)).heap.size := by simp
  have M3 := hid (row_mono (sq L2.out (bel1 w2 (.cells (r.cells ++ r2.cells).toArray 29))) HG5.out.row)
  generalize w2.heap.size = q at *
  generalize w2.alloc (.cells (r.cells ++ r2.cells).toArray 29) = w3 at *
  refine hK.out _ _ (RV3.out.at0) (fun hHeld => ?_)
  clear hK K
  try simp only [Act.put, List.setIfInBounds_toArray, List.set_cons_zero, List.set_cons_succ]
  (refine tk_yes (v := ?_) 7 (some 40) rfl rfl (by kernel_rfl) (by kernel_rfl) (by kernel_rfl) (fun _ _ _ h => h) (by rfl) ?_ hHeld ?_; rotate_left; focus (intro w hSw; go_simp; try with_reducible rfl))
  simp only [Act.put, List.setIfInBounds_toArray, List.set_cons_zero, List.set_cons_succ]
  refine wpAnyH_done (by kernel_rfl) ?_ _
  refine NoPanic.normal ?_
  go_wp2
  go_loopw [41] (fun i wr => ∃ (j : Nat), j ≤ 2 ∧ i = .int .i64 (j : Int) ∧ Below w3.heap.size w3 wr) (fun i _ => 2 - (intOf i).toNat)
  case atStart => exact ⟨0, by omega, rfl, Below.refl _ _⟩
  case round =>
    obtain ⟨j, hj, rfl, hB⟩ := hrel
    have LB := hid hB
    clear hB
    by_cases hlt : j < 2
    · have h2 : j = 0 ∨ j = 1 := by omega
      rcases h2 with rfl | rfl
      · cases hrr : rightB r with
        | true =>
          have HTr := hid hrr
          clear hrr
          obtain ⟨n, hn⟩ : ∃ n, 42 + r.pan.size = n := ⟨_, rfl⟩
          have HN := hid hn
          have hp19 := (rt_of HTr.out).size
          have hn61 : n ≤ 61 := by omega
          have HLN : Hid ((putL r).length = n) := by unfold Hid; rw [putL_len]; exact hn
          have HX : Hid (errX (putL r ++ more) = 0 ∧ recX (putL r ++ more) = r ∧ lenX (putL r ++ more) = (n : Int)) := by
            have := back HTr.out HO.out more
            rw [HLN.out] at this
            exact this
          obtain ⟨tt, htt⟩ : ∃ tt, strOfNums (putL r) = tt := ⟨_, rfl⟩
          have HPS : Hid (r.pan.size ≤ 9223372036854775807) := hid (by omega)
          have HBY : Hid (Byt (putL r)) := hid (putL_byt hp19)
          have qg := fun u v w => (eqg29 r r u v w).2
          have qb := fun w => (bin29 r w).2
          clear hn hp19
          have HTT := hid htt
          have hb1 : (tt == tt) = true := (MapKept.bytes_beq tt tt).mpr rfl
          have hb2 : (tt != tt) = false := by simp [bne, hb1]
          clear htt
          rw [show ((0 : Nat) : Int) = 0 from rfl]
          go_wp2_with (first | (go_at_call 11; have hv6 := V6.out.lt; refine (putR_yes r _ HTr.out HO.out n HN.out).mono ?_; rintro e w7 ⟨ao7, cap7, rfl, d7⟩; have R7 := hid d7.1.at; have R67 := hid (row_mono d7.2 R6.out); have V7 := hid (V6.out.below d7.2); have L7 := hid (sq L6.out d7.2); clear d7 hv6) | (go_at_call 10; refine (put_yes r _ HTr.out HO.out n HN.out).mono ?_; rintro e w6 ⟨ao6, cap6, rfl, d6⟩; have R6 := hid d6.1.at; have N6 := hid d6.1.caps.1; have V6 := hid (V5.out.below d6.2); have L6 := hid (sq L5.out d6.2); clear d6) | refine ld29 V6.out rfl _ rfl rfl ?_ | refine ld29 V5.out rfl _ rfl rfl ?_ | (refine st29 (r := r) V4.out L4.out hb4 rfl _ _ rfl rfl rfl ?_; intro w5 v5 l5; have V5 := hid v5; have L5 := hid (sq LB.out l5); clear v5 l5) | (refine al29 rfl rfl ?_; intro b14 w4 hb4 v4 l4; have V4 := hid v4; have L4 := hid l4; clear v4 l4) | refine ld29o (r := r) (range_below Q3.out.1 hq3 LB.out) rfl _ rfl rfl ?_)
          refine wp_region_noPanic ?_
          refine wp_region_held_drew (S := (fun w' => w'.rangeAt b14 0 r.cells ∧ RowAt w' ao6 (putL r) ∧ RowAt w' ao7 (putL r))) (by kernel_rfl) (⟨V7.out.at0, R67.out, R7.out⟩) (fun hHeld => ?_)
          (refine tk_yes (v := ?_) 0 (some 55) rfl rfl (by kernel_rfl) (by kernel_rfl) (by kernel_rfl) (fun _ _ _ h => h) (by rfl) ?_ hHeld ?_; rotate_left; focus (intro w hSw; go_simp; try with_reducible rfl))
          simp only [Act.put, List.setIfInBounds_toArray, List.set_cons_zero, List.set_cons_succ]
          (refine tk_yes (v := ?_) 1 (some 56) rfl rfl (by kernel_rfl) (by kernel_rfl) (by kernel_rfl) (fun _ _ _ h => h) (by rfl) ?_ hHeld ?_; rotate_left; focus (intro w hSw; go_simp; try with_reducible rfl))
          simp only [Act.put, List.setIfInBounds_toArray, List.set_cons_zero, List.set_cons_succ]
          (refine tk_yes (v := ?_) 2 (some 57) rfl rfl (by kernel_rfl) (by kernel_rfl) (by kernel_rfl) (fun _ _ _ h => h) (by rfl) ?_ hHeld ?_; rotate_left; focus (intro w hSw; go_simp; try with_reducible rfl))
          simp only [Act.put, List.setIfInBounds_toArray, List.set_cons_zero, List.set_cons_succ]
          (refine tk_yes (v := ?_) 3 (some 58) rfl rfl (by kernel_rfl) (by kernel_rfl) (by kernel_rfl) (fun _ _ _ h => h) (by rfl) ?_ hHeld ?_; rotate_left; focus (intro w hSw; go_simp; try with_reducible rfl))
          simp only [Act.put, List.setIfInBounds_toArray, List.set_cons_zero, List.set_cons_succ]
          (refine tk_yes (v := ?_) 4 (some 59) rfl rfl (by kernel_rfl) (by kernel_rfl) (by kernel_rfl) (fun _ _ _ h => h) (by rfl) ?_ hHeld ?_; rotate_left; focus (intro w hSw; go_simp; try with_reducible rfl))
          simp only [Act.put, List.setIfInBounds_toArray, List.set_cons_zero, List.set_cons_succ]
          (refine tk_yes (v := .string tt) 5 (some 60) rfl rfl (by kernel_rfl) (by kernel_rfl) (by kernel_rfl) (fun _ _ _ h => h) (by rfl) ?_ hHeld ?_; focus (intro w hSw; have h := run_str w ao6 (putL r) n cap6 HLN.out hSw.2.1; rw [HTT.out] at h; go_simp))
          simp only [Act.put, List.setIfInBounds_toArray, List.set_cons_zero, List.set_cons_succ]
          (refine tk_yes (v := ?_) 6 (some 61) rfl rfl (by kernel_rfl) (by kernel_rfl) (by kernel_rfl) (fun _ _ _ h => h) (by rfl) ?_ hHeld ?_; rotate_left; focus (intro w hSw; go_simp; try with_reducible rfl))
          simp only [Act.put, List.setIfInBounds_toArray, List.set_cons_zero, List.set_cons_succ]
          (refine tk_yes (v := .string tt) 7 (some 62) rfl rfl (by kernel_rfl) (by kernel_rfl) (by kernel_rfl) (fun _ _ _ h => h) (by rfl) ?_ hHeld ?_; focus (intro w hSw; have h := run_str w ao7 (putL r) n cap7 HLN.out hSw.2.2; rw [HTT.out] at h; go_simp))
          simp only [Act.put, List.setIfInBounds_toArray, List.set_cons_zero, List.set_cons_succ]
          (refine tk_yes (v := ?_) 8 (some 63) rfl rfl (by kernel_rfl) (by kernel_rfl) (by kernel_rfl) (fun _ _ _ h => h) (by rfl) ?_ hHeld ?_; rotate_left; focus (intro w hSw; go_simp; try with_reducible rfl))
          simp only [Act.put, List.setIfInBounds_toArray, List.set_cons_zero, List.set_cons_succ]
          (refine tk_yes (v := ?_) 9 (some 64) rfl rfl (by kernel_rfl) (by kernel_rfl) (by kernel_rfl) (fun _ _ _ h => h) (by rfl) ?_ hHeld ?_; rotate_left; focus (intro w hSw; go_simp; try with_reducible rfl))
          simp only [Act.put, List.setIfInBounds_toArray, List.set_cons_zero, List.set_cons_succ]
          (refine tk_yes (v := ?_) 10 (some 65) rfl rfl (by kernel_rfl) (by kernel_rfl) (by kernel_rfl) (fun _ _ _ h => h) (by rfl) ?_ hHeld ?_; rotate_left; focus (intro w hSw; go_simp; try with_reducible rfl))
          simp only [Act.put, List.setIfInBounds_toArray, List.set_cons_zero, List.set_cons_succ]
          refine tk_rec 11 (some 66) r rfl rfl (by kernel_rfl) (by kernel_rfl) (by kernel_rfl) (fun _ _ _ h => h) (by rfl) _ rfl rfl (fun w h => h.1) hHeld ?_
          simp only [Act.put, List.setIfInBounds_toArray, List.set_cons_zero, List.set_cons_succ]
          refine tk_rec 13 (some 68) r rfl rfl (by kernel_rfl) (by kernel_rfl) (by kernel_rfl) (fun _ _ _ h => h) (by rfl) _ rfl rfl (fun w h => h.1) hHeld ?_
          simp only [Act.put, List.setIfInBounds_toArray, List.set_cons_zero, List.set_cons_succ]
          refine wpAnyH_ready (rs := [12]) (by kernel_rfl) (by simp) ?_
          refine AllReadyH.cons rfl (fun K hK => ?_) AllReadyH.nil
          go_simp
          go_at_call 12
          refine (right_any r _ HPS.out).mono ?_
          rintro e w8 ⟨rfl, l8⟩
          rw [HTr.out]
          have B8 := hid (sq (Below.refl _ w7).drew l8)
          have V8 := hid (V7.out.below B8.out)
          clear l8
          go_wp2_with fail
          refine hK.out _ _ (⟨V8.out.at0, row_mono B8.out R67.out, row_mono B8.out R7.out⟩) (fun hHeld => ?_)
          clear hK K
          try simp only [Act.put, List.setIfInBounds_toArray, List.set_cons_zero, List.set_cons_succ]
          refine wpAnyH_ready (rs := [14]) (by kernel_rfl) (by simp) ?_
          refine AllReadyH.cons rfl (fun K hK => ?_) AllReadyH.nil
          go_simp
          go_at_call 13
          refine (rightR_any r _ HPS.out).mono ?_
          rintro e w9 ⟨rfl, l9⟩
          rw [HTr.out]
          have B9 := hid (sq B8.out l9)
          have V9 := hid (V7.out.below B9.out)
          have L9 := hid (sq L7.out B9.out)
          clear l9
          go_wp2_with fail
          refine hK.out _ _ (⟨V9.out.at0, row_mono B9.out R67.out, row_mono B9.out R7.out⟩) (fun hHeld => ?_)
          clear hK K
          try simp only [Act.put, List.setIfInBounds_toArray, List.set_cons_zero, List.set_cons_succ]
          (refine tk_yes (v := ?_) 15 (some 70) rfl rfl (by kernel_rfl) (by kernel_rfl) (by kernel_rfl) (fun _ _ _ h => h) (by rfl) ?_ hHeld ?_; rotate_left; focus (intro w hSw; go_simp; try with_reducible rfl))
          simp only [Act.put, List.setIfInBounds_toArray, List.set_cons_zero, List.set_cons_succ]
          (refine tk_yes (v := ?_) 16 (some 71) rfl rfl (by kernel_rfl) (by kernel_rfl) (by kernel_rfl) (fun _ _ _ h => h) (by rfl) ?_ hHeld ?_; rotate_left; focus (intro w hSw; go_simp; try with_reducible rfl))
          simp only [Act.put, List.setIfInBounds_toArray, List.set_cons_zero, List.set_cons_succ]
          refine wpAnyH_done (by kernel_rfl) ?_ _
          refine NoPanic.normal ?_
          have R9 := hid (row_mono B9.out R67.out)
          go_wp2_with (first | (at_builtin; refine app_row D10.out.1 (row_mono (sq L9.out D10.out.2) M3.out) HG5.out.leq HNIL.out D10.out.2.size (by omega) rfl _ _ rfl rfl rfl ?_; intro ao11 cap11 w11 r11 t11; have D11 := hid (D10.out.next r11 t11); clear r11 t11) | (at_builtin; refine app_row (Row.nil w9.heap.size w9) R9.out HLN.out N6.out (Nat.le_refl _) (by omega) rfl _ _ rfl rfl rfl ?_; intro ao10 cap10 w10 r10 t10; have D10 := hid ((Mk.nil w9).next r10 t10); rw [List.nil_append, Nat.zero_add] at D10; rw [Nat.zero_add]; clear r10 t10) | (go_at_call 14; refine (read_any (D11.out.given (byt_app HBY.out HG5.out.byt))).mono ?_; rintro e w12 ⟨rfl, l12⟩; rw [HX.out.1, HX.out.2.1, HX.out.2.2]; have B12 := sq D11.out.2 l12; have V12 := hid (V9.out.below B12); have L12 := hid (sq L9.out B12); clear l12 B12) | (refine al29 rfl rfl ?_; intro b19 w13 hb13 v13 l13; have G := V12; have V13 := hid v13; have L13 := hid l13; clear v13 l13 G) | (refine st29 (r := r) V13.out L13.out hb13 rfl _ _ rfl rfl rfl ?_; intro w14 v14 l14; have X14 := hid v14; have V14 := hid (V12.out.below l14); have L14 := hid (sq L12.out l14); clear v14 l14) | refine ldw29 X14.out _ rfl (by kernel_rfl) rfl ?_ | refine ldw29 V14.out _ rfl (by kernel_rfl) rfl ?_)
          go_roundw
          case rel => exact ⟨1, by omega, by go_num, L14.out⟩
          case measure => simp [intOf]
        | false =>
          have HTr := hid hrr
          clear hrr
          obtain ⟨tt, htt⟩ : ∃ tt, strOfNums [] = tt := ⟨_, rfl⟩
          have HPS : Hid (r.pan.size ≤ 9223372036854775807) := hid (by omega)
          have HTT := hid htt
          have hb1 : (tt == tt) = true := (MapKept.bytes_beq tt tt).mpr rfl
          have hb2 : (tt != tt) = false := by simp [bne, hb1]
          clear htt
          rw [show ((0 : Nat) : Int) = 0 from rfl]
          go_wp2_with (first | (go_at_call 11; refine (putR_no r _ HPS.out HTr.out).mono ?_; rintro e w7 ⟨rfl, l7⟩; have V7 := hid (V6.out.below l7); have L7 := hid (sq L6.out l7); clear l7) | (go_at_call 10; refine (put_no r _ HPS.out HTr.out).mono ?_; rintro e w6 ⟨rfl, l6⟩; have V6 := hid (V5.out.below l6); have L6 := hid (sq L5.out l6); clear l6) | refine ld29 V6.out rfl _ rfl rfl ?_ | refine ld29 V5.out rfl _ rfl rfl ?_ | (refine st29 (r := r) V4.out L4.out hb4 rfl _ _ rfl rfl rfl ?_; intro w5 v5 l5; have V5 := hid v5; have L5 := hid (sq LB.out l5); clear v5 l5) | (refine al29 rfl rfl ?_; intro b14 w4 hb4 v4 l4; have V4 := hid v4; have L4 := hid l4; clear v4 l4) | refine ld29o (r := r) (range_below Q3.out.1 hq3 LB.out) rfl _ rfl rfl ?_)
          refine wp_region_noPanic ?_
          refine wp_region_held_drew (S := (fun w' => w'.rangeAt b14 0 r.cells)) (by kernel_rfl) (V7.out.at0) (fun hHeld => ?_)
          (refine tk_yes (v := ?_) 0 (some 55) rfl rfl (by kernel_rfl) (by kernel_rfl) (by kernel_rfl) (fun _ _ _ h => h) (by rfl) ?_ hHeld ?_; rotate_left; focus (intro w hSw; go_simp; try with_reducible rfl))
          simp only [Act.put, List.setIfInBounds_toArray, List.set_cons_zero, List.set_cons_succ]
          (refine tk_yes (v := ?_) 1 (some 56) rfl rfl (by kernel_rfl) (by kernel_rfl) (by kernel_rfl) (fun _ _ _ h => h) (by rfl) ?_ hHeld ?_; rotate_left; focus (intro w hSw; go_simp; try with_reducible rfl))
          simp only [Act.put, List.setIfInBounds_toArray, List.set_cons_zero, List.set_cons_succ]
          (refine tk_yes (v := ?_) 2 (some 57) rfl rfl (by kernel_rfl) (by kernel_rfl) (by kernel_rfl) (fun _ _ _ h => h) (by rfl) ?_ hHeld ?_; rotate_left; focus (intro w hSw; go_simp; try with_reducible rfl))
          simp only [Act.put, List.setIfInBounds_toArray, List.set_cons_zero, List.set_cons_succ]
          (refine tk_yes (v := ?_) 3 (some 58) rfl rfl (by kernel_rfl) (by kernel_rfl) (by kernel_rfl) (fun _ _ _ h => h) (by rfl) ?_ hHeld ?_; rotate_left; focus (intro w hSw; go_simp; try with_reducible rfl))
          simp only [Act.put, List.setIfInBounds_toArray, List.set_cons_zero, List.set_cons_succ]
          (refine tk_yes (v := ?_) 4 (some 59) rfl rfl (by kernel_rfl) (by kernel_rfl) (by kernel_rfl) (fun _ _ _ h => h) (by rfl) ?_ hHeld ?_; rotate_left; focus (intro w hSw; go_simp; try with_reducible rfl))
          simp only [Act.put, List.setIfInBounds_toArray, List.set_cons_zero, List.set_cons_succ]
          (refine tk_yes (v := .string tt) 5 (some 60) rfl rfl (by kernel_rfl) (by kernel_rfl) (by kernel_rfl) (fun _ _ _ h => h) (by rfl) ?_ hHeld ?_; focus (intro w hSw; have h := run_str w none [] 0 0 rfl (.inl rfl); rw [HTT.out] at h; go_simp))
          simp only [Act.put, List.setIfInBounds_toArray, List.set_cons_zero, List.set_cons_succ]
          (refine tk_yes (v := ?_) 6 (some 61) rfl rfl (by kernel_rfl) (by kernel_rfl) (by kernel_rfl) (fun _ _ _ h => h) (by rfl) ?_ hHeld ?_; rotate_left; focus (intro w hSw; go_simp; try with_reducible rfl))
          simp only [Act.put, List.setIfInBounds_toArray, List.set_cons_zero, List.set_cons_succ]
          (refine tk_yes (v := .string tt) 7 (some 62) rfl rfl (by kernel_rfl) (by kernel_rfl) (by kernel_rfl) (fun _ _ _ h => h) (by rfl) ?_ hHeld ?_; focus (intro w hSw; have h := run_str w none [] 0 0 rfl (.inl rfl); rw [HTT.out] at h; go_simp))
          simp only [Act.put, List.setIfInBounds_toArray, List.set_cons_zero, List.set_cons_succ]
          (refine tk_yes (v := ?_) 8 (some 63) rfl rfl (by kernel_rfl) (by kernel_rfl) (by kernel_rfl) (fun _ _ _ h => h) (by rfl) ?_ hHeld ?_; rotate_left; focus (intro w hSw; go_simp; try with_reducible rfl))
          simp only [Act.put, List.setIfInBounds_toArray, List.set_cons_zero, List.set_cons_succ]
          (refine tk_yes (v := ?_) 9 (some 64) rfl rfl (by kernel_rfl) (by kernel_rfl) (by kernel_rfl) (fun _ _ _ h => h) (by rfl) ?_ hHeld ?_; rotate_left; focus (intro w hSw; go_simp; try with_reducible rfl))
          simp only [Act.put, List.setIfInBounds_toArray, List.set_cons_zero, List.set_cons_succ]
          (refine tk_yes (v := ?_) 10 (some 65) rfl rfl (by kernel_rfl) (by kernel_rfl) (by kernel_rfl) (fun _ _ _ h => h) (by rfl) ?_ hHeld ?_; rotate_left; focus (intro w hSw; go_simp; try with_reducible rfl))
          simp only [Act.put, List.setIfInBounds_toArray, List.set_cons_zero, List.set_cons_succ]
          refine tk_rec 11 (some 66) r rfl rfl (by kernel_rfl) (by kernel_rfl) (by kernel_rfl) (fun _ _ _ h => h) (by rfl) _ rfl rfl (fun w h => h) hHeld ?_
          simp only [Act.put, List.setIfInBounds_toArray, List.set_cons_zero, List.set_cons_succ]
          refine tk_rec 13 (some 68) r rfl rfl (by kernel_rfl) (by kernel_rfl) (by kernel_rfl) (fun _ _ _ h => h) (by rfl) _ rfl rfl (fun w h => h) hHeld ?_
          simp only [Act.put, List.setIfInBounds_toArray, List.set_cons_zero, List.set_cons_succ]
          refine wpAnyH_ready (rs := [12]) (by kernel_rfl) (by simp) ?_
          refine AllReadyH.cons rfl (fun K hK => ?_) AllReadyH.nil
          go_simp
          go_at_call 12
          refine (right_any r _ HPS.out).mono ?_
          rintro e w8 ⟨rfl, l8⟩
          rw [HTr.out]
          have B8 := hid (sq (Below.refl _ w7).drew l8)
          have V8 := hid (V7.out.below B8.out)
          clear l8
          go_wp2_with fail
          refine hK.out _ _ (V8.out.at0) (fun hHeld => ?_)
          clear hK K
          try simp only [Act.put, List.setIfInBounds_toArray, List.set_cons_zero, List.set_cons_succ]
          refine wpAnyH_ready (rs := [14]) (by kernel_rfl) (by simp) ?_
          refine AllReadyH.cons rfl (fun K hK => ?_) AllReadyH.nil
          go_simp
          go_at_call 13
          refine (rightR_any r _ HPS.out).mono ?_
          rintro e w9 ⟨rfl, l9⟩
          rw [HTr.out]
          have B9 := hid (sq B8.out l9)
          have V9 := hid (V7.out.below B9.out)
          have L9 := hid (sq L7.out B9.out)
          clear l9
          go_wp2_with fail
          refine hK.out _ _ (V9.out.at0) (fun hHeld => ?_)
          clear hK K
          try simp only [Act.put, List.setIfInBounds_toArray, List.set_cons_zero, List.set_cons_succ]
          (refine tk_yes (v := ?_) 15 (some 70) rfl rfl (by kernel_rfl) (by kernel_rfl) (by kernel_rfl) (fun _ _ _ h => h) (by rfl) ?_ hHeld ?_; rotate_left; focus (intro w hSw; go_simp; try with_reducible rfl))
          simp only [Act.put, List.setIfInBounds_toArray, List.set_cons_zero, List.set_cons_succ]
          (refine tk_yes (v := ?_) 16 (some 71) rfl rfl (by kernel_rfl) (by kernel_rfl) (by kernel_rfl) (fun _ _ _ h => h) (by rfl) ?_ hHeld ?_; rotate_left; focus (intro w hSw; go_simp; try with_reducible rfl))
          simp only [Act.put, List.setIfInBounds_toArray, List.set_cons_zero, List.set_cons_succ]
          refine wpAnyH_done (by kernel_rfl) ?_ _
          refine NoPanic.normal ?_
          go_wp2
          go_roundw
          case rel => exact ⟨1, by omega, by go_num, L9.out⟩
          case measure => simp [intOf]
      · have hq3' := hq3
        obtain ⟨n, hn⟩ : ∃ n, 42 + r2.pan.size = n := ⟨_, rfl⟩
        have HN := hid hn
        have hp19 := (rt_of HT2.out).size
        have hn61 : n ≤ 61 := by omega
        have HLN : Hid ((putL r2).length = n) := by unfold Hid; rw [putL_len]; exact hn
        have HX : Hid (errX (putL r2 ++ more) = 0 ∧ recX (putL r2 ++ more) = r2 ∧ lenX (putL r2 ++ more) = (n : Int)) := by
          have := back HT2.out HO2.out more
          rw [HLN.out] at this
          exact this
        obtain ⟨tt, htt⟩ : ∃ tt, strOfNums (putL r2) = tt := ⟨_, rfl⟩
        have HPS : Hid (r2.pan.size ≤ 9223372036854775807) := hid (by omega)
        have HBY : Hid (Byt (putL r2)) := hid (putL_byt hp19)
        have qg := fun u v w => (eqg29 r2 r2 u v w).2
        have qb := fun w => (bin29 r2 w).2
        clear hn hp19
        have HTT := hid htt
        have hb1 : (tt == tt) = true := (MapKept.bytes_beq tt tt).mpr rfl
        have hb2 : (tt != tt) = false := by simp [bne, hb1]
        clear htt
        rw [show ((1 : Nat) : Int) = 1 from rfl]
        go_wp2_with (first | (go_at_call 11; have hv6 := V6.out.lt; refine (putR_yes r2 _ HT2.out HO2.out n HN.out).mono ?_; rintro e w7 ⟨ao7, cap7, rfl, d7⟩; have R7 := hid d7.1.at; have R67 := hid (row_mono d7.2 R6.out); have V7 := hid (V6.out.below d7.2); have L7 := hid (sq L6.out d7.2); clear d7 hv6) | (go_at_call 10; refine (put_yes r2 _ HT2.out HO2.out n HN.out).mono ?_; rintro e w6 ⟨ao6, cap6, rfl, d6⟩; have R6 := hid d6.1.at; have N6 := hid d6.1.caps.1; have V6 := hid (V5.out.below d6.2); have L6 := hid (sq L5.out d6.2); clear d6) | refine ld29 V6.out rfl _ rfl rfl ?_ | refine ld29 V5.out rfl _ rfl rfl ?_ | (refine st29 (r := r2) V4.out L4.out hb4 rfl _ _ rfl rfl rfl ?_; intro w5 v5 l5; have V5 := hid v5; have L5 := hid (sq LB.out l5); clear v5 l5) | (refine al29 rfl rfl ?_; intro b14 w4 hb4 v4 l4; have V4 := hid v4; have L4 := hid l4; clear v4 l4) | refine ld29o (r := r2) (range_below Q3.out.2 hq3 LB.out) rfl _ rfl rfl ?_)
        refine wp_region_noPanic ?_
        refine wp_region_held_drew (S := (fun w' => w'.rangeAt b14 0 r2.cells ∧ RowAt w' ao6 (putL r2) ∧ RowAt w' ao7 (putL r2))) (by kernel_rfl) (⟨V7.out.at0, R67.out, R7.out⟩) (fun hHeld => ?_)
        (refine tk_yes (v := ?_) 0 (some 55) rfl rfl (by kernel_rfl) (by kernel_rfl) (by kernel_rfl) (fun _ _ _ h => h) (by rfl) ?_ hHeld ?_; rotate_left; focus (intro w hSw; go_simp; try with_reducible rfl))
        simp only [Act.put, List.setIfInBounds_toArray, List.set_cons_zero, List.set_cons_succ]
        (refine tk_yes (v := ?_) 1 (some 56) rfl rfl (by kernel_rfl) (by kernel_rfl) (by kernel_rfl) (fun _ _ _ h => h) (by rfl) ?_ hHeld ?_; rotate_left; focus (intro w hSw; go_simp; try with_reducible rfl))
        simp only [Act.put, List.setIfInBounds_toArray, List.set_cons_zero, List.set_cons_succ]
        (refine tk_yes (v := ?_) 2 (some 57) rfl rfl (by kernel_rfl) (by kernel_rfl) (by kernel_rfl) (fun _ _ _ h => h) (by rfl) ?_ hHeld ?_; rotate_left; focus (intro w hSw; go_simp; try with_reducible rfl))
        simp only [Act.put, List.setIfInBounds_toArray, List.set_cons_zero, List.set_cons_succ]
        (refine tk_yes (v := ?_) 3 (some 58) rfl rfl (by kernel_rfl) (by kernel_rfl) (by kernel_rfl) (fun _ _ _ h => h) (by rfl) ?_ hHeld ?_; rotate_left; focus (intro w hSw; go_simp; try with_reducible rfl))
        simp only [Act.put, List.setIfInBounds_toArray, List.set_cons_zero, List.set_cons_succ]
        (refine tk_yes (v := ?_) 4 (some 59) rfl rfl (by kernel_rfl) (by kernel_rfl) (by kernel_rfl) (fun _ _ _ h => h) (by rfl) ?_ hHeld ?_; rotate_left; focus (intro w hSw; go_simp; try with_reducible rfl))
        simp only [Act.put, List.setIfInBounds_toArray, List.set_cons_zero, List.set_cons_succ]
        (refine tk_yes (v := .string tt) 5 (some 60) rfl rfl (by kernel_rfl) (by kernel_rfl) (by kernel_rfl) (fun _ _ _ h => h) (by rfl) ?_ hHeld ?_; focus (intro w hSw; have h := run_str w ao6 (putL r2) n cap6 HLN.out hSw.2.1; rw [HTT.out] at h; go_simp))
        simp only [Act.put, List.setIfInBounds_toArray, List.set_cons_zero, List.set_cons_succ]
        (refine tk_yes (v := ?_) 6 (some 61) rfl rfl (by kernel_rfl) (by kernel_rfl) (by kernel_rfl) (fun _ _ _ h => h) (by rfl) ?_ hHeld ?_; rotate_left; focus (intro w hSw; go_simp; try with_reducible rfl))
        simp only [Act.put, List.setIfInBounds_toArray, List.set_cons_zero, List.set_cons_succ]
        (refine tk_yes (v := .string tt) 7 (some 62) rfl rfl (by kernel_rfl) (by kernel_rfl) (by kernel_rfl) (fun _ _ _ h => h) (by rfl) ?_ hHeld ?_; focus (intro w hSw; have h := run_str w ao7 (putL r2) n cap7 HLN.out hSw.2.2; rw [HTT.out] at h; go_simp))
        simp only [Act.put, List.setIfInBounds_toArray, List.set_cons_zero, List.set_cons_succ]
        (refine tk_yes (v := ?_) 8 (some 63) rfl rfl (by kernel_rfl) (by kernel_rfl) (by kernel_rfl) (fun _ _ _ h => h) (by rfl) ?_ hHeld ?_; rotate_left; focus (intro w hSw; go_simp; try with_reducible rfl))
        simp only [Act.put, List.setIfInBounds_toArray, List.set_cons_zero, List.set_cons_succ]
        (refine tk_yes (v := ?_) 9 (some 64) rfl rfl (by kernel_rfl) (by kernel_rfl) (by kernel_rfl) (fun _ _ _ h => h) (by rfl) ?_ hHeld ?_; rotate_left; focus (intro w hSw; go_simp; try with_reducible rfl))
        simp only [Act.put, List.setIfInBounds_toArray, List.set_cons_zero, List.set_cons_succ]
        (refine tk_yes (v := ?_) 10 (some 65) rfl rfl (by kernel_rfl) (by kernel_rfl) (by kernel_rfl) (fun _ _ _ h => h) (by rfl) ?_ hHeld ?_; rotate_left; focus (intro w hSw; go_simp; try with_reducible rfl))
        simp only [Act.put, List.setIfInBounds_toArray, List.set_cons_zero, List.set_cons_succ]
        refine tk_rec 11 (some 66) r2 rfl rfl (by kernel_rfl) (by kernel_rfl) (by kernel_rfl) (fun _ _ _ h => h) (by rfl) _ rfl rfl (fun w h => h.1) hHeld ?_
        simp only [Act.put, List.setIfInBounds_toArray, List.set_cons_zero, List.set_cons_succ]
        refine tk_rec 13 (some 68) r2 rfl rfl (by kernel_rfl) (by kernel_rfl) (by kernel_rfl) (fun _ _ _ h => h) (by rfl) _ rfl rfl (fun w h => h.1) hHeld ?_
        simp only [Act.put, List.setIfInBounds_toArray, List.set_cons_zero, List.set_cons_succ]
        refine wpAnyH_ready (rs := [12]) (by kernel_rfl) (by simp) ?_
        refine AllReadyH.cons rfl (fun K hK => ?_) AllReadyH.nil
        go_simp
        go_at_call 12
        refine (right_any r2 _ HPS.out).mono ?_
        rintro e w8 ⟨rfl, l8⟩
        rw [HT2.out]
        have B8 := hid (sq (Below.refl _ w7).drew l8)
        have V8 := hid (V7.out.below B8.out)
        clear l8
        go_wp2_with fail
        refine hK.out _ _ (⟨V8.out.at0, row_mono B8.out R67.out, row_mono B8.out R7.out⟩) (fun hHeld => ?_)
        clear hK K
        try simp only [Act.put, List.setIfInBounds_toArray, List.set_cons_zero, List.set_cons_succ]
        refine wpAnyH_ready (rs := [14]) (by kernel_rfl) (by simp) ?_
        refine AllReadyH.cons rfl (fun K hK => ?_) AllReadyH.nil
        go_simp
        go_at_call 13
        refine (rightR_any r2 _ HPS.out).mono ?_
        rintro e w9 ⟨rfl, l9⟩
        rw [HT2.out]
        have B9 := hid (sq B8.out l9)
        have V9 := hid (V7.out.below B9.out)
        have L9 := hid (sq L7.out B9.out)
        clear l9
        go_wp2_with fail
        refine hK.out _ _ (⟨V9.out.at0, row_mono B9.out R67.out, row_mono B9.out R7.out⟩) (fun hHeld => ?_)
        clear hK K
        try simp only [Act.put, List.setIfInBounds_toArray, List.set_cons_zero, List.set_cons_succ]
        (refine tk_yes (v := ?_) 15 (some 70) rfl rfl (by kernel_rfl) (by kernel_rfl) (by kernel_rfl) (fun _ _ _ h => h) (by rfl) ?_ hHeld ?_; rotate_left; focus (intro w hSw; go_simp; try with_reducible rfl))
        simp only [Act.put, List.setIfInBounds_toArray, List.set_cons_zero, List.set_cons_succ]
        (refine tk_yes (v := ?_) 16 (some 71) rfl rfl (by kernel_rfl) (by kernel_rfl) (by kernel_rfl) (fun _ _ _ h => h) (by rfl) ?_ hHeld ?_; rotate_left; focus (intro w hSw; go_simp; try with_reducible rfl))
        simp only [Act.put, List.setIfInBounds_toArray, List.set_cons_zero, List.set_cons_succ]
        refine wpAnyH_done (by kernel_rfl) ?_ _
        refine NoPanic.normal ?_
        have R9 := hid (row_mono B9.out R67.out)
        go_wp2_with (first | (at_builtin; refine app_row D10.out.1 (row_mono (sq L9.out D10.out.2) M3.out) HG5.out.leq HNIL.out D10.out.2.size (by omega) rfl _ _ rfl rfl rfl ?_; intro ao11 cap11 w11 r11 t11; have D11 := hid (D10.out.next r11 t11); clear r11 t11) | (at_builtin; refine app_row (Row.nil w9.heap.size w9) R9.out HLN.out N6.out (Nat.le_refl _) (by omega) rfl _ _ rfl rfl rfl ?_; intro ao10 cap10 w10 r10 t10; have D10 := hid ((Mk.nil w9).next r10 t10); rw [List.nil_append, Nat.zero_add] at D10; rw [Nat.zero_add]; clear r10 t10) | (go_at_call 14; refine (read_any (D11.out.given (byt_app HBY.out HG5.out.byt))).mono ?_; rintro e w12 ⟨rfl, l12⟩; rw [HX.out.1, HX.out.2.1, HX.out.2.2]; have B12 := sq D11.out.2 l12; have V12 := hid (V9.out.below B12); have L12 := hid (sq L9.out B12); clear l12 B12) | (refine al29 rfl rfl ?_; intro b19 w13 hb13 v13 l13; have G := V12; have V13 := hid v13; have L13 := hid l13; clear v13 l13 G) | (refine st29 (r := r2) V13.out L13.out hb13 rfl _ _ rfl rfl rfl ?_; intro w14 v14 l14; have X14 := hid v14; have V14 := hid (V12.out.below l14); have L14 := hid (sq L12.out l14); clear v14 l14) | refine ldw29 X14.out _ rfl (by kernel_rfl) rfl ?_ | refine ldw29 V14.out _ rfl (by kernel_rfl) rfl ?_)
        go_roundw
        case rel => exact ⟨2, by omega, by go_num, L14.out⟩
        case measure => simp [intOf]
    · have ej : j = 2 := by omega
      subst ej
      go_wp2_with (first | (go_at_call 16; refine (crc_gv (HG5.out.below LW.out)).mono ?_; rintro e w' ⟨rfl, rfl⟩) | (go_at_call 15; have LW := hid (sq L3.out LB.out); refine (sum_gv (HG5.out.below LW.out)).mono ?_; rintro e w' ⟨rfl, rfl⟩))
      go_ret
      refine ⟨?_, sq L3.out LB.out⟩
      first | rfl | simp
set_option maxRecDepth 10000 in
set_option maxHeartbeats 1000000 in
theorem back_long1 (r : Rc) (d k s m : Int) (a5 : Option Addr) (len5 cap5 : Nat) (w : World) (hs : r.pan.size ≤ 9223372036854775807) (h : 60 < r.pan.size) :
    Calls Try.prog 3 #[r.val, .int .u8 d, .int .u8 k, .int .u8 s, .int .u16 m, .slice a5 len5 cap5] w fun e w' => e = .returned (.bool true) ∧ Below w.heap.size w w' := by
  have i2 : (60 : Int) < (r.pan.size : Int) := by omega
  have i4 : decide ((60 : Int) < (r.pan.size : Int)) = true := by simp; omega
  go_enter Try.func3, Try.ntmps3
  go_wp2_with (first | (go_at_call 8; refine (known8 _).mono ?_; rintro e w1 ⟨rfl, l1⟩; have RV1 := hid (RV0.out.below l1); have L1 := hid (sq BL0.out l1); have c3 := RV1.out.recAt.c3; clear l1) | (refine bx29 (r := r) rfl _ rfl rfl ?_; intro b6 w0 hb6 rv0 bl0; have RV0 := hid rv0; have BL0 := hid bl0; clear rv0 bl0 hb6))
  go_ret
  exact ⟨rfl, L1.out⟩
set_option maxRecDepth 10000 in
set_option maxHeartbeats 1000000 in
theorem back_long2 (r : Rc) (d k s m : Int) (a5 : Option Addr) (len5 cap5 : Nat) (w : World) (hs : r.pan.size ≤ 60) (h : 100 < len5) :
    Calls Try.prog 3 #[r.val, .int .u8 d, .int .u8 k, .int .u8 s, .int .u16 m, .slice a5 len5 cap5] w fun e w' => e = .returned (.bool true) ∧ Below w.heap.size w w' := by
  have i2 : ¬ (60 : Int) < (r.pan.size : Int) := by omega
  have i4 : decide ((60 : Int) < (r.pan.size : Int)) = false := by simp; omega
  have i5 : (100 : Int) < (len5 : Int) := by omega
  go_enter Try.func3, Try.ntmps3
  go_wp2_with (first | (go_at_call 8; refine (known8 _).mono ?_; rintro e w1 ⟨rfl, l1⟩; have RV1 := hid (RV0.out.below l1); have L1 := hid (sq BL0.out l1); have c3 := RV1.out.recAt.c3; clear l1) | (refine bx29 (r := r) rfl _ rfl rfl ?_; intro b6 w0 hb6 rv0 bl0; have RV0 := hid rv0; have BL0 := hid bl0; clear rv0 bl0 hb6))
  go_ret
  exact ⟨rfl, L1.out⟩
theorem back_any (r : Rc) (d k s m : Int) (a5 : Option Addr) (len5 cap5 : Nat) (more : List Int) (w : World) (ho : r.Ok) (hsz : r.pan.size ≤ maxLen) (hd : 0 ≤ d ∧ d < 256) (hk : 0 ≤ k ∧ k < 256) (hs : 0 ≤ s ∧ s < 256) (hm : 0 ≤ m ∧ m < 65536) (h5 : InB w a5 len5 cap5 more) :
    Calls Try.prog 3 #[r.val, .int .u8 d, .int .u8 k, .int .u8 s, .int .u16 m, .slice a5 len5 cap5] w fun e w' => e = .returned (.bool true) ∧ Below w.heap.size w w' := by
  by_cases h1 : r.pan.size ≤ 60
  · by_cases h2 : len5 ≤ 100
    · exact back_walk r d k s m a5 len5 cap5 more w ho hd hk hs hm h5 h1 h2
    · exact back_long2 r d k s m a5 len5 cap5 w h1 (by omega)
  · exact back_long1 r d k s m a5 len5 cap5 w (by unfold maxLen at hsz; omega) (by omega)
end Go.Proofs.Ytmojndacjngjpaa
