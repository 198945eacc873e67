/- Read: the message that bytes are. -/
import Derived.Test.YtbipikbefokihaaDoorTsub
import Derived.Test.YtbipikbefokihaaDoorPutD
namespace Go.Proofs.YtbipikbefokihaaDoor
open Go.ChangeShapes Go.WideShapes Go.ChangeAt Go.RowKit

/-- What Read answers. -/
def RdAns (w : World) (zs : List Int) (e : Ending) (w' : World) : Prop := e = .returned (.tuple #[(rdM zs).val, .int .i64 (rdE zs)]) ∧ Below w.heap.size w w'
theorem rd_none {zs : List Int} (h : readL zs = none) : rdM zs = Ms.zero ∧ rdE zs = 23 := by unfold rdM rdE; rw [h]; exact ⟨rfl, rfl⟩
theorem rd_some {zs : List Int} {m : Ms} (h : readL zs = some m) : rdM zs = m ∧ rdE zs = 0 := by unfold rdM rdE; rw [h]; exact ⟨rfl, rfl⟩
/-- A message of its kind alone. -/
theorem bdK {ops : Array Oper} {rest : List Oper} {op : Oper} {a : Act} {w : World} {Q : Exit → Act → World → Prop} {k : Int} (hgd : op.guard = none) (x : Operand) (ho : op.op = .build 27 #[(0, x)]) (hx : a.eval x = .int .i64 k)
    (h : wpList Tryd.prog ops Q rest (a.put op.dst (Ms.of k).val) w) : wpList Tryd.prog ops Q (op :: rest) a w :=
  wpList_plain hgd fun K hK => by
    have hz0 := zero27 w
    unfold Oper.wp execOp
    simp only [ho, List.map_toArray, List.map_cons, List.map_nil, hx]
    simp [Instr.build, hz0, go_sem, Ms.val, Ms.cells, Ms.zero]
    exact hK _ _ h
theorem rd_len {g : Int → List ByteArray → Bool} {f : Int} {fs : List Int} {ps : List ByteArray} {m : Ms} (h : ps.length < cntF f) : rd g (f :: fs) ps m = none := by unfold rd; rw [if_pos h]
theorem rd_bad {g : Int → List ByteArray → Bool} {f : Int} {fs : List Int} {ps : List ByteArray} {m : Ms} (h : g f (ps.take (cntF f)) = false) : rd g (f :: fs) ps m = none := by
  unfold rd
  split
  · rfl
  · rw [h]; rfl
theorem rd_ok {g : Int → List ByteArray → Bool} {f : Int} {fs : List Int} {ps : List ByteArray} {m : Ms} (h : ¬ ps.length < cntF f) (h2 : g f (ps.take (cntF f)) = true) : rd g (f :: fs) ps m = rd g fs (ps.drop (cntF f)) (setF m f (ps.take (cntF f))) := by
  rw [rd, if_neg h, if_pos h2]
theorem drop_consH (H : List Int) (k : Nat) (h : k < H.length) : H.drop k = H.getD k 0 :: H.drop (k + 1) := drop_cons H k h
theorem cnt_two (f : Int) : cntF f = 1 ∨ cntF f = 4 := by unfold cntF; split <;> simp
theorem spl_pos (zs : List Int) : 0 < (txts (spl [] zs)).length := by
  rw [List.length_map]; exact List.length_pos_iff.2 (spl_ne zs [])
theorem spl_txt {zs : List Int} (h : zs.length ≤ 900000) : Txt (txts (spl [] zs)) := by
  intro s hs
  have := txts_size (m := 900000) (fun p hp => by have := spl_len p hp; simp at this; omega) s hs
  omega
set_option maxHeartbeats 8000000 in
theorem read13 (ao : Option Addr) (len cap : Nat) (zs : List Int) (w : World) (h : Given w ao len cap zs) (hl : len ≤ 900000) :
    Calls Tryd.prog 13 #[.slice ao len cap] w (RdAns w zs) := by
  have HG := hid h
  have HLZ : Hid (zs.length ≤ 900000) := by unfold Hid; rw [h.leq]; exact hl
  have hcap := h.cap1
  clear h
  obtain ⟨L, hL⟩ : ∃ L, txts (spl [] zs) = L := ⟨_, rfl⟩
  have HRL : Hid (readL zs = readP L) := by unfold Hid readL; rw [hL]
  have HPOS : Hid (0 < L.length) := by unfold Hid; rw [← hL]; exact spl_pos zs
  have HTX : Hid (Txt L) := by unfold Hid; rw [← hL]; exact spl_txt HLZ.out
  have HLL := hid hL
  obtain ⟨s, hs⟩ : ∃ s, L.getD 0 ⟨#[]⟩ = s := ⟨_, rfl⟩
  have HS := hid hs
  obtain ⟨kd, hkd⟩ : ∃ k, kindL s = k := ⟨_, rfl⟩
  obtain ⟨ok, hok⟩ : ∃ b, okK kd = b := ⟨_, rfl⟩
  obtain ⟨H, hH⟩ : ∃ H, hasK kd = H := ⟨_, rfl⟩
  have HKD := hid hkd
  have HOK := hid hok
  have HH := hid hH
  have HTN : Hid (∀ f ∈ H, f ∈ tenF) := fun f hf => has_ten (k := kd) (by rw [hH]; exact hf)
  have H8 : Hid (H.length ≤ 8) := by unfold Hid; rw [← hH]; exact has_len _
  have HRP : Hid (readP L = if ok = true then rd rdF H (L.drop 1) (Ms.of kd) else none) := by
    unfold Hid readP at4; rw [hs, hkd, hok, hH]
  clear hL hs hkd hH
  go_enter Tryd.func13, Tryd.ntmps13
  go_upto_region 2 with (first | (go_at_call 31; have kill := L1.out; refine (split10 _ _ _ zs _ (HG.out.below L1.out) hl).mono ?_; rintro e w2 ⟨a2, n2, c2, rfl, m2, h2⟩; rw [HLL.out] at m2; have M2 := hid m2; have V2 := hid (V1.out.below m2.2); have L2 := hid (sq L1.out m2.2); have hn2 : n2 ≤ 900001 := (by have := HLZ.out; omega); clear m2 h2 kill L1 V1) | (refine al27 rfl rfl ?_; intro b0 w1 hb0 v1 l1; have V1 := hid v1; have L1 := hid l1; clear v1 l1))
  have ca := M2.out.1.caps
  have ca1 := ca.2.1
  have ca2 := ca.2.2
  clear ca
  have G2 := hid (M2.out.given HTX.out)
  have hn1 : 1 ≤ n2 := by have := HPOS.out; rw [M2.out.1.len] at this; exact this
  obtain ⟨bb, oo, hao, hc⟩ := G2.out.cell 0 hn1
  subst hao
  rw [HS.out, Nat.add_zero] at hc
  cases ok
  · have HE := hid (rd_none (HRL.out.trans (HRP.out.trans (if_neg Bool.false_ne_true))))
    clear hok
    go_wp2_with (first | (have kill := V3.out; refine st27 (r := Ms.zero) V3.out L3.out hb0 rfl _ _ rfl rfl rfl ?_; intro w4 v4 l4; have V4 := hid v4; have L4 := hid l4; clear v4 l4 kill V3) | (have kill := V3.out; refine bd27 rfl rfl ?_) | (go_at_call 32; refine (kindOf32 s _).mono ?_; rintro e w3 ⟨a3, n3, rfl, g3, l3⟩; rw [HKD.out, HOK.out]; have V3 := hid (V2.out.below l3); have L3 := hid (sq L2.out l3); clear g3 l3))
    refine bodyPost_ret (results_c1 Tryd.results13 _ _ rfl rfl V4.out) rfl ⟨?_, L4.out⟩
    rw [HE.out.1, HE.out.2]; rfl
  · have HRP2 : Hid (readP L = rd rdF H (L.drop 1) (Ms.of kd)) := HRP.out
    clear hok HRP
    obtain ⟨a5, r5, g5⟩ := T.sub_l (ao := some ⟨bb, oo, none⟩) 1 1 rfl hn1 ca1
    go_wp2_with (first | (have kill := V5.out; refine st27 (r := Ms.of kd) V5.out L5.out hb5 rfl _ _ rfl rfl rfl ?_; intro w6 v6 l6; have V6 := hid v6; have L6 := hid l6; clear v6 l6 kill V5 L5) | (refine al27 rfl rfl ?_; have kill := V3.out; intro b5 w5 hb5 v5 l5; have V5 := hid v5; have L5 := hid l5; clear v5 l5 kill) | (have kill := V3.out; refine bdK rfl _ rfl rfl ?_) | (go_at_call 32; refine (kindOf32 s _).mono ?_; rintro e w3 ⟨a3, n3, rfl, g3, l3⟩; rw [HKD.out, HOK.out]; have G3 := hid g3; rw [HKD.out, HH.out] at G3; have V3 := hid (V2.out.below l3); have L3 := hid (sq L2.out l3); have GP := hid (G2.out.below l3); clear g3 l3))
    have GL := hid (g5 _ _ GP.out)
    have HQ := hid G3.out.leq
    have h8 : n3 ≤ 8 := by rw [← HQ.out]; exact H8.out
    clear r5 g5 hc
    go_loopw [9, 32] (fun x i wr => ∃ (k n c : Nat) (a : Option Addr) (ps : List ByteArray) (m : Ms), k ≤ n3 ∧ i = .int .i64 (k : Int) ∧ x = .slice a n c ∧ T.Given w3 a n c ps ∧ RV wr b5 m ∧ Below w3.heap.size w3 wr ∧ rd rdF H (L.drop 1) (Ms.of kd) = rd rdF (H.drop k) ps m) (fun _ i _ => n3 - (intOf i).toNat)
    case atStart => exact ⟨0, n2 - 1, c2 - 1, a5, L.drop 1, Ms.of kd, by omega, rfl, rfl, GL.out, V6.out, L6.out, rfl⟩
    case round =>
      obtain ⟨k, n, c, a, ps, m, hk, rfl, rfl, hg, hv, hb, he⟩ := hrel
      have G := hid (hg.below hb)
      have GW := hid hg
      have VR := hid hv
      have BR := hid hb
      have VZ := hid (V3.out.below hb)
      have BW := hid (sq L3.out hb)
      have HEQ := hid he
      have hc1 := hg.cap1
      have hc2 := hg.cap2
      have HPL := hid hg.leq
      have G3R := hid (G3.out.below hb)
      clear hg hv hb he
      by_cases hlt : k < n3
      · have hkH : k < H.length := by rw [HQ.out]; exact hlt
        obtain ⟨b2, o2, hao, hcf⟩ := G3R.out.cell k hlt
        subst hao
        have HDC := hid (drop_consH H k hkH)
        have HFM := hid (getD_mem hkH)
        clear hkH
        generalize H.getD k 0 = f at *
        have HFT := hid (HTN.out f HFM.out)
        obtain ⟨q, hq⟩ : ∃ q, cntF f = q := ⟨_, rfl⟩
        have hq2 : q = 1 ∨ q = 4 := by rw [← hq]; exact cnt_two f
        have HQQ := hid hq
        by_cases hlen : n < q
        · have HE : Hid (rdM zs = Ms.zero ∧ rdE zs = 23) := rd_none (HRL.out.trans (HRP2.out.trans (HEQ.out.trans (by rw [HDC.out]; exact rd_len (by rw [HPL.out, hq]; exact hlen)))))
          clear hq
          have hlen' : (n : Int) < (q : Int) := by omega
          go_wp2_with (first | (have kill := VZ.out; refine st27 (r := Ms.zero) VZ.out BW.out hb0 rfl _ _ rfl rfl rfl ?_; intro w6 v6 l6; have V6 := hid v6; have L6 := hid l6; clear v6 l6 kill VZ) | (have kill := VZ.out; refine bd27 rfl rfl ?_) | (go_at_call 33; refine (partsOf33 f _ HFT.out).mono ?_; rintro e w4 ⟨rfl, rfl⟩; rw [HQQ.out]))
          refine bodyPost_ret (results_c1 Tryd.results13 _ _ rfl rfl V6.out) rfl ⟨?_, L6.out⟩
          rw [HE.out.1, HE.out.2]; rfl
        · have hlen' : q ≤ n := by omega
          obtain ⟨a6, r6, g6⟩ := T.sub_h (ao := a) q (q : Int) rfl hlen' hc1
          obtain ⟨a7, r7, g7⟩ := T.sub_l (ao := a) q (q : Int) rfl hlen' hc1
          have GH := hid (g6 _ _ G.out)
          have GD := hid (g7 _ _ GW.out)
          have HTL : Hid ((ps.take q).length = cntF f) := by unfold Hid; rw [hq, List.length_take, HPL.out]; omega
          cases hrf : rdF f (ps.take q)
          · have HE : Hid (rdM zs = Ms.zero ∧ rdE zs = 23) := rd_none (HRL.out.trans (HRP2.out.trans (HEQ.out.trans (by rw [HDC.out]; exact rd_bad (by rw [hq]; exact hrf)))))
            have HRF := hid hrf
            clear hq hrf g6 g7 hq2
            go_wp2_with (first | (have kill := VZ4.out; refine st27 (r := Ms.zero) VZ4.out BW4.out hb0 rfl _ _ rfl rfl rfl ?_; intro w6 v6 l6; have V6 := hid v6; have L6 := hid l6; clear v6 l6 kill VZ4) | (have kill := VZ4.out; refine bd27 rfl rfl ?_) | (go_at_call 34; have kill := VR.out; refine (readField34 m f (ps.take q) _ _ _ b5 w3 _ HFT.out HTL.out GH.out VR.out hb5 BR.out).mono ?_; rintro e w4 ⟨rfl, l4, m4, v4, hm4⟩; rw [HRF.out]; have VZ4 := hid (V3.out.below l4); have BW4 := hid (sq L3.out l4); clear l4 v4 hm4 kill VR) | (go_at_call 33; refine (partsOf33 f _ HFT.out).mono ?_; rintro e w4 ⟨rfl, rfl⟩; rw [HQQ.out]))
            refine bodyPost_ret (results_c1 Tryd.results13 _ _ rfl rfl V6.out) rfl ⟨?_, L6.out⟩
            rw [HE.out.1, HE.out.2]; rfl
          · have HE : Hid (rd rdF H (L.drop 1) (Ms.of kd) = rd rdF (H.drop (k + 1)) (ps.drop q) (setF m f (ps.take q))) := HEQ.out.trans (by rw [HDC.out, rd_ok (by rw [HPL.out, hq]; exact hlen) (by rw [hq]; exact hrf), hq])
            have HRF := hid hrf
            clear hq hrf g6 g7 hq2
            go_wp2_with (first | (go_at_call 34; have kill := VR.out; refine (readField34 m f (ps.take q) _ _ _ b5 w3 _ HFT.out HTL.out GH.out VR.out hb5 BR.out).mono ?_; rintro e w4 ⟨rfl, l4, m4, v4, hm4⟩; have hm5 := hm4 HRF.out; rw [HRF.out]; subst hm5; have V4 := hid v4; have L4 := hid l4; clear l4 v4 hm4 kill VR) | (go_at_call 33; refine (partsOf33 f _ HFT.out).mono ?_; rintro e w4 ⟨rfl, rfl⟩; rw [HQQ.out]))
            go_roundw
            case rel => exact ⟨k + 1, n - q, c - q, a7, ps.drop q, setF m f (ps.take q), by omega, by go_num, rfl, GD.out, V4.out, L4.out, HE.out⟩
            case measure => simp [intOf]; omega
      · have HDN : Hid (H.drop k = []) := List.drop_of_length_le (by rw [HQ.out]; omega)
        by_cases h0 : n = 0
        · have HE : Hid (rdM zs = m ∧ rdE zs = 0) := rd_some (HRL.out.trans (HRP2.out.trans (HEQ.out.trans (by rw [HDN.out]; unfold rd; rw [if_pos (by rw [HPL.out]; exact h0)]))))
          subst h0
          go_wp2_with (first | (have kill := VZ.out; refine st27 (r := m) VZ.out BW.out hb0 rfl _ _ rfl rfl rfl ?_; intro w6 v6 l6; have V6 := hid v6; have L6 := hid l6; clear v6 l6 kill VZ) | (have kill := VR.out; refine ld27 VR.out rfl _ rfl rfl ?_))
          refine bodyPost_ret (results_c1 Tryd.results13 _ _ rfl rfl V6.out) rfl ⟨?_, L6.out⟩
          rw [HE.out.1, HE.out.2]; rfl
        · have HE : Hid (rdM zs = Ms.zero ∧ rdE zs = 23) := rd_none (HRL.out.trans (HRP2.out.trans (HEQ.out.trans (by rw [HDN.out]; unfold rd; rw [if_neg (by rw [HPL.out]; exact h0)]))))
          have hp : 0 < n := by omega
          go_wp2_with (first | (have kill := VZ.out; refine st27 (r := Ms.zero) VZ.out BW.out hb0 rfl _ _ rfl rfl rfl ?_; intro w6 v6 l6; have V6 := hid v6; have L6 := hid l6; clear v6 l6 kill VZ) | (have kill := VZ.out; refine bd27 rfl rfl ?_))
          refine bodyPost_ret (results_c1 Tryd.results13 _ _ rfl rfl V6.out) rfl ⟨?_, L6.out⟩
          rw [HE.out.1, HE.out.2]; rfl
end Go.Proofs.YtbipikbefokihaaDoor
