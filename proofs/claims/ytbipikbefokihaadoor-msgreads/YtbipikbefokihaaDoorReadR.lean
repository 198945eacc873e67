/- The document's Read. -/
import Derived.Test.YtbipikbefokihaaDoorTold
namespace Go.Proofs.YtbipikbefokihaaDoor
open Go.ChangeShapes Go.WideShapes Go.ChangeAt Go.RowKit

theorem none_eq {s : ByteArray} {k : Nat} (h : noneTo s k) (hk : 8 ≤ k) : okK (kindL s) = false := by rw [none_all h hk]; rfl
theorem none_one (s : ByteArray) : noneTo s 1 := fun j hj e => by
  have : j = 0 := by omega
  subst this
  cases e.1
theorem ok_nat {k : Nat} (h1 : 1 ≤ k) (h8 : k < 8) : okK (k : Int) = true := by unfold okK; rw [decide_eq_true (by omega)]
set_option maxHeartbeats 8000000 in
theorem read15 (ao : Option Addr) (len cap : Nat) (zs : List Int) (w : World) (h : Given w ao len cap zs) (hl : len ≤ 900000) :
    Calls Tryd.prog 15 #[.slice ao len cap] w (RdAns w zs) := by
  have HG := hid h
  have HLZ : Hid (zs.length ≤ 900000) := by unfold Hid; rw [h.leq]; exact hl
  have hcap := h.cap1
  clear h
  obtain ⟨L, hL⟩ : ∃ L, txts (spl [] zs) = L := ⟨_, rfl⟩
  have HRL : Hid (readL zs = readR L) := by unfold Hid readL; rw [hL, read_two]
  have HPOS : Hid (0 < L.length) := by unfold Hid; rw [← hL]; exact spl_pos zs
  have HTX : Hid (Txt L) := by unfold Hid; rw [← hL]; exact spl_txt HLZ.out
  have HLL := hid hL
  obtain ⟨s, hs⟩ : ∃ s, L.getD 0 ⟨#[]⟩ = s := ⟨_, rfl⟩
  have HS := hid hs
  have HRR : Hid (readR L = if okK (kindL s) = true then (rd rdR (hasK (kindL s)) (L.drop 1) (Ms.of (kindL s))).filter rightL else none) := by
    unfold Hid readR at4; rw [hs]
  clear hL hs
  go_enter Tryd.func15, Tryd.ntmps15
  go_wp2_with (first | (go_at_call 35; have kill := L1.out; refine (split13 _ _ _ zs _ (HG.out.below L1.out) hl).mono ?_; rintro e w2 ⟨a2, n2, c2, rfl, m2, h2⟩; rw [HLL.out] at m2; have M2 := hid m2; have V2 := hid (V1.out.below m2.2); have L2 := hid (sq L1.out m2.2); have hn2 : n2 ≤ 900001 := (by have := HLZ.out; omega); clear m2 h2 kill L1 V1) | (refine al27 rfl rfl ?_; intro b0 w1 hb0 v1 l1; have V1 := hid v1; have L1 := hid l1; clear v1 l1))
  have ca := M2.out.1.caps
  have ca1 := ca.2.1
  have ca2 := ca.2.2
  clear ca
  have G2 := hid (M2.out.given HTX.out)
  have hn1 : 1 ≤ n2 := by have := HPOS.out; rw [M2.out.1.len] at this; exact this
  obtain ⟨bb, oo, hao, hc⟩ := G2.out.cell 0 hn1
  subst hao
  rw [HS.out, Nat.add_zero] at hc
  obtain ⟨a5, r5, g5⟩ := T.sub_l (ao := some ⟨bb, oo, none⟩) 1 1 rfl hn1 ca1
  have G5 := hid (g5 _ _ G2.out)
  clear g5 M2
  go_loopw [5] (fun i wr => ∃ k : Nat, 1 ≤ k ∧ k ≤ 8 ∧ i = .int .i64 (k : Int) ∧ noneTo s k ∧ Below w2.heap.size w2 wr) (fun i _ => 8 - (intOf i).toNat)
  case atStart => exact ⟨1, by omega, by omega, rfl, none_one s, Below.refl _ _⟩
  case round =>
    obtain ⟨k, hk1, hk, rfl, hn, hb⟩ := hrel
    have HN := hid hn
    have HB := hid hb
    have VZ := hid (V2.out.below hb)
    have BW := hid (sq L2.out hb)
    have hcr : wr.cell? ⟨bb, oo, none⟩ = some (.string s) := by rw [hb.cell (p := ⟨bb, oo, none⟩) (World.block_lt_of_cell? w2 _ hc)]; exact hc
    clear hn hb
    by_cases hlt : k < 8
    · have HO := hid (ok_nat hk1 hlt)
      obtain ⟨c, hcd⟩ : ∃ c, codeK (k : Int) = c := ⟨_, rfl⟩
      have HC := hid hcd
      obtain ⟨l, hll⟩ : ∃ l, letK (k : Int) = l := ⟨_, rfl⟩
      have HLT := hid hll
      by_cases h : c = s
      · have HKS : Hid (kindL s = (k : Int)) := by unfold Hid; rw [← h, ← hcd]; exact kind_code HO.out
        have HRR2 : Hid (readL zs = (rd rdR (hasK (k : Int)) (L.drop 1) (Ms.of (k : Int))).filter rightL) := by
          unfold Hid; rw [HRL.out, HRR.out, HKS.out, if_pos HO.out]
        subst h
        have e1 : (c.toList == c.toList) = true := by simp
        have G5R := hid (G5.out.below HB.out)
        have HTD : Hid (Calls Tryd.prog 36 #[.int .i64 (k : Int), .string l, .slice a5 (n2 - 1) (c2 - 1)] wr (TdAns wr (k : Int) (L.drop 1))) :=
          told36 (k : Int) l (L.drop 1) a5 (n2 - 1) (c2 - 1) wr HO.out hll G5R.out (by omega)
        clear hcd hll
        obtain ⟨o, ho⟩ : ∃ o, rd rdR (hasK (k : Int)) (L.drop 1) (Ms.of (k : Int)) = o := ⟨_, rfl⟩
        rw [ho] at HRR2
        have HOO := hid ho
        clear ho
        cases o with
        | none =>
          have HE := hid (rd_none (zs := zs) (HRR2.out.trans rfl))
          go_wp2_with (first | (have kill := VZ3.out; refine st27 (r := Ms.zero) VZ3.out BW3.out hb0 rfl _ _ rfl rfl rfl ?_; intro w6 v6 l6; have V6 := hid v6; have L6 := hid l6; clear v6 l6 kill VZ3) | (have kill := VZ3.out; refine bd27 rfl rfl ?_) | (have kill := V5.out; refine st27 (r := mm) V5.out L5.out hb5 rfl _ _ rfl rfl rfl ?_; intro w6 v6 l6; have VZ3 := hid (VZ4.out.below l6); have BW3 := hid (sq BW4.out l6); clear v6 l6 kill V5) | (refine al27 rfl rfl ?_; have kill := VZ4.out; intro b5 w5 hb5 v5 l5; have V5 := hid v5; have L5 := hid l5; clear v5 l5 kill) | (go_at_call 36; have kill := HTD.out; refine HTD.out.mono ?_; rintro e w4 ⟨l4, mm, rfl, hm1, hm2, hm3⟩; rw [HOO.out]; have VZ4 := hid (VZ.out.below l4); have BW4 := hid (sq BW.out l4); clear l4 hm1 hm2 hm3 kill HTD) | (go_at_call 21; refine (parts21 _ _).mono ?_; rintro e w3 ⟨rfl, rfl⟩; rw [HO.out, HC.out, HLT.out]))
          refine bodyPost_ret (results_c1 Tryd.results15 _ _ rfl rfl V6.out) rfl ⟨?_, L6.out⟩
          rw [HE.out.1, HE.out.2]; rfl
        | some m =>
          cases hr : rightL m
          · have HE := hid (rd_none (zs := zs) (HRR2.out.trans (by simp [Option.filter, hr])))
            have HR := hid hr
            clear hr
            go_wp2_with (first | (have kill := VZ7.out; refine st27 (r := Ms.zero) VZ7.out BW7.out hb0 rfl _ _ rfl rfl rfl ?_; intro w6 v6 l6; have V6 := hid v6; have L6 := hid l6; clear v6 l6 kill VZ7) | (have kill := VZ7.out; refine bd27 rfl rfl ?_) | (go_at_call 12; have kill := V3.out; refine (right12 _ _ HM1.out HM2.out).mono ?_; rintro e w7 ⟨rfl, l7⟩; rw [HR.out]; have VZ7 := hid (VZ3.out.below l7); have BW7 := hid (sq BW3.out l7); clear l7 kill V3) | (have kill := V3.out; refine ldw27 V3.out _ rfl (by kernel_rfl) rfl ?_) | (have kill := V5.out; refine st27 (r := m) V5.out L5.out hb5 rfl _ _ rfl rfl rfl ?_; intro w6 v6 l6; have V3 := hid v6; have VZ3 := hid (VZ4.out.below l6); have BW3 := hid (sq BW4.out l6); clear v6 l6 kill V5) | (refine al27 rfl rfl ?_; have kill := VZ4.out; intro b5 w5 hb5 v5 l5; have V5 := hid v5; have L5 := hid l5; clear v5 l5 kill) | (go_at_call 36; have kill := HTD.out; refine HTD.out.mono ?_; rintro e w4 ⟨l4, mm, rfl, hm1, hm2, hm3⟩; rw [HOO.out] at hm3; rw [HOO.out]; obtain rfl : m = mm := Option.some.inj (hm3 rfl); have HM1 := hid hm1; have HM2 := hid hm2; have VZ4 := hid (VZ.out.below l4); have BW4 := hid (sq BW.out l4); clear l4 hm1 hm2 hm3 kill HTD) | (go_at_call 21; refine (parts21 _ _).mono ?_; rintro e w3 ⟨rfl, rfl⟩; rw [HO.out, HC.out, HLT.out]))
            refine bodyPost_ret (results_c1 Tryd.results15 _ _ rfl rfl V6.out) rfl ⟨?_, L6.out⟩
            rw [HE.out.1, HE.out.2]; rfl
          · have HE := hid (rd_some (zs := zs) (m := m) (HRR2.out.trans (by simp [Option.filter, hr])))
            have HR := hid hr
            clear hr
            go_wp2_with (first | (have kill := VZ7.out; refine st27 (r := m) VZ7.out BW7.out hb0 rfl _ _ rfl rfl rfl ?_; intro w6 v6 l6; have V6 := hid v6; have L6 := hid l6; clear v6 l6 kill VZ7) | (have kill := V7.out; refine ld27 V7.out rfl _ rfl rfl ?_) | (go_at_call 12; have kill := V3.out; refine (right12 _ _ HM1.out HM2.out).mono ?_; rintro e w7 ⟨rfl, l7⟩; rw [HR.out]; have V7 := hid (V3.out.below l7); have VZ7 := hid (VZ3.out.below l7); have BW7 := hid (sq BW3.out l7); clear l7 kill V3) | (have kill := V3.out; refine ldw27 V3.out _ rfl (by kernel_rfl) rfl ?_) | (have kill := V5.out; refine st27 (r := m) V5.out L5.out hb5 rfl _ _ rfl rfl rfl ?_; intro w6 v6 l6; have V3 := hid v6; have VZ3 := hid (VZ4.out.below l6); have BW3 := hid (sq BW4.out l6); clear v6 l6 kill V5) | (refine al27 rfl rfl ?_; have kill := VZ4.out; intro b5 w5 hb5 v5 l5; have V5 := hid v5; have L5 := hid l5; clear v5 l5 kill) | (go_at_call 36; have kill := HTD.out; refine HTD.out.mono ?_; rintro e w4 ⟨l4, mm, rfl, hm1, hm2, hm3⟩; rw [HOO.out] at hm3; rw [HOO.out]; obtain rfl : m = mm := Option.some.inj (hm3 rfl); have HM1 := hid hm1; have HM2 := hid hm2; have VZ4 := hid (VZ.out.below l4); have BW4 := hid (sq BW.out l4); clear l4 hm1 hm2 hm3 kill HTD) | (go_at_call 21; refine (parts21 _ _).mono ?_; rintro e w3 ⟨rfl, rfl⟩; rw [HO.out, HC.out, HLT.out]))
            refine bodyPost_ret (results_c1 Tryd.results15 _ _ rfl rfl V6.out) rfl ⟨?_, L6.out⟩
            rw [HE.out.1, HE.out.2]; rfl
      · have HX := hid (none_next HN.out (fun e => h (hcd ▸ e.2)))
        have e1 := ne_bytes (fun e => h e.symm : ¬ s = c)
        clear hcd hll
        go_wp2_with (go_at_call 21; refine (parts21 _ _).mono ?_; rintro e w3 ⟨rfl, rfl⟩; rw [HO.out, HC.out, HLT.out])
        go_roundw
        case rel => exact ⟨k + 1, by omega, by omega, by go_num, HX.out, HB.out⟩
        case measure => simp [intOf]; omega
    · have HE : Hid (rdM zs = Ms.zero ∧ rdE zs = 23) := rd_none (HRL.out.trans (HRR.out.trans (by rw [none_eq HN.out (by omega)]; rfl)))
      go_wp2_with (first | (have kill := VZ.out; refine st27 (r := Ms.zero) VZ.out BW.out hb0 rfl _ _ rfl rfl rfl ?_; intro w6 v6 l6; have V6 := hid v6; have L6 := hid l6; clear v6 l6 kill VZ) | (have kill := VZ.out; refine bd27 rfl rfl ?_))
      refine bodyPost_ret (results_c1 Tryd.results15 _ _ rfl rfl V6.out) rfl ⟨?_, L6.out⟩
      rw [HE.out.1, HE.out.2]; rfl
end Go.Proofs.YtbipikbefokihaaDoor
