/- The document's told: a message of its parts. -/
import Derived.Test.YtbipikbefokihaaDoorReadC
import Derived.Test.YtbipikbefokihaaDoorPutR
namespace Go.Proofs.YtbipikbefokihaaDoor
open Go.ChangeShapes Go.WideShapes Go.ChangeAt Go.RowKit

/-- A part of field f will do. -/
def pR (f : Int) (s : ByteArray) : Bool := numB10 s && ((!decide (f = 0) || decide (numV s ≤ 65535)) && (!decide (f = 1) || decide (numV s ≤ 999999)))
theorem rdR_all {f : Int} (h2 : ¬ f = 2) (ps : List ByteArray) : rdR f ps = ps.all (pR f) := by unfold rdR; rw [if_neg h2]; rfl
def stepM (m : Ms) (f : Int) (qs : List ByteArray) (j : Nat) : Ms := setN m f ((qs.take j).map numV ++ (numsF m f).drop j)
theorem step_none {m : Ms} {f : Int} (qs : List ByteArray) (hf : f ∈ tenF) (h2 : ¬ f = 2) : stepM m f qs 0 = m := by
  rcases ten_cases hf with rfl | rfl | rfl | rfl | rfl | rfl | rfl | rfl | rfl | rfl <;> first | exact absurd rfl h2 | rfl
theorem step_all {m : Ms} {f : Int} {qs : List ByteArray} (hf : f ∈ tenF) (h2 : ¬ f = 2) (hl : qs.length = cntF f) : stepM m f qs (cntF f) = setF m f qs := by
  rw [← setN_setF hf h2 hl]
  unfold stepM
  rw [List.take_of_length_le (by omega), List.drop_of_length_le (by rw [nums_len hf h2]; omega), List.append_nil]
theorem ok_set {m : Ms} {f : Int} {qs : List ByteArray} (hm : m.Ok) (hf : f ∈ tenF) (hr : rdR f qs = true) (hl : qs.length = cntF f) : (setF m f qs).Ok := by
  obtain ⟨h1, h2⟩ := hm
  rcases ten_cases hf with rfl | rfl | rfl | rfl | rfl | rfl | rfl | rfl | rfl | rfl
  case inl =>
    rw [rdR_all (by omega), List.all_eq_true] at hr
    have hq := list1 ⟨#[]⟩ (l := qs) (by rw [hl]; rfl)
    have := hr (qs.getD 0 ⟨#[]⟩) (by rw [hq]; exact List.mem_singleton.2 rfl)
    have hp := numV_pos (qs.getD 0 ⟨#[]⟩)
    have hb : numV (qs.getD 0 ⟨#[]⟩) ≤ 65535 := by
      unfold pR at this
      simp only [Bool.and_eq_true] at this
      simpa using this.2.1
    exact ⟨⟨hp, by show numV (qs.getD 0 ⟨#[]⟩) < 65536; omega⟩, h2⟩
  case inr.inl =>
    rw [rdR_all (by omega), List.all_eq_true] at hr
    have hq := list1 ⟨#[]⟩ (l := qs) (by rw [hl]; rfl)
    have := hr (qs.getD 0 ⟨#[]⟩) (by rw [hq]; exact List.mem_singleton.2 rfl)
    have hp := numV_pos (qs.getD 0 ⟨#[]⟩)
    have hb : numV (qs.getD 0 ⟨#[]⟩) ≤ 999999 := by
      unfold pR at this
      simp only [Bool.and_eq_true] at this
      simpa using this.2.2
    exact ⟨h1, ⟨hp, by show numV (qs.getD 0 ⟨#[]⟩) < 4294967296; omega⟩⟩
  all_goals exact ⟨h1, h2⟩
theorem pan_set {m : Ms} {f : Int} {qs : List ByteArray} (hf : f ∈ tenF) (hp : m.pan.size ≤ 9223372036854775807) (hq : (qs.getD 0 ⟨#[]⟩).size ≤ 9223372036854775807) : (setF m f qs).pan.size ≤ 9223372036854775807 := by
  by_cases h : f = 2
  · subst h; exact hq
  · rw [set_pan qs hf h]; exact hp
theorem parts1 {ps : List ByteArray} {t : Nat} (h : t + 1 ≤ ps.length) : (ps.drop t).take 1 = [ps.getD t ⟨#[]⟩] := by
  have h1 : t < ps.length := by omega
  rw [List.drop_eq_getElem_cons h1, List.take_succ_cons, List.take_zero]
  simp [h1]
theorem parts4 {ps : List ByteArray} {t : Nat} (h : t + 4 ≤ ps.length) : (ps.drop t).take 4 = [ps.getD t ⟨#[]⟩, ps.getD (t + 1) ⟨#[]⟩, ps.getD (t + 2) ⟨#[]⟩, ps.getD (t + 3) ⟨#[]⟩] := by
  have h0 : t < ps.length := by omega
  have h1 : t + 1 < ps.length := by omega
  have h2 : t + 2 < ps.length := by omega
  have h3 : t + 3 < ps.length := by omega
  rw [List.drop_eq_getElem_cons h0, List.drop_eq_getElem_cons h1, List.drop_eq_getElem_cons h2, List.drop_eq_getElem_cons h3, List.take_succ_cons, List.take_succ_cons, List.take_succ_cons, List.take_succ_cons, List.take_zero]
  simp [h0, h1, h2, h3]
theorem of_ok (k : Int) : (Ms.of k).Ok := ⟨⟨by show (0 : Int) ≤ 0; omega, by show (0 : Int) < 65536; omega⟩, by show (0 : Int) ≤ 0; omega, by show (0 : Int) < 4294967296; omega⟩
/-- What told answers: the message is of use only where it is one. -/
def TdAns (w : World) (k : Int) (ps : List ByteArray) (e : Ending) (w' : World) : Prop :=
  Below w.heap.size w w' ∧ ∃ m, e = .returned (.tuple #[m.val, .bool (rd rdR (hasK k) ps (Ms.of k)).isSome]) ∧ m.Ok ∧ m.pan.size ≤ 9223372036854775807 ∧ ((rd rdR (hasK k) ps (Ms.of k)).isSome = true → rd rdR (hasK k) ps (Ms.of k) = some m)
theorem zero_ok : Ms.zero.Ok ∧ Ms.zero.pan.size ≤ 9223372036854775807 := ⟨⟨by decide, by decide⟩, by decide⟩
theorem td_no {w w' : World} {k : Int} {ps : List ByteArray} (h : rd rdR (hasK k) ps (Ms.of k) = none) (hb : Below w.heap.size w w') : TdAns w k ps (.returned (.tuple #[Ms.zero.val, .bool false])) w' :=
  ⟨hb, Ms.zero, by rw [h]; rfl, zero_ok.1, zero_ok.2, fun e => by rw [h] at e; cases e⟩
theorem td_bad {w w' : World} {k : Int} {ps : List ByteArray} {m : Ms} (h : rd rdR (hasK k) ps (Ms.of k) = none) (hb : Below w.heap.size w w') (h1 : m.Ok) (h2 : m.pan.size ≤ 9223372036854775807) : TdAns w k ps (.returned (.tuple #[m.val, .bool false])) w' :=
  ⟨hb, m, by rw [h]; rfl, h1, h2, fun e => by rw [h] at e; cases e⟩
theorem td_yes {w w' : World} {k : Int} {ps : List ByteArray} {m : Ms} (h : rd rdR (hasK k) ps (Ms.of k) = some m) (hb : Below w.heap.size w w') (h1 : m.Ok) (h2 : m.pan.size ≤ 9223372036854775807) : TdAns w k ps (.returned (.tuple #[m.val, .bool true])) w' :=
  ⟨hb, m, by rw [h]; rfl, h1, h2, fun _ => h⟩
theorem nV10_yes {s : ByteArray} (h : numB10 s = true) : nV10 s = numV s := by unfold nV10; rw [if_pos h]
theorem pR_no {f : Int} {s : ByteArray} (h : numB10 s = false) : pR f s = false := by unfold pR; rw [h]; rfl
set_option maxRecDepth 20000 in
set_option maxHeartbeats 40000000 in
theorem told36 (kd : Int) (l : ByteArray) (ps : List ByteArray) (ao : Option Addr) (n cap : Nat) (w : World) (hk : okK kd = true) (hl : letK kd = l) (hg : T.Given w ao n cap ps) (hn : n ≤ 900001) :
    Calls Tryd.prog 36 #[.int .i64 kd, .string l, .slice ao n cap] w (TdAns w kd ps) := by
  have HG := hid hg
  have HPL := hid hg.leq
  have HTX := hid hg.byt
  have hcap := hg.cap1
  have hcap2 := hg.cap2
  clear hg
  have HLL : Hid (l.size = (hasK kd).length) := by unfold Hid; rw [← hl]; exact let_len hk
  have HLA : Hid (∀ i (h : i < l.size), i < (hasK kd).length ∧ (l[i].toNat : Int) = chF ((hasK kd).getD i 0)) := by subst hl; exact fun i h => let_at hk i h
  obtain ⟨RD, hRD⟩ : ∃ o, rd rdR (hasK kd) ps (Ms.of kd) = o := ⟨_, rfl⟩
  have HRD := hid hRD
  obtain ⟨H, hH⟩ : ∃ H, hasK kd = H := ⟨_, rfl⟩
  have HTN : Hid (∀ f ∈ H, f ∈ tenF) := fun f hf => has_ten (k := kd) (by rw [hH]; exact hf)
  have h8 : l.size ≤ 8 := by rw [HLL.out]; exact has_len _
  rw [hH] at HLL HLA
  have HRH : Hid (rd rdR H ps (Ms.of kd) = RD) := by unfold Hid; rw [← hH]; exact hRD
  clear hH hRD hl hk
  go_enter Tryd.func36, Tryd.ntmps36
  go_wp2_with (first | (have kill := V2.out; refine st27 (r := Ms.of kd) V2.out L2.out hb8 rfl _ _ rfl rfl rfl ?_; intro w3 v3 l3; have V3 := hid v3; have L3 := hid l3; clear v3 l3 kill V2 L2) | (refine al27 rfl rfl ?_; have kill := V1.out; intro b8 w2 hb8 v2 l2; have V2 := hid v2; have L2 := hid l2; clear v2 l2 kill) | (refine al27 rfl rfl ?_; intro b6 w1 hb6 v1 l1; have V1 := hid v1; have L1 := hid l1; clear v1 l1) | (have kill := V1.out; refine bdK rfl _ rfl rfl ?_))
  go_loopw [9, 10] (fun x i wr => ∃ (k t : Nat) (m : Ms), k ≤ l.size ∧ i = .int .i64 (k : Int) ∧ x = .int .i64 (t : Int) ∧ t ≤ n ∧ RV wr b8 m ∧ Below w1.heap.size w1 wr ∧ m.Ok ∧ m.pan.size ≤ 9223372036854775807 ∧ RD = rd rdR (H.drop k) (ps.drop t) m) (fun _ i _ => l.size - (intOf i).toNat)
  case atStart => exact ⟨0, 0, Ms.of kd, by omega, rfl, rfl, by omega, V3.out, L3.out, of_ok kd, zero_ok.2, HRH.out.symm⟩
  case round =>
    obtain ⟨k, t, m, hk, rfl, rfl, ht, hv, hb, hmo, hmp, he⟩ := hrel
    have VR := hid hv
    have BR := hid hb
    have HMO := hid hmo
    have HMP := hid hmp
    have HEQ := hid he
    clear hv hb hmo hmp he
    by_cases hlt : k < l.size
    · obtain ⟨hkH, hcc⟩ := HLA.out k hlt
      have HDC := hid (drop_consH H k hkH)
      have HFM := hid (getD_mem hkH)
      clear hkH
      generalize H.getD k 0 = f at *
      have HFT := hid (HTN.out f HFM.out)
      have HPD : Hid ((ps.drop t).length = n - t) := by unfold Hid; rw [List.length_drop, HPL.out]
      have GW : Hid (T.Given w ao n cap ps) := HG
      rcases ten_cases HFT.out with e | e | e | e | e | e | e | e | e | e
      · have hcf : (l[k].toNat : Int) = 116 := by rw [hcc, e]; rfl
        have HHC : Hid (hasC ⟨#[110, 114, 99, 100, 109]⟩ 116 = false) := by unfold Hid; decide
        rw [e] at HDC HFT
        clear hcc HFM e
        have VZ := hid (V1.out.below BR.out)
        have BW := hid (sq L1.out BR.out)
        by_cases hlen : n < t + 1
        · have HE : Hid (rd rdR (hasK kd) ps (Ms.of kd) = none) := HRD.out.trans (HEQ.out.trans (by rw [HDC.out]; exact rd_len (by rw [HPD.out]; show n - t < 1; omega)))
          go_wp2_with (first | (have kill := VZ.out; refine st27 (r := Ms.zero) VZ.out BW.out hb6 rfl _ _ rfl rfl rfl ?_; intro w6 v6 l6; have V6 := hid v6; have L6 := hid l6; clear v6 l6 kill VZ) | (have kill := VZ.out; refine bd27 rfl rfl ?_) | (go_at_call 28; refine (has28 ⟨#[110, 114, 99, 100, 109]⟩ 116 _ (by decide)).mono ?_; rintro e w4 ⟨rfl, rfl⟩; rw [HHC.out]))
          refine bodyPost_ret (results_c1 Tryd.results36 _ _ rfl rfl V6.out) rfl ?_
          exact td_no HE.out L6.out
        · have hlen2 : t + 1 ≤ n := by omega
          have HQS : Hid ((ps.drop t).take 1 = [ps.getD t ⟨#[]⟩]) := parts1 (by rw [HPL.out]; omega)
          have HNX : Hid ((ps.drop t).drop 1 = ps.drop (t + 1)) := List.drop_drop
          have HSTEP : Hid (∀ qs, (ps.drop t).take 1 = qs → rdR 0 qs = true → RD = rd rdR (H.drop (k + 1)) (ps.drop (t + 1)) (setF m 0 qs)) := fun qs hqs hr => by
            rw [HEQ.out, HDC.out, rd_ok (by rw [HPD.out]; show ¬ n - t < 1; omega) (by rw [show cntF 0 = 1 from rfl, hqs]; exact hr), show cntF 0 = 1 from rfl, hqs, HNX.out]
          have HFAIL : Hid (∀ qs, (ps.drop t).take 1 = qs → rdR 0 qs = false → rd rdR (hasK kd) ps (Ms.of kd) = none) := fun qs hqs hr => by
            rw [HRD.out, HEQ.out, HDC.out]; exact rd_bad (by rw [show cntF 0 = 1 from rfl, hqs]; exact hr)
          obtain ⟨b0, o0, hao0, hc0⟩ := HG.out.cell t (by omega)
          subst hao0
          have HZ0 := hid (getD_txt HTX.out t)
          generalize ps.getD t ⟨#[]⟩ = s0 at *
          have HCC0 : Hid (∀ w', Below w1.heap.size w1 w' → w'.cell? ⟨b0, o0 + t, none⟩ = some (.string s0)) := fun w' h => by
            have hlo := World.block_lt_of_cell? w _ hc0
            have hsz := L1.out.size
            rw [(sq L1.out h).cell (p := ⟨b0, o0 + t, none⟩) hlo]; exact hc0
          clear hc0
          go_wp2_with (first | (go_at_call 28; refine (has28 ⟨#[110, 114, 99, 100, 109]⟩ 116 _ (by decide)).mono ?_; rintro e w4 ⟨rfl, rfl⟩; rw [HHC.out]))
          generalize wr = wa at *
          go_loopw [12] (fun i wr => ∃ (j : Nat), j ≤ 1 ∧ i = .int .i64 (j : Int) ∧ (([s0] : List ByteArray).take j).all (pR 0) = true ∧ RV wr b8 (stepM m 0 [s0] j) ∧ Below w1.heap.size w1 wr) (fun i _ => 1 - (intOf i).toNat)
          case atStart => exact ⟨0, by omega, rfl, rfl, by rw [step_none [s0] HFT.out (by omega)]; exact VR.out, BR.out⟩
          case round =>
            obtain ⟨j, hj, rfl, hall, hv, hb⟩ := hrel
            have VQ := hid hv
            have BQ := hid hb
            have HAL := hid hall
            have VZ2 := hid (V1.out.below hb)
            have BW2 := hid (sq L1.out hb)
            clear hv hb hall VR VZ BW
            have h0q : j = 0 ∨ j = 1 := by omega
            rcases h0q with rfl | rfl
            · have hcx := HCC0.out wr BQ.out
              have HNX2 : Hid ((([s0] : List ByteArray).take (0 + 1)).all (pR 0) = pR 0 s0) := by unfold Hid; rw [all_snocB _ _ _ (by simp), HAL.out, Bool.true_and]; rfl
              have HBAD : Hid (pR 0 s0 = false → rd rdR (hasK kd) ps (Ms.of kd) = none) := fun h => HFAIL.out [s0] HQS.out (by rw [rdR_all (by omega)]; exact all_moreB (HNX2.out.trans h))
              cases hnb : numB10 s0
              · have HNB := hid hnb
                have HE := hid (HBAD.out (pR_no hnb))
                clear hnb
                go_wp2_with (first | (have kill := VZ2.out; refine st27 (r := Ms.zero) VZ2.out BW2.out hb6 rfl _ _ rfl rfl rfl ?_; intro w6 v6 l6; have V6 := hid v6; have L6 := hid l6; clear v6 l6 kill VZ2) | (have kill := VZ2.out; refine bd27 rfl rfl ?_) | (go_at_call 47; refine (number47 s0 _ HZ0.out).mono ?_; rintro e w4 ⟨rfl, rfl⟩; rw [HNB.out]))
                refine bodyPost_ret (results_c1 Tryd.results36 _ _ rfl rfl V6.out) rfl ?_
                exact td_no HE.out L6.out
              · have HNB := hid hnb
                have HNV := hid (nV10_yes hnb)
                obtain ⟨v, hv⟩ : ∃ v, numV s0 = v := ⟨_, rfl⟩
                rw [hv] at HNV
                have hv0 : 0 ≤ v := by rw [← hv]; exact numV_pos s0
                have HVV := hid hv
                by_cases hlim : 65535 < v
                · have HE := hid (HBAD.out (by unfold pR; rw [hnb, hv, decide_eq_false (show ¬ v ≤ 65535 by omega)]; rfl))
                  clear hnb hv
                  go_wp2_with (first | (have kill := VZ2.out; refine st27 (r := Ms.zero) VZ2.out BW2.out hb6 rfl _ _ rfl rfl rfl ?_; intro w6 v6 l6; have V6 := hid v6; have L6 := hid l6; clear v6 l6 kill VZ2) | (have kill := VZ2.out; refine bd27 rfl rfl ?_) | (go_at_call 47; refine (number47 s0 _ HZ0.out).mono ?_; rintro e w4 ⟨rfl, rfl⟩; rw [HNB.out, HNV.out]))
                  refine bodyPost_ret (results_c1 Tryd.results36 _ _ rfl rfl V6.out) rfl ?_
                  exact td_no HE.out L6.out
                have HT := hid (HNX2.out.trans (show pR 0 s0 = true by unfold pR; rw [hnb, hv, decide_eq_true (show v ≤ 65535 by omega)]; rfl))
                have FC : Hid ((stepM m 0 [s0] (0 + 1)).cells = (stepM m 0 [s0] 0).cells.take 1 ++ [.int .u16 v] ++ (stepM m 0 [s0] 0).cells.drop (1 + 1)) := by unfold Hid; rw [← hv]; rfl
                have hwu : IntKind.u16.wrap v = v := by rw [IntKind.wrap_u16]; omega
                clear hnb hv
                go_wp2_with (first | (have kill := VQ.out; refine rv_store VQ.out BQ.out hb8 22 1 [.int .u16 v] (stepM m 0 [s0] (0 + 1)) (by simp) FC.out n22 (one1 rfl) rfl _ _ rfl rfl rfl rfl ?_; intro w3 v3 l3; have V3' := hid v3; have L3' := hid l3; clear v3 l3 kill VQ) | (go_at_call 47; refine (number47 s0 _ HZ0.out).mono ?_; rintro e w4 ⟨rfl, rfl⟩; rw [HNB.out, HNV.out]))
                go_roundw
                case rel => exact ⟨0 + 1, by omega, by go_num, HT.out, V3'.out, L3'.out⟩
                case measure => simp [intOf]
            · have HRR : Hid (rdR 0 [s0] = true) := by unfold Hid; rw [rdR_all (by omega)]; exact HAL.out
              have HS := hid (HSTEP.out [s0] HQS.out HRR.out)
              have HSA := hid (step_all (m := m) (f := 0) (qs := [s0]) HFT.out (by omega) rfl)
              have HOK2 := hid (ok_set HMO.out HFT.out HRR.out rfl)
              have HPZ2 : Hid ((setF m 0 [s0]).pan.size ≤ 9223372036854775807) := HMP.out
              have VQ1 : Hid (RV wr b8 (setF m 0 [s0])) := by have := VQ.out; rw [show (1 : Nat) = cntF 0 from rfl, HSA.out] at this; exact this
              clear VQ
              go_wp2
              go_roundw
              case rel => exact ⟨k + 1, t + 1, setF m 0 [s0], by omega, by go_num, by go_num, by omega, VQ1.out, BQ.out, HOK2.out, HPZ2.out, HS.out⟩
              case measure => simp [intOf]; omega
      · have hcf : (l[k].toNat : Int) = 115 := by rw [hcc, e]; rfl
        have HHC : Hid (hasC ⟨#[110, 114, 99, 100, 109]⟩ 115 = false) := by unfold Hid; decide
        rw [e] at HDC HFT
        clear hcc HFM e
        have VZ := hid (V1.out.below BR.out)
        have BW := hid (sq L1.out BR.out)
        by_cases hlen : n < t + 1
        · have HE : Hid (rd rdR (hasK kd) ps (Ms.of kd) = none) := HRD.out.trans (HEQ.out.trans (by rw [HDC.out]; exact rd_len (by rw [HPD.out]; show n - t < 1; omega)))
          go_wp2_with (first | (have kill := VZ.out; refine st27 (r := Ms.zero) VZ.out BW.out hb6 rfl _ _ rfl rfl rfl ?_; intro w6 v6 l6; have V6 := hid v6; have L6 := hid l6; clear v6 l6 kill VZ) | (have kill := VZ.out; refine bd27 rfl rfl ?_) | (go_at_call 28; refine (has28 ⟨#[110, 114, 99, 100, 109]⟩ 115 _ (by decide)).mono ?_; rintro e w4 ⟨rfl, rfl⟩; rw [HHC.out]))
          refine bodyPost_ret (results_c1 Tryd.results36 _ _ rfl rfl V6.out) rfl ?_
          exact td_no HE.out L6.out
        · have hlen2 : t + 1 ≤ n := by omega
          have HQS : Hid ((ps.drop t).take 1 = [ps.getD t ⟨#[]⟩]) := parts1 (by rw [HPL.out]; omega)
          have HNX : Hid ((ps.drop t).drop 1 = ps.drop (t + 1)) := List.drop_drop
          have HSTEP : Hid (∀ qs, (ps.drop t).take 1 = qs → rdR 1 qs = true → RD = rd rdR (H.drop (k + 1)) (ps.drop (t + 1)) (setF m 1 qs)) := fun qs hqs hr => by
            rw [HEQ.out, HDC.out, rd_ok (by rw [HPD.out]; show ¬ n - t < 1; omega) (by rw [show cntF 1 = 1 from rfl, hqs]; exact hr), show cntF 1 = 1 from rfl, hqs, HNX.out]
          have HFAIL : Hid (∀ qs, (ps.drop t).take 1 = qs → rdR 1 qs = false → rd rdR (hasK kd) ps (Ms.of kd) = none) := fun qs hqs hr => by
            rw [HRD.out, HEQ.out, HDC.out]; exact rd_bad (by rw [show cntF 1 = 1 from rfl, hqs]; exact hr)
          obtain ⟨b0, o0, hao0, hc0⟩ := HG.out.cell t (by omega)
          subst hao0
          have HZ0 := hid (getD_txt HTX.out t)
          generalize ps.getD t ⟨#[]⟩ = s0 at *
          have HCC0 : Hid (∀ w', Below w1.heap.size w1 w' → w'.cell? ⟨b0, o0 + t, none⟩ = some (.string s0)) := fun w' h => by
            have hlo := World.block_lt_of_cell? w _ hc0
            have hsz := L1.out.size
            rw [(sq L1.out h).cell (p := ⟨b0, o0 + t, none⟩) hlo]; exact hc0
          clear hc0
          go_wp2_with (first | (go_at_call 28; refine (has28 ⟨#[110, 114, 99, 100, 109]⟩ 115 _ (by decide)).mono ?_; rintro e w4 ⟨rfl, rfl⟩; rw [HHC.out]))
          generalize wr = wa at *
          go_loopw [12] (fun i wr => ∃ (j : Nat), j ≤ 1 ∧ i = .int .i64 (j : Int) ∧ (([s0] : List ByteArray).take j).all (pR 1) = true ∧ RV wr b8 (stepM m 1 [s0] j) ∧ Below w1.heap.size w1 wr) (fun i _ => 1 - (intOf i).toNat)
          case atStart => exact ⟨0, by omega, rfl, rfl, by rw [step_none [s0] HFT.out (by omega)]; exact VR.out, BR.out⟩
          case round =>
            obtain ⟨j, hj, rfl, hall, hv, hb⟩ := hrel
            have VQ := hid hv
            have BQ := hid hb
            have HAL := hid hall
            have VZ2 := hid (V1.out.below hb)
            have BW2 := hid (sq L1.out hb)
            clear hv hb hall VR VZ BW
            have h0q : j = 0 ∨ j = 1 := by omega
            rcases h0q with rfl | rfl
            · have hcx := HCC0.out wr BQ.out
              have HNX2 : Hid ((([s0] : List ByteArray).take (0 + 1)).all (pR 1) = pR 1 s0) := by unfold Hid; rw [all_snocB _ _ _ (by simp), HAL.out, Bool.true_and]; rfl
              have HBAD : Hid (pR 1 s0 = false → rd rdR (hasK kd) ps (Ms.of kd) = none) := fun h => HFAIL.out [s0] HQS.out (by rw [rdR_all (by omega)]; exact all_moreB (HNX2.out.trans h))
              cases hnb : numB10 s0
              · have HNB := hid hnb
                have HE := hid (HBAD.out (pR_no hnb))
                clear hnb
                go_wp2_with (first | (have kill := VZ2.out; refine st27 (r := Ms.zero) VZ2.out BW2.out hb6 rfl _ _ rfl rfl rfl ?_; intro w6 v6 l6; have V6 := hid v6; have L6 := hid l6; clear v6 l6 kill VZ2) | (have kill := VZ2.out; refine bd27 rfl rfl ?_) | (go_at_call 47; refine (number47 s0 _ HZ0.out).mono ?_; rintro e w4 ⟨rfl, rfl⟩; rw [HNB.out]))
                refine bodyPost_ret (results_c1 Tryd.results36 _ _ rfl rfl V6.out) rfl ?_
                exact td_no HE.out L6.out
              · have HNB := hid hnb
                have HNV := hid (nV10_yes hnb)
                obtain ⟨v, hv⟩ : ∃ v, numV s0 = v := ⟨_, rfl⟩
                rw [hv] at HNV
                have hv0 : 0 ≤ v := by rw [← hv]; exact numV_pos s0
                have HVV := hid hv
                by_cases hlim : 999999 < v
                · have HE := hid (HBAD.out (by unfold pR; rw [hnb, hv, decide_eq_false (show ¬ v ≤ 999999 by omega)]; rfl))
                  clear hnb hv
                  go_wp2_with (first | (have kill := VZ2.out; refine st27 (r := Ms.zero) VZ2.out BW2.out hb6 rfl _ _ rfl rfl rfl ?_; intro w6 v6 l6; have V6 := hid v6; have L6 := hid l6; clear v6 l6 kill VZ2) | (have kill := VZ2.out; refine bd27 rfl rfl ?_) | (go_at_call 47; refine (number47 s0 _ HZ0.out).mono ?_; rintro e w4 ⟨rfl, rfl⟩; rw [HNB.out, HNV.out]))
                  refine bodyPost_ret (results_c1 Tryd.results36 _ _ rfl rfl V6.out) rfl ?_
                  exact td_no HE.out L6.out
                have HT := hid (HNX2.out.trans (show pR 1 s0 = true by unfold pR; rw [hnb, hv, decide_eq_true (show v ≤ 999999 by omega)]; rfl))
                have FC : Hid ((stepM m 1 [s0] (0 + 1)).cells = (stepM m 1 [s0] 0).cells.take 2 ++ [.int .u32 v] ++ (stepM m 1 [s0] 0).cells.drop (2 + 1)) := by unfold Hid; rw [← hv]; rfl
                have hwu : IntKind.u32.wrap v = v := by rw [IntKind.wrap_u32]; omega
                clear hnb hv
                go_wp2_with (first | (have kill := VQ.out; refine rv_store VQ.out BQ.out hb8 23 2 [.int .u32 v] (stepM m 1 [s0] (0 + 1)) (by simp) FC.out n23 (one1 rfl) rfl _ _ rfl rfl rfl rfl ?_; intro w3 v3 l3; have V3' := hid v3; have L3' := hid l3; clear v3 l3 kill VQ) | (go_at_call 47; refine (number47 s0 _ HZ0.out).mono ?_; rintro e w4 ⟨rfl, rfl⟩; rw [HNB.out, HNV.out]))
                go_roundw
                case rel => exact ⟨0 + 1, by omega, by go_num, HT.out, V3'.out, L3'.out⟩
                case measure => simp [intOf]
            · have HRR : Hid (rdR 1 [s0] = true) := by unfold Hid; rw [rdR_all (by omega)]; exact HAL.out
              have HS := hid (HSTEP.out [s0] HQS.out HRR.out)
              have HSA := hid (step_all (m := m) (f := 1) (qs := [s0]) HFT.out (by omega) rfl)
              have HOK2 := hid (ok_set HMO.out HFT.out HRR.out rfl)
              have HPZ2 : Hid ((setF m 1 [s0]).pan.size ≤ 9223372036854775807) := HMP.out
              have VQ1 : Hid (RV wr b8 (setF m 1 [s0])) := by have := VQ.out; rw [show (1 : Nat) = cntF 1 from rfl, HSA.out] at this; exact this
              clear VQ
              go_wp2
              go_roundw
              case rel => exact ⟨k + 1, t + 1, setF m 1 [s0], by omega, by go_num, by go_num, by omega, VQ1.out, BQ.out, HOK2.out, HPZ2.out, HS.out⟩
              case measure => simp [intOf]; omega
      · have hcf : (l[k].toNat : Int) = 112 := by rw [hcc, e]; rfl
        have HHC : Hid (hasC ⟨#[110, 114, 99, 100, 109]⟩ 112 = false) := by unfold Hid; decide
        rw [e] at HDC HFT
        clear hcc HFM e
        have VZ := hid (V1.out.below BR.out)
        have BW := hid (sq L1.out BR.out)
        by_cases hlen : n < t + 1
        · have HE : Hid (rd rdR (hasK kd) ps (Ms.of kd) = none) := HRD.out.trans (HEQ.out.trans (by rw [HDC.out]; exact rd_len (by rw [HPD.out]; show n - t < 1; omega)))
          go_wp2_with (first | (have kill := VZ.out; refine st27 (r := Ms.zero) VZ.out BW.out hb6 rfl _ _ rfl rfl rfl ?_; intro w6 v6 l6; have V6 := hid v6; have L6 := hid l6; clear v6 l6 kill VZ) | (have kill := VZ.out; refine bd27 rfl rfl ?_) | (go_at_call 28; refine (has28 ⟨#[110, 114, 99, 100, 109]⟩ 112 _ (by decide)).mono ?_; rintro e w4 ⟨rfl, rfl⟩; rw [HHC.out]))
          refine bodyPost_ret (results_c1 Tryd.results36 _ _ rfl rfl V6.out) rfl ?_
          exact td_no HE.out L6.out
        · have hlen2 : t + 1 ≤ n := by omega
          have HQS : Hid ((ps.drop t).take 1 = [ps.getD t ⟨#[]⟩]) := parts1 (by rw [HPL.out]; omega)
          have HNX : Hid ((ps.drop t).drop 1 = ps.drop (t + 1)) := List.drop_drop
          have HSTEP : Hid (∀ qs, (ps.drop t).take 1 = qs → rdR 2 qs = true → RD = rd rdR (H.drop (k + 1)) (ps.drop (t + 1)) (setF m 2 qs)) := fun qs hqs hr => by
            rw [HEQ.out, HDC.out, rd_ok (by rw [HPD.out]; show ¬ n - t < 1; omega) (by rw [show cntF 2 = 1 from rfl, hqs]; exact hr), show cntF 2 = 1 from rfl, hqs, HNX.out]
          have HFAIL : Hid (∀ qs, (ps.drop t).take 1 = qs → rdR 2 qs = false → rd rdR (hasK kd) ps (Ms.of kd) = none) := fun qs hqs hr => by
            rw [HRD.out, HEQ.out, HDC.out]; exact rd_bad (by rw [show cntF 2 = 1 from rfl, hqs]; exact hr)
          obtain ⟨b0, o0, hao0, hc0⟩ := HG.out.cell t (by omega)
          subst hao0
          have HZ0 := hid (getD_txt HTX.out t)
          generalize ps.getD t ⟨#[]⟩ = s0 at *
          have HCC0 : Hid (∀ w', Below w1.heap.size w1 w' → w'.cell? ⟨b0, o0 + t, none⟩ = some (.string s0)) := fun w' h => by
            have hlo := World.block_lt_of_cell? w _ hc0
            have hsz := L1.out.size
            rw [(sq L1.out h).cell (p := ⟨b0, o0 + t, none⟩) hlo]; exact hc0
          clear hc0
          go_wp2_with (first | (go_at_call 28; refine (has28 ⟨#[110, 114, 99, 100, 109]⟩ 112 _ (by decide)).mono ?_; rintro e w4 ⟨rfl, rfl⟩; rw [HHC.out]))
          generalize wr = wa at *
          go_loopw [12] (fun i wr => ∃ (j : Nat), j ≤ 1 ∧ i = .int .i64 (j : Int) ∧ RV wr b8 (if j = 0 then m else { m with pan := s0 }) ∧ Below w1.heap.size w1 wr) (fun i _ => 1 - (intOf i).toNat)
          case atStart => exact ⟨0, by omega, rfl, VR.out, BR.out⟩
          case round =>
            obtain ⟨j, hj, rfl, hv, hb⟩ := hrel
            have VQ := hid hv
            have BQ := hid hb
            clear hv hb VR VZ BW
            have h01 : j = 0 ∨ j = 1 := by omega
            rcases h01 with rfl | rfl
            · have VQ0 : Hid (RV wr b8 m) := VQ.out
              have hcx := HCC0.out wr BQ.out
              have FC : Hid (({ m with pan := s0 } : Ms).cells = m.cells.take 3 ++ [.string s0] ++ m.cells.drop (3 + 1)) := rfl
              have hb8' : w1.heap.size ≤ b8 := hb8
              clear VQ
              go_wp2_with (first | (go_at_call 47; refine (number47 s0 _ HZ0.out).mono ?_; rintro e w4 ⟨rfl, rfl⟩) | (have kill := VQ0.out; refine rv_store VQ0.out BQ.out hb8' 9 3 [.string s0] { m with pan := s0 } (by simp) FC.out n9 (one1 rfl) rfl _ _ rfl rfl rfl rfl ?_; intro w3 v3 l3; have V3' := hid v3; have L3' := hid l3; clear v3 l3 kill VQ0))
              go_roundw
              case rel => exact ⟨1, by omega, by go_num, V3'.out, L3'.out⟩
              case measure => simp [intOf]
            · have VQ1 : Hid (RV wr b8 { m with pan := s0 }) := VQ.out
              have HS := hid (HSTEP.out [s0] HQS.out rfl)
              go_wp2
              go_roundw
              case rel => exact ⟨k + 1, t + 1, { m with pan := s0 }, by omega, by go_num, by go_num, by omega, VQ1.out, BQ.out, HMO.out, HZ0.out, HS.out⟩
              case measure => simp [intOf]; omega
      · have hcf : (l[k].toNat : Int) = 97 := by rw [hcc, e]; rfl
        have HHC : Hid (hasC ⟨#[110, 114, 99, 100, 109]⟩ 97 = false) := by unfold Hid; decide
        rw [e] at HDC HFT
        clear hcc HFM e
        have VZ := hid (V1.out.below BR.out)
        have BW := hid (sq L1.out BR.out)
        by_cases hlen : n < t + 1
        · have HE : Hid (rd rdR (hasK kd) ps (Ms.of kd) = none) := HRD.out.trans (HEQ.out.trans (by rw [HDC.out]; exact rd_len (by rw [HPD.out]; show n - t < 1; omega)))
          go_wp2_with (first | (have kill := VZ.out; refine st27 (r := Ms.zero) VZ.out BW.out hb6 rfl _ _ rfl rfl rfl ?_; intro w6 v6 l6; have V6 := hid v6; have L6 := hid l6; clear v6 l6 kill VZ) | (have kill := VZ.out; refine bd27 rfl rfl ?_) | (go_at_call 28; refine (has28 ⟨#[110, 114, 99, 100, 109]⟩ 97 _ (by decide)).mono ?_; rintro e w4 ⟨rfl, rfl⟩; rw [HHC.out]))
          refine bodyPost_ret (results_c1 Tryd.results36 _ _ rfl rfl V6.out) rfl ?_
          exact td_no HE.out L6.out
        · have hlen2 : t + 1 ≤ n := by omega
          have HQS : Hid ((ps.drop t).take 1 = [ps.getD t ⟨#[]⟩]) := parts1 (by rw [HPL.out]; omega)
          have HNX : Hid ((ps.drop t).drop 1 = ps.drop (t + 1)) := List.drop_drop
          have HSTEP : Hid (∀ qs, (ps.drop t).take 1 = qs → rdR 3 qs = true → RD = rd rdR (H.drop (k + 1)) (ps.drop (t + 1)) (setF m 3 qs)) := fun qs hqs hr => by
            rw [HEQ.out, HDC.out, rd_ok (by rw [HPD.out]; show ¬ n - t < 1; omega) (by rw [show cntF 3 = 1 from rfl, hqs]; exact hr), show cntF 3 = 1 from rfl, hqs, HNX.out]
          have HFAIL : Hid (∀ qs, (ps.drop t).take 1 = qs → rdR 3 qs = false → rd rdR (hasK kd) ps (Ms.of kd) = none) := fun qs hqs hr => by
            rw [HRD.out, HEQ.out, HDC.out]; exact rd_bad (by rw [show cntF 3 = 1 from rfl, hqs]; exact hr)
          obtain ⟨b0, o0, hao0, hc0⟩ := HG.out.cell t (by omega)
          subst hao0
          have HZ0 := hid (getD_txt HTX.out t)
          generalize ps.getD t ⟨#[]⟩ = s0 at *
          have HCC0 : Hid (∀ w', Below w1.heap.size w1 w' → w'.cell? ⟨b0, o0 + t, none⟩ = some (.string s0)) := fun w' h => by
            have hlo := World.block_lt_of_cell? w _ hc0
            have hsz := L1.out.size
            rw [(sq L1.out h).cell (p := ⟨b0, o0 + t, none⟩) hlo]; exact hc0
          clear hc0
          go_wp2_with (first | (go_at_call 28; refine (has28 ⟨#[110, 114, 99, 100, 109]⟩ 97 _ (by decide)).mono ?_; rintro e w4 ⟨rfl, rfl⟩; rw [HHC.out]))
          generalize wr = wa at *
          go_loopw [12] (fun i wr => ∃ (j : Nat), j ≤ 1 ∧ i = .int .i64 (j : Int) ∧ (([s0] : List ByteArray).take j).all (pR 3) = true ∧ RV wr b8 (stepM m 3 [s0] j) ∧ Below w1.heap.size w1 wr) (fun i _ => 1 - (intOf i).toNat)
          case atStart => exact ⟨0, by omega, rfl, rfl, by rw [step_none [s0] HFT.out (by omega)]; exact VR.out, BR.out⟩
          case round =>
            obtain ⟨j, hj, rfl, hall, hv, hb⟩ := hrel
            have VQ := hid hv
            have BQ := hid hb
            have HAL := hid hall
            have VZ2 := hid (V1.out.below hb)
            have BW2 := hid (sq L1.out hb)
            clear hv hb hall VR VZ BW
            have h0q : j = 0 ∨ j = 1 := by omega
            rcases h0q with rfl | rfl
            · have hcx := HCC0.out wr BQ.out
              have HNX2 : Hid ((([s0] : List ByteArray).take (0 + 1)).all (pR 3) = pR 3 s0) := by unfold Hid; rw [all_snocB _ _ _ (by simp), HAL.out, Bool.true_and]; rfl
              have HBAD : Hid (pR 3 s0 = false → rd rdR (hasK kd) ps (Ms.of kd) = none) := fun h => HFAIL.out [s0] HQS.out (by rw [rdR_all (by omega)]; exact all_moreB (HNX2.out.trans h))
              cases hnb : numB10 s0
              · have HNB := hid hnb
                have HE := hid (HBAD.out (pR_no hnb))
                clear hnb
                go_wp2_with (first | (have kill := VZ2.out; refine st27 (r := Ms.zero) VZ2.out BW2.out hb6 rfl _ _ rfl rfl rfl ?_; intro w6 v6 l6; have V6 := hid v6; have L6 := hid l6; clear v6 l6 kill VZ2) | (have kill := VZ2.out; refine bd27 rfl rfl ?_) | (go_at_call 47; refine (number47 s0 _ HZ0.out).mono ?_; rintro e w4 ⟨rfl, rfl⟩; rw [HNB.out]))
                refine bodyPost_ret (results_c1 Tryd.results36 _ _ rfl rfl V6.out) rfl ?_
                exact td_no HE.out L6.out
              · have HNB := hid hnb
                have HNV := hid (nV10_yes hnb)
                obtain ⟨v, hv⟩ : ∃ v, numV s0 = v := ⟨_, rfl⟩
                rw [hv] at HNV
                have hv0 : 0 ≤ v := by rw [← hv]; exact numV_pos s0
                have HVV := hid hv
                have HT := hid (HNX2.out.trans (show pR 3 s0 = true by unfold pR; rw [hnb]; rfl))
                have FC : Hid ((stepM m 3 [s0] (0 + 1)).cells = (stepM m 3 [s0] 0).cells.take 4 ++ [.int .i64 v] ++ (stepM m 3 [s0] 0).cells.drop (4 + 1)) := by unfold Hid; rw [← hv]; rfl
                clear hnb hv
                go_wp2_with (first | (have kill := VQ.out; refine rv_store VQ.out BQ.out hb8 2 4 [.int .i64 v] (stepM m 3 [s0] (0 + 1)) (by simp) FC.out n2 (one1 rfl) rfl _ _ rfl rfl rfl rfl ?_; intro w3 v3 l3; have V3' := hid v3; have L3' := hid l3; clear v3 l3 kill VQ) | (go_at_call 47; refine (number47 s0 _ HZ0.out).mono ?_; rintro e w4 ⟨rfl, rfl⟩; rw [HNB.out, HNV.out]))
                go_roundw
                case rel => exact ⟨0 + 1, by omega, by go_num, HT.out, V3'.out, L3'.out⟩
                case measure => simp [intOf]
            · have HRR : Hid (rdR 3 [s0] = true) := by unfold Hid; rw [rdR_all (by omega)]; exact HAL.out
              have HS := hid (HSTEP.out [s0] HQS.out HRR.out)
              have HSA := hid (step_all (m := m) (f := 3) (qs := [s0]) HFT.out (by omega) rfl)
              have HOK2 := hid (ok_set HMO.out HFT.out HRR.out rfl)
              have HPZ2 : Hid ((setF m 3 [s0]).pan.size ≤ 9223372036854775807) := HMP.out
              have VQ1 : Hid (RV wr b8 (setF m 3 [s0])) := by have := VQ.out; rw [show (1 : Nat) = cntF 3 from rfl, HSA.out] at this; exact this
              clear VQ
              go_wp2
              go_roundw
              case rel => exact ⟨k + 1, t + 1, setF m 3 [s0], by omega, by go_num, by go_num, by omega, VQ1.out, BQ.out, HOK2.out, HPZ2.out, HS.out⟩
              case measure => simp [intOf]; omega
      · have hcf : (l[k].toNat : Int) = 110 := by rw [hcc, e]; rfl
        have HHC : Hid (hasC ⟨#[110, 114, 99, 100, 109]⟩ 110 = true) := by unfold Hid; decide
        rw [e] at HDC HFT
        clear hcc HFM e
        have VZ := hid (V1.out.below BR.out)
        have BW := hid (sq L1.out BR.out)
        by_cases hlen : n < t + 4
        · have HE : Hid (rd rdR (hasK kd) ps (Ms.of kd) = none) := HRD.out.trans (HEQ.out.trans (by rw [HDC.out]; exact rd_len (by rw [HPD.out]; show n - t < 4; omega)))
          go_wp2_with (first | (have kill := VZ.out; refine st27 (r := Ms.zero) VZ.out BW.out hb6 rfl _ _ rfl rfl rfl ?_; intro w6 v6 l6; have V6 := hid v6; have L6 := hid l6; clear v6 l6 kill VZ) | (have kill := VZ.out; refine bd27 rfl rfl ?_) | (go_at_call 28; refine (has28 ⟨#[110, 114, 99, 100, 109]⟩ 110 _ (by decide)).mono ?_; rintro e w4 ⟨rfl, rfl⟩; rw [HHC.out]))
          refine bodyPost_ret (results_c1 Tryd.results36 _ _ rfl rfl V6.out) rfl ?_
          exact td_no HE.out L6.out
        · have hlen2 : t + 4 ≤ n := by omega
          have HQS : Hid ((ps.drop t).take 4 = [ps.getD t ⟨#[]⟩, ps.getD (t + 1) ⟨#[]⟩, ps.getD (t + 2) ⟨#[]⟩, ps.getD (t + 3) ⟨#[]⟩]) := parts4 (by rw [HPL.out]; omega)
          have HNX : Hid ((ps.drop t).drop 4 = ps.drop (t + 4)) := List.drop_drop
          have HSTEP : Hid (∀ qs, (ps.drop t).take 4 = qs → rdR 4 qs = true → RD = rd rdR (H.drop (k + 1)) (ps.drop (t + 4)) (setF m 4 qs)) := fun qs hqs hr => by
            rw [HEQ.out, HDC.out, rd_ok (by rw [HPD.out]; show ¬ n - t < 4; omega) (by rw [show cntF 4 = 4 from rfl, hqs]; exact hr), show cntF 4 = 4 from rfl, hqs, HNX.out]
          have HFAIL : Hid (∀ qs, (ps.drop t).take 4 = qs → rdR 4 qs = false → rd rdR (hasK kd) ps (Ms.of kd) = none) := fun qs hqs hr => by
            rw [HRD.out, HEQ.out, HDC.out]; exact rd_bad (by rw [show cntF 4 = 4 from rfl, hqs]; exact hr)
          obtain ⟨b0, o0, hao0, hc0⟩ := HG.out.cell t (by omega)
          subst hao0
          have HZ0 := hid (getD_txt HTX.out t)
          generalize ps.getD t ⟨#[]⟩ = s0 at *
          obtain ⟨b1, o1, hao1, hc1⟩ := HG.out.cell (t + 1) (by omega)
          cases hao1
          have HZ1 := hid (getD_txt HTX.out (t + 1))
          generalize ps.getD (t + 1) ⟨#[]⟩ = s1 at *
          obtain ⟨b2, o2, hao2, hc2⟩ := HG.out.cell (t + 2) (by omega)
          cases hao2
          have HZ2 := hid (getD_txt HTX.out (t + 2))
          generalize ps.getD (t + 2) ⟨#[]⟩ = s2 at *
          obtain ⟨b3, o3, hao3, hc3⟩ := HG.out.cell (t + 3) (by omega)
          cases hao3
          have HZ3 := hid (getD_txt HTX.out (t + 3))
          generalize ps.getD (t + 3) ⟨#[]⟩ = s3 at *
          have HCC0 : Hid (∀ w', Below w1.heap.size w1 w' → w'.cell? ⟨b0, o0 + t, none⟩ = some (.string s0)) := fun w' h => by
            have hlo := World.block_lt_of_cell? w _ hc0
            have hsz := L1.out.size
            rw [(sq L1.out h).cell (p := ⟨b0, o0 + t, none⟩) hlo]; exact hc0
          have HCC1 : Hid (∀ w', Below w1.heap.size w1 w' → w'.cell? ⟨b0, o0 + (t + 1), none⟩ = some (.string s1)) := fun w' h => by
            have hlo := World.block_lt_of_cell? w _ hc1
            have hsz := L1.out.size
            rw [(sq L1.out h).cell (p := ⟨b0, o0 + (t + 1), none⟩) hlo]; exact hc1
          have HCC2 : Hid (∀ w', Below w1.heap.size w1 w' → w'.cell? ⟨b0, o0 + (t + 2), none⟩ = some (.string s2)) := fun w' h => by
            have hlo := World.block_lt_of_cell? w _ hc2
            have hsz := L1.out.size
            rw [(sq L1.out h).cell (p := ⟨b0, o0 + (t + 2), none⟩) hlo]; exact hc2
          have HCC3 : Hid (∀ w', Below w1.heap.size w1 w' → w'.cell? ⟨b0, o0 + (t + 3), none⟩ = some (.string s3)) := fun w' h => by
            have hlo := World.block_lt_of_cell? w _ hc3
            have hsz := L1.out.size
            rw [(sq L1.out h).cell (p := ⟨b0, o0 + (t + 3), none⟩) hlo]; exact hc3
          clear hc0 hc1 hc2 hc3
          go_wp2_with (first | (go_at_call 28; refine (has28 ⟨#[110, 114, 99, 100, 109]⟩ 110 _ (by decide)).mono ?_; rintro e w4 ⟨rfl, rfl⟩; rw [HHC.out]))
          generalize wr = wa at *
          go_loopw [12] (fun i wr => ∃ (j : Nat), j ≤ 4 ∧ i = .int .i64 (j : Int) ∧ (([s0, s1, s2, s3] : List ByteArray).take j).all (pR 4) = true ∧ RV wr b8 (stepM m 4 [s0, s1, s2, s3] j) ∧ Below w1.heap.size w1 wr) (fun i _ => 4 - (intOf i).toNat)
          case atStart => exact ⟨0, by omega, rfl, rfl, by rw [step_none [s0, s1, s2, s3] HFT.out (by omega)]; exact VR.out, BR.out⟩
          case round =>
            obtain ⟨j, hj, rfl, hall, hv, hb⟩ := hrel
            have VQ := hid hv
            have BQ := hid hb
            have HAL := hid hall
            have VZ2 := hid (V1.out.below hb)
            have BW2 := hid (sq L1.out hb)
            clear hv hb hall VR VZ BW
            have h0q : j = 0 ∨ j = 1 ∨ j = 2 ∨ j = 3 ∨ j = 4 := by omega
            rcases h0q with rfl | rfl | rfl | rfl | rfl
            · have hcx := HCC0.out wr BQ.out
              have HNX2 : Hid ((([s0, s1, s2, s3] : List ByteArray).take (0 + 1)).all (pR 4) = pR 4 s0) := by unfold Hid; rw [all_snocB _ _ _ (by simp), HAL.out, Bool.true_and]; rfl
              have HBAD : Hid (pR 4 s0 = false → rd rdR (hasK kd) ps (Ms.of kd) = none) := fun h => HFAIL.out [s0, s1, s2, s3] HQS.out (by rw [rdR_all (by omega)]; exact all_moreB (HNX2.out.trans h))
              cases hnb : numB10 s0
              · have HNB := hid hnb
                have HE := hid (HBAD.out (pR_no hnb))
                clear hnb
                go_wp2_with (first | (have kill := VZ2.out; refine st27 (r := Ms.zero) VZ2.out BW2.out hb6 rfl _ _ rfl rfl rfl ?_; intro w6 v6 l6; have V6 := hid v6; have L6 := hid l6; clear v6 l6 kill VZ2) | (have kill := VZ2.out; refine bd27 rfl rfl ?_) | (go_at_call 47; refine (number47 s0 _ HZ0.out).mono ?_; rintro e w4 ⟨rfl, rfl⟩; rw [HNB.out]))
                refine bodyPost_ret (results_c1 Tryd.results36 _ _ rfl rfl V6.out) rfl ?_
                exact td_no HE.out L6.out
              · have HNB := hid hnb
                have HNV := hid (nV10_yes hnb)
                obtain ⟨v, hv⟩ : ∃ v, numV s0 = v := ⟨_, rfl⟩
                rw [hv] at HNV
                have hv0 : 0 ≤ v := by rw [← hv]; exact numV_pos s0
                have HVV := hid hv
                have HT := hid (HNX2.out.trans (show pR 4 s0 = true by unfold pR; rw [hnb]; rfl))
                have FC : Hid ((stepM m 4 [s0, s1, s2, s3] (0 + 1)).cells = (stepM m 4 [s0, s1, s2, s3] 0).cells.take 5 ++ [.int .i64 v] ++ (stepM m 4 [s0, s1, s2, s3] 0).cells.drop (5 + 1)) := by unfold Hid; rw [← hv]; rfl
                have HNN : Hid (∀ w, Calls Tryd.prog 23 #[.pointer (some ⟨b8, 0, none⟩), .int .u8 110] w fun e w' => e = .returned (.tuple #[.pointer (some ⟨b8, 5, none⟩), .int .i64 (mostF 4)]) ∧ w = w') := fun w => notes23 b8 110 w (by omega)
                clear hnb hv
                go_wp2_with (first | (have kill := VQ.out; refine rv_store VQ.out BQ.out hb8 3 5 [.int .i64 v] (stepM m 4 [s0, s1, s2, s3] (0 + 1)) (by simp) FC.out n3 (one1 rfl) rfl _ _ rfl rfl rfl rfl ?_; intro w3 v3 l3; have V3' := hid v3; have L3' := hid l3; clear v3 l3 kill VQ) | (go_at_call 47; refine (number47 s0 _ HZ0.out).mono ?_; rintro e w4 ⟨rfl, rfl⟩; rw [HNB.out, HNV.out]) | (go_at_call 23; refine (HNN.out _).mono ?_; rintro e w3 ⟨rfl, rfl⟩))
                go_roundw
                case rel => exact ⟨0 + 1, by omega, by go_num, HT.out, V3'.out, L3'.out⟩
                case measure => simp [intOf]
            · have hcx := HCC1.out wr BQ.out
              obtain ⟨tj, htj⟩ : ∃ x, t + 1 = x := ⟨_, rfl⟩
              rw [htj] at hcx
              have htj' : (t : Int) + 1 = (tj : Int) := by omega
              have htl : tj < n := by omega
              clear htj
              have HNX2 : Hid ((([s0, s1, s2, s3] : List ByteArray).take (1 + 1)).all (pR 4) = pR 4 s1) := by unfold Hid; rw [all_snocB _ _ _ (by simp), HAL.out, Bool.true_and]; rfl
              have HBAD : Hid (pR 4 s1 = false → rd rdR (hasK kd) ps (Ms.of kd) = none) := fun h => HFAIL.out [s0, s1, s2, s3] HQS.out (by rw [rdR_all (by omega)]; exact all_moreB (HNX2.out.trans h))
              cases hnb : numB10 s1
              · have HNB := hid hnb
                have HE := hid (HBAD.out (pR_no hnb))
                clear hnb
                go_wp2_with (first | (have kill := VZ2.out; refine st27 (r := Ms.zero) VZ2.out BW2.out hb6 rfl _ _ rfl rfl rfl ?_; intro w6 v6 l6; have V6 := hid v6; have L6 := hid l6; clear v6 l6 kill VZ2) | (have kill := VZ2.out; refine bd27 rfl rfl ?_) | (go_at_call 47; refine (number47 s1 _ HZ1.out).mono ?_; rintro e w4 ⟨rfl, rfl⟩; rw [HNB.out]))
                refine bodyPost_ret (results_c1 Tryd.results36 _ _ rfl rfl V6.out) rfl ?_
                exact td_no HE.out L6.out
              · have HNB := hid hnb
                have HNV := hid (nV10_yes hnb)
                obtain ⟨v, hv⟩ : ∃ v, numV s1 = v := ⟨_, rfl⟩
                rw [hv] at HNV
                have hv0 : 0 ≤ v := by rw [← hv]; exact numV_pos s1
                have HVV := hid hv
                have HT := hid (HNX2.out.trans (show pR 4 s1 = true by unfold pR; rw [hnb]; rfl))
                have FC : Hid ((stepM m 4 [s0, s1, s2, s3] (1 + 1)).cells = (stepM m 4 [s0, s1, s2, s3] 1).cells.take 6 ++ [.int .i64 v] ++ (stepM m 4 [s0, s1, s2, s3] 1).cells.drop (6 + 1)) := by unfold Hid; rw [← hv]; rfl
                have HNN : Hid (∀ w, Calls Tryd.prog 23 #[.pointer (some ⟨b8, 0, none⟩), .int .u8 110] w fun e w' => e = .returned (.tuple #[.pointer (some ⟨b8, 5, none⟩), .int .i64 (mostF 4)]) ∧ w = w') := fun w => notes23 b8 110 w (by omega)
                clear hnb hv
                go_wp2_with (first | (have kill := VQ.out; refine rv_store VQ.out BQ.out hb8 3 6 [.int .i64 v] (stepM m 4 [s0, s1, s2, s3] (1 + 1)) (by simp) FC.out n3 (one1 rfl) rfl _ _ rfl rfl rfl rfl ?_; intro w3 v3 l3; have V3' := hid v3; have L3' := hid l3; clear v3 l3 kill VQ) | (go_at_call 47; refine (number47 s1 _ HZ1.out).mono ?_; rintro e w4 ⟨rfl, rfl⟩; rw [HNB.out, HNV.out]) | (go_at_call 23; refine (HNN.out _).mono ?_; rintro e w3 ⟨rfl, rfl⟩))
                go_roundw
                case rel => exact ⟨1 + 1, by omega, by go_num, HT.out, V3'.out, L3'.out⟩
                case measure => simp [intOf]
            · have hcx := HCC2.out wr BQ.out
              obtain ⟨tj, htj⟩ : ∃ x, t + 2 = x := ⟨_, rfl⟩
              rw [htj] at hcx
              have htj' : (t : Int) + 2 = (tj : Int) := by omega
              have htl : tj < n := by omega
              clear htj
              have HNX2 : Hid ((([s0, s1, s2, s3] : List ByteArray).take (2 + 1)).all (pR 4) = pR 4 s2) := by unfold Hid; rw [all_snocB _ _ _ (by simp), HAL.out, Bool.true_and]; rfl
              have HBAD : Hid (pR 4 s2 = false → rd rdR (hasK kd) ps (Ms.of kd) = none) := fun h => HFAIL.out [s0, s1, s2, s3] HQS.out (by rw [rdR_all (by omega)]; exact all_moreB (HNX2.out.trans h))
              cases hnb : numB10 s2
              · have HNB := hid hnb
                have HE := hid (HBAD.out (pR_no hnb))
                clear hnb
                go_wp2_with (first | (have kill := VZ2.out; refine st27 (r := Ms.zero) VZ2.out BW2.out hb6 rfl _ _ rfl rfl rfl ?_; intro w6 v6 l6; have V6 := hid v6; have L6 := hid l6; clear v6 l6 kill VZ2) | (have kill := VZ2.out; refine bd27 rfl rfl ?_) | (go_at_call 47; refine (number47 s2 _ HZ2.out).mono ?_; rintro e w4 ⟨rfl, rfl⟩; rw [HNB.out]))
                refine bodyPost_ret (results_c1 Tryd.results36 _ _ rfl rfl V6.out) rfl ?_
                exact td_no HE.out L6.out
              · have HNB := hid hnb
                have HNV := hid (nV10_yes hnb)
                obtain ⟨v, hv⟩ : ∃ v, numV s2 = v := ⟨_, rfl⟩
                rw [hv] at HNV
                have hv0 : 0 ≤ v := by rw [← hv]; exact numV_pos s2
                have HVV := hid hv
                have HT := hid (HNX2.out.trans (show pR 4 s2 = true by unfold pR; rw [hnb]; rfl))
                have FC : Hid ((stepM m 4 [s0, s1, s2, s3] (2 + 1)).cells = (stepM m 4 [s0, s1, s2, s3] 2).cells.take 7 ++ [.int .i64 v] ++ (stepM m 4 [s0, s1, s2, s3] 2).cells.drop (7 + 1)) := by unfold Hid; rw [← hv]; rfl
                have HNN : Hid (∀ w, Calls Tryd.prog 23 #[.pointer (some ⟨b8, 0, none⟩), .int .u8 110] w fun e w' => e = .returned (.tuple #[.pointer (some ⟨b8, 5, none⟩), .int .i64 (mostF 4)]) ∧ w = w') := fun w => notes23 b8 110 w (by omega)
                clear hnb hv
                go_wp2_with (first | (have kill := VQ.out; refine rv_store VQ.out BQ.out hb8 3 7 [.int .i64 v] (stepM m 4 [s0, s1, s2, s3] (2 + 1)) (by simp) FC.out n3 (one1 rfl) rfl _ _ rfl rfl rfl rfl ?_; intro w3 v3 l3; have V3' := hid v3; have L3' := hid l3; clear v3 l3 kill VQ) | (go_at_call 47; refine (number47 s2 _ HZ2.out).mono ?_; rintro e w4 ⟨rfl, rfl⟩; rw [HNB.out, HNV.out]) | (go_at_call 23; refine (HNN.out _).mono ?_; rintro e w3 ⟨rfl, rfl⟩))
                go_roundw
                case rel => exact ⟨2 + 1, by omega, by go_num, HT.out, V3'.out, L3'.out⟩
                case measure => simp [intOf]
            · have hcx := HCC3.out wr BQ.out
              obtain ⟨tj, htj⟩ : ∃ x, t + 3 = x := ⟨_, rfl⟩
              rw [htj] at hcx
              have htj' : (t : Int) + 3 = (tj : Int) := by omega
              have htl : tj < n := by omega
              clear htj
              have HNX2 : Hid ((([s0, s1, s2, s3] : List ByteArray).take (3 + 1)).all (pR 4) = pR 4 s3) := by unfold Hid; rw [all_snocB _ _ _ (by simp), HAL.out, Bool.true_and]; rfl
              have HBAD : Hid (pR 4 s3 = false → rd rdR (hasK kd) ps (Ms.of kd) = none) := fun h => HFAIL.out [s0, s1, s2, s3] HQS.out (by rw [rdR_all (by omega)]; exact all_moreB (HNX2.out.trans h))
              cases hnb : numB10 s3
              · have HNB := hid hnb
                have HE := hid (HBAD.out (pR_no hnb))
                clear hnb
                go_wp2_with (first | (have kill := VZ2.out; refine st27 (r := Ms.zero) VZ2.out BW2.out hb6 rfl _ _ rfl rfl rfl ?_; intro w6 v6 l6; have V6 := hid v6; have L6 := hid l6; clear v6 l6 kill VZ2) | (have kill := VZ2.out; refine bd27 rfl rfl ?_) | (go_at_call 47; refine (number47 s3 _ HZ3.out).mono ?_; rintro e w4 ⟨rfl, rfl⟩; rw [HNB.out]))
                refine bodyPost_ret (results_c1 Tryd.results36 _ _ rfl rfl V6.out) rfl ?_
                exact td_no HE.out L6.out
              · have HNB := hid hnb
                have HNV := hid (nV10_yes hnb)
                obtain ⟨v, hv⟩ : ∃ v, numV s3 = v := ⟨_, rfl⟩
                rw [hv] at HNV
                have hv0 : 0 ≤ v := by rw [← hv]; exact numV_pos s3
                have HVV := hid hv
                have HT := hid (HNX2.out.trans (show pR 4 s3 = true by unfold pR; rw [hnb]; rfl))
                have FC : Hid ((stepM m 4 [s0, s1, s2, s3] (3 + 1)).cells = (stepM m 4 [s0, s1, s2, s3] 3).cells.take 8 ++ [.int .i64 v] ++ (stepM m 4 [s0, s1, s2, s3] 3).cells.drop (8 + 1)) := by unfold Hid; rw [← hv]; rfl
                have HNN : Hid (∀ w, Calls Tryd.prog 23 #[.pointer (some ⟨b8, 0, none⟩), .int .u8 110] w fun e w' => e = .returned (.tuple #[.pointer (some ⟨b8, 5, none⟩), .int .i64 (mostF 4)]) ∧ w = w') := fun w => notes23 b8 110 w (by omega)
                clear hnb hv
                go_wp2_with (first | (have kill := VQ.out; refine rv_store VQ.out BQ.out hb8 3 8 [.int .i64 v] (stepM m 4 [s0, s1, s2, s3] (3 + 1)) (by simp) FC.out n3 (one1 rfl) rfl _ _ rfl rfl rfl rfl ?_; intro w3 v3 l3; have V3' := hid v3; have L3' := hid l3; clear v3 l3 kill VQ) | (go_at_call 47; refine (number47 s3 _ HZ3.out).mono ?_; rintro e w4 ⟨rfl, rfl⟩; rw [HNB.out, HNV.out]) | (go_at_call 23; refine (HNN.out _).mono ?_; rintro e w3 ⟨rfl, rfl⟩))
                go_roundw
                case rel => exact ⟨3 + 1, by omega, by go_num, HT.out, V3'.out, L3'.out⟩
                case measure => simp [intOf]
            · have HRR : Hid (rdR 4 [s0, s1, s2, s3] = true) := by unfold Hid; rw [rdR_all (by omega)]; exact HAL.out
              have HS := hid (HSTEP.out [s0, s1, s2, s3] HQS.out HRR.out)
              have HSA := hid (step_all (m := m) (f := 4) (qs := [s0, s1, s2, s3]) HFT.out (by omega) rfl)
              have HOK2 := hid (ok_set HMO.out HFT.out HRR.out rfl)
              have HPZ2 : Hid ((setF m 4 [s0, s1, s2, s3]).pan.size ≤ 9223372036854775807) := HMP.out
              have VQ1 : Hid (RV wr b8 (setF m 4 [s0, s1, s2, s3])) := by have := VQ.out; rw [show (4 : Nat) = cntF 4 from rfl, HSA.out] at this; exact this
              clear VQ
              go_wp2
              go_roundw
              case rel => exact ⟨k + 1, t + 4, setF m 4 [s0, s1, s2, s3], by omega, by go_num, by go_num, by omega, VQ1.out, BQ.out, HOK2.out, HPZ2.out, HS.out⟩
              case measure => simp [intOf]; omega
      · have hcf : (l[k].toNat : Int) = 114 := by rw [hcc, e]; rfl
        have HHC : Hid (hasC ⟨#[110, 114, 99, 100, 109]⟩ 114 = true) := by unfold Hid; decide
        rw [e] at HDC HFT
        clear hcc HFM e
        have VZ := hid (V1.out.below BR.out)
        have BW := hid (sq L1.out BR.out)
        by_cases hlen : n < t + 4
        · have HE : Hid (rd rdR (hasK kd) ps (Ms.of kd) = none) := HRD.out.trans (HEQ.out.trans (by rw [HDC.out]; exact rd_len (by rw [HPD.out]; show n - t < 4; omega)))
          go_wp2_with (first | (have kill := VZ.out; refine st27 (r := Ms.zero) VZ.out BW.out hb6 rfl _ _ rfl rfl rfl ?_; intro w6 v6 l6; have V6 := hid v6; have L6 := hid l6; clear v6 l6 kill VZ) | (have kill := VZ.out; refine bd27 rfl rfl ?_) | (go_at_call 28; refine (has28 ⟨#[110, 114, 99, 100, 109]⟩ 114 _ (by decide)).mono ?_; rintro e w4 ⟨rfl, rfl⟩; rw [HHC.out]))
          refine bodyPost_ret (results_c1 Tryd.results36 _ _ rfl rfl V6.out) rfl ?_
          exact td_no HE.out L6.out
        · have hlen2 : t + 4 ≤ n := by omega
          have HQS : Hid ((ps.drop t).take 4 = [ps.getD t ⟨#[]⟩, ps.getD (t + 1) ⟨#[]⟩, ps.getD (t + 2) ⟨#[]⟩, ps.getD (t + 3) ⟨#[]⟩]) := parts4 (by rw [HPL.out]; omega)
          have HNX : Hid ((ps.drop t).drop 4 = ps.drop (t + 4)) := List.drop_drop
          have HSTEP : Hid (∀ qs, (ps.drop t).take 4 = qs → rdR 5 qs = true → RD = rd rdR (H.drop (k + 1)) (ps.drop (t + 4)) (setF m 5 qs)) := fun qs hqs hr => by
            rw [HEQ.out, HDC.out, rd_ok (by rw [HPD.out]; show ¬ n - t < 4; omega) (by rw [show cntF 5 = 4 from rfl, hqs]; exact hr), show cntF 5 = 4 from rfl, hqs, HNX.out]
          have HFAIL : Hid (∀ qs, (ps.drop t).take 4 = qs → rdR 5 qs = false → rd rdR (hasK kd) ps (Ms.of kd) = none) := fun qs hqs hr => by
            rw [HRD.out, HEQ.out, HDC.out]; exact rd_bad (by rw [show cntF 5 = 4 from rfl, hqs]; exact hr)
          obtain ⟨b0, o0, hao0, hc0⟩ := HG.out.cell t (by omega)
          subst hao0
          have HZ0 := hid (getD_txt HTX.out t)
          generalize ps.getD t ⟨#[]⟩ = s0 at *
          obtain ⟨b1, o1, hao1, hc1⟩ := HG.out.cell (t + 1) (by omega)
          cases hao1
          have HZ1 := hid (getD_txt HTX.out (t + 1))
          generalize ps.getD (t + 1) ⟨#[]⟩ = s1 at *
          obtain ⟨b2, o2, hao2, hc2⟩ := HG.out.cell (t + 2) (by omega)
          cases hao2
          have HZ2 := hid (getD_txt HTX.out (t + 2))
          generalize ps.getD (t + 2) ⟨#[]⟩ = s2 at *
          obtain ⟨b3, o3, hao3, hc3⟩ := HG.out.cell (t + 3) (by omega)
          cases hao3
          have HZ3 := hid (getD_txt HTX.out (t + 3))
          generalize ps.getD (t + 3) ⟨#[]⟩ = s3 at *
          have HCC0 : Hid (∀ w', Below w1.heap.size w1 w' → w'.cell? ⟨b0, o0 + t, none⟩ = some (.string s0)) := fun w' h => by
            have hlo := World.block_lt_of_cell? w _ hc0
            have hsz := L1.out.size
            rw [(sq L1.out h).cell (p := ⟨b0, o0 + t, none⟩) hlo]; exact hc0
          have HCC1 : Hid (∀ w', Below w1.heap.size w1 w' → w'.cell? ⟨b0, o0 + (t + 1), none⟩ = some (.string s1)) := fun w' h => by
            have hlo := World.block_lt_of_cell? w _ hc1
            have hsz := L1.out.size
            rw [(sq L1.out h).cell (p := ⟨b0, o0 + (t + 1), none⟩) hlo]; exact hc1
          have HCC2 : Hid (∀ w', Below w1.heap.size w1 w' → w'.cell? ⟨b0, o0 + (t + 2), none⟩ = some (.string s2)) := fun w' h => by
            have hlo := World.block_lt_of_cell? w _ hc2
            have hsz := L1.out.size
            rw [(sq L1.out h).cell (p := ⟨b0, o0 + (t + 2), none⟩) hlo]; exact hc2
          have HCC3 : Hid (∀ w', Below w1.heap.size w1 w' → w'.cell? ⟨b0, o0 + (t + 3), none⟩ = some (.string s3)) := fun w' h => by
            have hlo := World.block_lt_of_cell? w _ hc3
            have hsz := L1.out.size
            rw [(sq L1.out h).cell (p := ⟨b0, o0 + (t + 3), none⟩) hlo]; exact hc3
          clear hc0 hc1 hc2 hc3
          go_wp2_with (first | (go_at_call 28; refine (has28 ⟨#[110, 114, 99, 100, 109]⟩ 114 _ (by decide)).mono ?_; rintro e w4 ⟨rfl, rfl⟩; rw [HHC.out]))
          generalize wr = wa at *
          go_loopw [12] (fun i wr => ∃ (j : Nat), j ≤ 4 ∧ i = .int .i64 (j : Int) ∧ (([s0, s1, s2, s3] : List ByteArray).take j).all (pR 5) = true ∧ RV wr b8 (stepM m 5 [s0, s1, s2, s3] j) ∧ Below w1.heap.size w1 wr) (fun i _ => 4 - (intOf i).toNat)
          case atStart => exact ⟨0, by omega, rfl, rfl, by rw [step_none [s0, s1, s2, s3] HFT.out (by omega)]; exact VR.out, BR.out⟩
          case round =>
            obtain ⟨j, hj, rfl, hall, hv, hb⟩ := hrel
            have VQ := hid hv
            have BQ := hid hb
            have HAL := hid hall
            have VZ2 := hid (V1.out.below hb)
            have BW2 := hid (sq L1.out hb)
            clear hv hb hall VR VZ BW
            have h0q : j = 0 ∨ j = 1 ∨ j = 2 ∨ j = 3 ∨ j = 4 := by omega
            rcases h0q with rfl | rfl | rfl | rfl | rfl
            · have hcx := HCC0.out wr BQ.out
              have HNX2 : Hid ((([s0, s1, s2, s3] : List ByteArray).take (0 + 1)).all (pR 5) = pR 5 s0) := by unfold Hid; rw [all_snocB _ _ _ (by simp), HAL.out, Bool.true_and]; rfl
              have HBAD : Hid (pR 5 s0 = false → rd rdR (hasK kd) ps (Ms.of kd) = none) := fun h => HFAIL.out [s0, s1, s2, s3] HQS.out (by rw [rdR_all (by omega)]; exact all_moreB (HNX2.out.trans h))
              cases hnb : numB10 s0
              · have HNB := hid hnb
                have HE := hid (HBAD.out (pR_no hnb))
                clear hnb
                go_wp2_with (first | (have kill := VZ2.out; refine st27 (r := Ms.zero) VZ2.out BW2.out hb6 rfl _ _ rfl rfl rfl ?_; intro w6 v6 l6; have V6 := hid v6; have L6 := hid l6; clear v6 l6 kill VZ2) | (have kill := VZ2.out; refine bd27 rfl rfl ?_) | (go_at_call 47; refine (number47 s0 _ HZ0.out).mono ?_; rintro e w4 ⟨rfl, rfl⟩; rw [HNB.out]))
                refine bodyPost_ret (results_c1 Tryd.results36 _ _ rfl rfl V6.out) rfl ?_
                exact td_no HE.out L6.out
              · have HNB := hid hnb
                have HNV := hid (nV10_yes hnb)
                obtain ⟨v, hv⟩ : ∃ v, numV s0 = v := ⟨_, rfl⟩
                rw [hv] at HNV
                have hv0 : 0 ≤ v := by rw [← hv]; exact numV_pos s0
                have HVV := hid hv
                have HT := hid (HNX2.out.trans (show pR 5 s0 = true by unfold pR; rw [hnb]; rfl))
                have FC : Hid ((stepM m 5 [s0, s1, s2, s3] (0 + 1)).cells = (stepM m 5 [s0, s1, s2, s3] 0).cells.take 9 ++ [.int .i64 v] ++ (stepM m 5 [s0, s1, s2, s3] 0).cells.drop (9 + 1)) := by unfold Hid; rw [← hv]; rfl
                have HNN : Hid (∀ w, Calls Tryd.prog 23 #[.pointer (some ⟨b8, 0, none⟩), .int .u8 114] w fun e w' => e = .returned (.tuple #[.pointer (some ⟨b8, 9, none⟩), .int .i64 (mostF 5)]) ∧ w = w') := fun w => notes23 b8 114 w (by omega)
                clear hnb hv
                go_wp2_with (first | (have kill := VQ.out; refine rv_store VQ.out BQ.out hb8 3 9 [.int .i64 v] (stepM m 5 [s0, s1, s2, s3] (0 + 1)) (by simp) FC.out n3 (one1 rfl) rfl _ _ rfl rfl rfl rfl ?_; intro w3 v3 l3; have V3' := hid v3; have L3' := hid l3; clear v3 l3 kill VQ) | (go_at_call 47; refine (number47 s0 _ HZ0.out).mono ?_; rintro e w4 ⟨rfl, rfl⟩; rw [HNB.out, HNV.out]) | (go_at_call 23; refine (HNN.out _).mono ?_; rintro e w3 ⟨rfl, rfl⟩))
                go_roundw
                case rel => exact ⟨0 + 1, by omega, by go_num, HT.out, V3'.out, L3'.out⟩
                case measure => simp [intOf]
            · have hcx := HCC1.out wr BQ.out
              obtain ⟨tj, htj⟩ : ∃ x, t + 1 = x := ⟨_, rfl⟩
              rw [htj] at hcx
              have htj' : (t : Int) + 1 = (tj : Int) := by omega
              have htl : tj < n := by omega
              clear htj
              have HNX2 : Hid ((([s0, s1, s2, s3] : List ByteArray).take (1 + 1)).all (pR 5) = pR 5 s1) := by unfold Hid; rw [all_snocB _ _ _ (by simp), HAL.out, Bool.true_and]; rfl
              have HBAD : Hid (pR 5 s1 = false → rd rdR (hasK kd) ps (Ms.of kd) = none) := fun h => HFAIL.out [s0, s1, s2, s3] HQS.out (by rw [rdR_all (by omega)]; exact all_moreB (HNX2.out.trans h))
              cases hnb : numB10 s1
              · have HNB := hid hnb
                have HE := hid (HBAD.out (pR_no hnb))
                clear hnb
                go_wp2_with (first | (have kill := VZ2.out; refine st27 (r := Ms.zero) VZ2.out BW2.out hb6 rfl _ _ rfl rfl rfl ?_; intro w6 v6 l6; have V6 := hid v6; have L6 := hid l6; clear v6 l6 kill VZ2) | (have kill := VZ2.out; refine bd27 rfl rfl ?_) | (go_at_call 47; refine (number47 s1 _ HZ1.out).mono ?_; rintro e w4 ⟨rfl, rfl⟩; rw [HNB.out]))
                refine bodyPost_ret (results_c1 Tryd.results36 _ _ rfl rfl V6.out) rfl ?_
                exact td_no HE.out L6.out
              · have HNB := hid hnb
                have HNV := hid (nV10_yes hnb)
                obtain ⟨v, hv⟩ : ∃ v, numV s1 = v := ⟨_, rfl⟩
                rw [hv] at HNV
                have hv0 : 0 ≤ v := by rw [← hv]; exact numV_pos s1
                have HVV := hid hv
                have HT := hid (HNX2.out.trans (show pR 5 s1 = true by unfold pR; rw [hnb]; rfl))
                have FC : Hid ((stepM m 5 [s0, s1, s2, s3] (1 + 1)).cells = (stepM m 5 [s0, s1, s2, s3] 1).cells.take 10 ++ [.int .i64 v] ++ (stepM m 5 [s0, s1, s2, s3] 1).cells.drop (10 + 1)) := by unfold Hid; rw [← hv]; rfl
                have HNN : Hid (∀ w, Calls Tryd.prog 23 #[.pointer (some ⟨b8, 0, none⟩), .int .u8 114] w fun e w' => e = .returned (.tuple #[.pointer (some ⟨b8, 9, none⟩), .int .i64 (mostF 5)]) ∧ w = w') := fun w => notes23 b8 114 w (by omega)
                clear hnb hv
                go_wp2_with (first | (have kill := VQ.out; refine rv_store VQ.out BQ.out hb8 3 10 [.int .i64 v] (stepM m 5 [s0, s1, s2, s3] (1 + 1)) (by simp) FC.out n3 (one1 rfl) rfl _ _ rfl rfl rfl rfl ?_; intro w3 v3 l3; have V3' := hid v3; have L3' := hid l3; clear v3 l3 kill VQ) | (go_at_call 47; refine (number47 s1 _ HZ1.out).mono ?_; rintro e w4 ⟨rfl, rfl⟩; rw [HNB.out, HNV.out]) | (go_at_call 23; refine (HNN.out _).mono ?_; rintro e w3 ⟨rfl, rfl⟩))
                go_roundw
                case rel => exact ⟨1 + 1, by omega, by go_num, HT.out, V3'.out, L3'.out⟩
                case measure => simp [intOf]
            · have hcx := HCC2.out wr BQ.out
              obtain ⟨tj, htj⟩ : ∃ x, t + 2 = x := ⟨_, rfl⟩
              rw [htj] at hcx
              have htj' : (t : Int) + 2 = (tj : Int) := by omega
              have htl : tj < n := by omega
              clear htj
              have HNX2 : Hid ((([s0, s1, s2, s3] : List ByteArray).take (2 + 1)).all (pR 5) = pR 5 s2) := by unfold Hid; rw [all_snocB _ _ _ (by simp), HAL.out, Bool.true_and]; rfl
              have HBAD : Hid (pR 5 s2 = false → rd rdR (hasK kd) ps (Ms.of kd) = none) := fun h => HFAIL.out [s0, s1, s2, s3] HQS.out (by rw [rdR_all (by omega)]; exact all_moreB (HNX2.out.trans h))
              cases hnb : numB10 s2
              · have HNB := hid hnb
                have HE := hid (HBAD.out (pR_no hnb))
                clear hnb
                go_wp2_with (first | (have kill := VZ2.out; refine st27 (r := Ms.zero) VZ2.out BW2.out hb6 rfl _ _ rfl rfl rfl ?_; intro w6 v6 l6; have V6 := hid v6; have L6 := hid l6; clear v6 l6 kill VZ2) | (have kill := VZ2.out; refine bd27 rfl rfl ?_) | (go_at_call 47; refine (number47 s2 _ HZ2.out).mono ?_; rintro e w4 ⟨rfl, rfl⟩; rw [HNB.out]))
                refine bodyPost_ret (results_c1 Tryd.results36 _ _ rfl rfl V6.out) rfl ?_
                exact td_no HE.out L6.out
              · have HNB := hid hnb
                have HNV := hid (nV10_yes hnb)
                obtain ⟨v, hv⟩ : ∃ v, numV s2 = v := ⟨_, rfl⟩
                rw [hv] at HNV
                have hv0 : 0 ≤ v := by rw [← hv]; exact numV_pos s2
                have HVV := hid hv
                have HT := hid (HNX2.out.trans (show pR 5 s2 = true by unfold pR; rw [hnb]; rfl))
                have FC : Hid ((stepM m 5 [s0, s1, s2, s3] (2 + 1)).cells = (stepM m 5 [s0, s1, s2, s3] 2).cells.take 11 ++ [.int .i64 v] ++ (stepM m 5 [s0, s1, s2, s3] 2).cells.drop (11 + 1)) := by unfold Hid; rw [← hv]; rfl
                have HNN : Hid (∀ w, Calls Tryd.prog 23 #[.pointer (some ⟨b8, 0, none⟩), .int .u8 114] w fun e w' => e = .returned (.tuple #[.pointer (some ⟨b8, 9, none⟩), .int .i64 (mostF 5)]) ∧ w = w') := fun w => notes23 b8 114 w (by omega)
                clear hnb hv
                go_wp2_with (first | (have kill := VQ.out; refine rv_store VQ.out BQ.out hb8 3 11 [.int .i64 v] (stepM m 5 [s0, s1, s2, s3] (2 + 1)) (by simp) FC.out n3 (one1 rfl) rfl _ _ rfl rfl rfl rfl ?_; intro w3 v3 l3; have V3' := hid v3; have L3' := hid l3; clear v3 l3 kill VQ) | (go_at_call 47; refine (number47 s2 _ HZ2.out).mono ?_; rintro e w4 ⟨rfl, rfl⟩; rw [HNB.out, HNV.out]) | (go_at_call 23; refine (HNN.out _).mono ?_; rintro e w3 ⟨rfl, rfl⟩))
                go_roundw
                case rel => exact ⟨2 + 1, by omega, by go_num, HT.out, V3'.out, L3'.out⟩
                case measure => simp [intOf]
            · have hcx := HCC3.out wr BQ.out
              obtain ⟨tj, htj⟩ : ∃ x, t + 3 = x := ⟨_, rfl⟩
              rw [htj] at hcx
              have htj' : (t : Int) + 3 = (tj : Int) := by omega
              have htl : tj < n := by omega
              clear htj
              have HNX2 : Hid ((([s0, s1, s2, s3] : List ByteArray).take (3 + 1)).all (pR 5) = pR 5 s3) := by unfold Hid; rw [all_snocB _ _ _ (by simp), HAL.out, Bool.true_and]; rfl
              have HBAD : Hid (pR 5 s3 = false → rd rdR (hasK kd) ps (Ms.of kd) = none) := fun h => HFAIL.out [s0, s1, s2, s3] HQS.out (by rw [rdR_all (by omega)]; exact all_moreB (HNX2.out.trans h))
              cases hnb : numB10 s3
              · have HNB := hid hnb
                have HE := hid (HBAD.out (pR_no hnb))
                clear hnb
                go_wp2_with (first | (have kill := VZ2.out; refine st27 (r := Ms.zero) VZ2.out BW2.out hb6 rfl _ _ rfl rfl rfl ?_; intro w6 v6 l6; have V6 := hid v6; have L6 := hid l6; clear v6 l6 kill VZ2) | (have kill := VZ2.out; refine bd27 rfl rfl ?_) | (go_at_call 47; refine (number47 s3 _ HZ3.out).mono ?_; rintro e w4 ⟨rfl, rfl⟩; rw [HNB.out]))
                refine bodyPost_ret (results_c1 Tryd.results36 _ _ rfl rfl V6.out) rfl ?_
                exact td_no HE.out L6.out
              · have HNB := hid hnb
                have HNV := hid (nV10_yes hnb)
                obtain ⟨v, hv⟩ : ∃ v, numV s3 = v := ⟨_, rfl⟩
                rw [hv] at HNV
                have hv0 : 0 ≤ v := by rw [← hv]; exact numV_pos s3
                have HVV := hid hv
                have HT := hid (HNX2.out.trans (show pR 5 s3 = true by unfold pR; rw [hnb]; rfl))
                have FC : Hid ((stepM m 5 [s0, s1, s2, s3] (3 + 1)).cells = (stepM m 5 [s0, s1, s2, s3] 3).cells.take 12 ++ [.int .i64 v] ++ (stepM m 5 [s0, s1, s2, s3] 3).cells.drop (12 + 1)) := by unfold Hid; rw [← hv]; rfl
                have HNN : Hid (∀ w, Calls Tryd.prog 23 #[.pointer (some ⟨b8, 0, none⟩), .int .u8 114] w fun e w' => e = .returned (.tuple #[.pointer (some ⟨b8, 9, none⟩), .int .i64 (mostF 5)]) ∧ w = w') := fun w => notes23 b8 114 w (by omega)
                clear hnb hv
                go_wp2_with (first | (have kill := VQ.out; refine rv_store VQ.out BQ.out hb8 3 12 [.int .i64 v] (stepM m 5 [s0, s1, s2, s3] (3 + 1)) (by simp) FC.out n3 (one1 rfl) rfl _ _ rfl rfl rfl rfl ?_; intro w3 v3 l3; have V3' := hid v3; have L3' := hid l3; clear v3 l3 kill VQ) | (go_at_call 47; refine (number47 s3 _ HZ3.out).mono ?_; rintro e w4 ⟨rfl, rfl⟩; rw [HNB.out, HNV.out]) | (go_at_call 23; refine (HNN.out _).mono ?_; rintro e w3 ⟨rfl, rfl⟩))
                go_roundw
                case rel => exact ⟨3 + 1, by omega, by go_num, HT.out, V3'.out, L3'.out⟩
                case measure => simp [intOf]
            · have HRR : Hid (rdR 5 [s0, s1, s2, s3] = true) := by unfold Hid; rw [rdR_all (by omega)]; exact HAL.out
              have HS := hid (HSTEP.out [s0, s1, s2, s3] HQS.out HRR.out)
              have HSA := hid (step_all (m := m) (f := 5) (qs := [s0, s1, s2, s3]) HFT.out (by omega) rfl)
              have HOK2 := hid (ok_set HMO.out HFT.out HRR.out rfl)
              have HPZ2 : Hid ((setF m 5 [s0, s1, s2, s3]).pan.size ≤ 9223372036854775807) := HMP.out
              have VQ1 : Hid (RV wr b8 (setF m 5 [s0, s1, s2, s3])) := by have := VQ.out; rw [show (4 : Nat) = cntF 5 from rfl, HSA.out] at this; exact this
              clear VQ
              go_wp2
              go_roundw
              case rel => exact ⟨k + 1, t + 4, setF m 5 [s0, s1, s2, s3], by omega, by go_num, by go_num, by omega, VQ1.out, BQ.out, HOK2.out, HPZ2.out, HS.out⟩
              case measure => simp [intOf]; omega
      · have hcf : (l[k].toNat : Int) = 99 := by rw [hcc, e]; rfl
        have HHC : Hid (hasC ⟨#[110, 114, 99, 100, 109]⟩ 99 = true) := by unfold Hid; decide
        rw [e] at HDC HFT
        clear hcc HFM e
        have VZ := hid (V1.out.below BR.out)
        have BW := hid (sq L1.out BR.out)
        by_cases hlen : n < t + 4
        · have HE : Hid (rd rdR (hasK kd) ps (Ms.of kd) = none) := HRD.out.trans (HEQ.out.trans (by rw [HDC.out]; exact rd_len (by rw [HPD.out]; show n - t < 4; omega)))
          go_wp2_with (first | (have kill := VZ.out; refine st27 (r := Ms.zero) VZ.out BW.out hb6 rfl _ _ rfl rfl rfl ?_; intro w6 v6 l6; have V6 := hid v6; have L6 := hid l6; clear v6 l6 kill VZ) | (have kill := VZ.out; refine bd27 rfl rfl ?_) | (go_at_call 28; refine (has28 ⟨#[110, 114, 99, 100, 109]⟩ 99 _ (by decide)).mono ?_; rintro e w4 ⟨rfl, rfl⟩; rw [HHC.out]))
          refine bodyPost_ret (results_c1 Tryd.results36 _ _ rfl rfl V6.out) rfl ?_
          exact td_no HE.out L6.out
        · have hlen2 : t + 4 ≤ n := by omega
          have HQS : Hid ((ps.drop t).take 4 = [ps.getD t ⟨#[]⟩, ps.getD (t + 1) ⟨#[]⟩, ps.getD (t + 2) ⟨#[]⟩, ps.getD (t + 3) ⟨#[]⟩]) := parts4 (by rw [HPL.out]; omega)
          have HNX : Hid ((ps.drop t).drop 4 = ps.drop (t + 4)) := List.drop_drop
          have HSTEP : Hid (∀ qs, (ps.drop t).take 4 = qs → rdR 6 qs = true → RD = rd rdR (H.drop (k + 1)) (ps.drop (t + 4)) (setF m 6 qs)) := fun qs hqs hr => by
            rw [HEQ.out, HDC.out, rd_ok (by rw [HPD.out]; show ¬ n - t < 4; omega) (by rw [show cntF 6 = 4 from rfl, hqs]; exact hr), show cntF 6 = 4 from rfl, hqs, HNX.out]
          have HFAIL : Hid (∀ qs, (ps.drop t).take 4 = qs → rdR 6 qs = false → rd rdR (hasK kd) ps (Ms.of kd) = none) := fun qs hqs hr => by
            rw [HRD.out, HEQ.out, HDC.out]; exact rd_bad (by rw [show cntF 6 = 4 from rfl, hqs]; exact hr)
          obtain ⟨b0, o0, hao0, hc0⟩ := HG.out.cell t (by omega)
          subst hao0
          have HZ0 := hid (getD_txt HTX.out t)
          generalize ps.getD t ⟨#[]⟩ = s0 at *
          obtain ⟨b1, o1, hao1, hc1⟩ := HG.out.cell (t + 1) (by omega)
          cases hao1
          have HZ1 := hid (getD_txt HTX.out (t + 1))
          generalize ps.getD (t + 1) ⟨#[]⟩ = s1 at *
          obtain ⟨b2, o2, hao2, hc2⟩ := HG.out.cell (t + 2) (by omega)
          cases hao2
          have HZ2 := hid (getD_txt HTX.out (t + 2))
          generalize ps.getD (t + 2) ⟨#[]⟩ = s2 at *
          obtain ⟨b3, o3, hao3, hc3⟩ := HG.out.cell (t + 3) (by omega)
          cases hao3
          have HZ3 := hid (getD_txt HTX.out (t + 3))
          generalize ps.getD (t + 3) ⟨#[]⟩ = s3 at *
          have HCC0 : Hid (∀ w', Below w1.heap.size w1 w' → w'.cell? ⟨b0, o0 + t, none⟩ = some (.string s0)) := fun w' h => by
            have hlo := World.block_lt_of_cell? w _ hc0
            have hsz := L1.out.size
            rw [(sq L1.out h).cell (p := ⟨b0, o0 + t, none⟩) hlo]; exact hc0
          have HCC1 : Hid (∀ w', Below w1.heap.size w1 w' → w'.cell? ⟨b0, o0 + (t + 1), none⟩ = some (.string s1)) := fun w' h => by
            have hlo := World.block_lt_of_cell? w _ hc1
            have hsz := L1.out.size
            rw [(sq L1.out h).cell (p := ⟨b0, o0 + (t + 1), none⟩) hlo]; exact hc1
          have HCC2 : Hid (∀ w', Below w1.heap.size w1 w' → w'.cell? ⟨b0, o0 + (t + 2), none⟩ = some (.string s2)) := fun w' h => by
            have hlo := World.block_lt_of_cell? w _ hc2
            have hsz := L1.out.size
            rw [(sq L1.out h).cell (p := ⟨b0, o0 + (t + 2), none⟩) hlo]; exact hc2
          have HCC3 : Hid (∀ w', Below w1.heap.size w1 w' → w'.cell? ⟨b0, o0 + (t + 3), none⟩ = some (.string s3)) := fun w' h => by
            have hlo := World.block_lt_of_cell? w _ hc3
            have hsz := L1.out.size
            rw [(sq L1.out h).cell (p := ⟨b0, o0 + (t + 3), none⟩) hlo]; exact hc3
          clear hc0 hc1 hc2 hc3
          go_wp2_with (first | (go_at_call 28; refine (has28 ⟨#[110, 114, 99, 100, 109]⟩ 99 _ (by decide)).mono ?_; rintro e w4 ⟨rfl, rfl⟩; rw [HHC.out]))
          generalize wr = wa at *
          go_loopw [12] (fun i wr => ∃ (j : Nat), j ≤ 4 ∧ i = .int .i64 (j : Int) ∧ (([s0, s1, s2, s3] : List ByteArray).take j).all (pR 6) = true ∧ RV wr b8 (stepM m 6 [s0, s1, s2, s3] j) ∧ Below w1.heap.size w1 wr) (fun i _ => 4 - (intOf i).toNat)
          case atStart => exact ⟨0, by omega, rfl, rfl, by rw [step_none [s0, s1, s2, s3] HFT.out (by omega)]; exact VR.out, BR.out⟩
          case round =>
            obtain ⟨j, hj, rfl, hall, hv, hb⟩ := hrel
            have VQ := hid hv
            have BQ := hid hb
            have HAL := hid hall
            have VZ2 := hid (V1.out.below hb)
            have BW2 := hid (sq L1.out hb)
            clear hv hb hall VR VZ BW
            have h0q : j = 0 ∨ j = 1 ∨ j = 2 ∨ j = 3 ∨ j = 4 := by omega
            rcases h0q with rfl | rfl | rfl | rfl | rfl
            · have hcx := HCC0.out wr BQ.out
              have HNX2 : Hid ((([s0, s1, s2, s3] : List ByteArray).take (0 + 1)).all (pR 6) = pR 6 s0) := by unfold Hid; rw [all_snocB _ _ _ (by simp), HAL.out, Bool.true_and]; rfl
              have HBAD : Hid (pR 6 s0 = false → rd rdR (hasK kd) ps (Ms.of kd) = none) := fun h => HFAIL.out [s0, s1, s2, s3] HQS.out (by rw [rdR_all (by omega)]; exact all_moreB (HNX2.out.trans h))
              cases hnb : numB10 s0
              · have HNB := hid hnb
                have HE := hid (HBAD.out (pR_no hnb))
                clear hnb
                go_wp2_with (first | (have kill := VZ2.out; refine st27 (r := Ms.zero) VZ2.out BW2.out hb6 rfl _ _ rfl rfl rfl ?_; intro w6 v6 l6; have V6 := hid v6; have L6 := hid l6; clear v6 l6 kill VZ2) | (have kill := VZ2.out; refine bd27 rfl rfl ?_) | (go_at_call 47; refine (number47 s0 _ HZ0.out).mono ?_; rintro e w4 ⟨rfl, rfl⟩; rw [HNB.out]))
                refine bodyPost_ret (results_c1 Tryd.results36 _ _ rfl rfl V6.out) rfl ?_
                exact td_no HE.out L6.out
              · have HNB := hid hnb
                have HNV := hid (nV10_yes hnb)
                obtain ⟨v, hv⟩ : ∃ v, numV s0 = v := ⟨_, rfl⟩
                rw [hv] at HNV
                have hv0 : 0 ≤ v := by rw [← hv]; exact numV_pos s0
                have HVV := hid hv
                have HT := hid (HNX2.out.trans (show pR 6 s0 = true by unfold pR; rw [hnb]; rfl))
                have FC : Hid ((stepM m 6 [s0, s1, s2, s3] (0 + 1)).cells = (stepM m 6 [s0, s1, s2, s3] 0).cells.take 13 ++ [.int .i64 v] ++ (stepM m 6 [s0, s1, s2, s3] 0).cells.drop (13 + 1)) := by unfold Hid; rw [← hv]; rfl
                have HNN : Hid (∀ w, Calls Tryd.prog 23 #[.pointer (some ⟨b8, 0, none⟩), .int .u8 99] w fun e w' => e = .returned (.tuple #[.pointer (some ⟨b8, 13, none⟩), .int .i64 (mostF 6)]) ∧ w = w') := fun w => notes23 b8 99 w (by omega)
                clear hnb hv
                go_wp2_with (first | (have kill := VQ.out; refine rv_store VQ.out BQ.out hb8 3 13 [.int .i64 v] (stepM m 6 [s0, s1, s2, s3] (0 + 1)) (by simp) FC.out n3 (one1 rfl) rfl _ _ rfl rfl rfl rfl ?_; intro w3 v3 l3; have V3' := hid v3; have L3' := hid l3; clear v3 l3 kill VQ) | (go_at_call 47; refine (number47 s0 _ HZ0.out).mono ?_; rintro e w4 ⟨rfl, rfl⟩; rw [HNB.out, HNV.out]) | (go_at_call 23; refine (HNN.out _).mono ?_; rintro e w3 ⟨rfl, rfl⟩))
                go_roundw
                case rel => exact ⟨0 + 1, by omega, by go_num, HT.out, V3'.out, L3'.out⟩
                case measure => simp [intOf]
            · have hcx := HCC1.out wr BQ.out
              obtain ⟨tj, htj⟩ : ∃ x, t + 1 = x := ⟨_, rfl⟩
              rw [htj] at hcx
              have htj' : (t : Int) + 1 = (tj : Int) := by omega
              have htl : tj < n := by omega
              clear htj
              have HNX2 : Hid ((([s0, s1, s2, s3] : List ByteArray).take (1 + 1)).all (pR 6) = pR 6 s1) := by unfold Hid; rw [all_snocB _ _ _ (by simp), HAL.out, Bool.true_and]; rfl
              have HBAD : Hid (pR 6 s1 = false → rd rdR (hasK kd) ps (Ms.of kd) = none) := fun h => HFAIL.out [s0, s1, s2, s3] HQS.out (by rw [rdR_all (by omega)]; exact all_moreB (HNX2.out.trans h))
              cases hnb : numB10 s1
              · have HNB := hid hnb
                have HE := hid (HBAD.out (pR_no hnb))
                clear hnb
                go_wp2_with (first | (have kill := VZ2.out; refine st27 (r := Ms.zero) VZ2.out BW2.out hb6 rfl _ _ rfl rfl rfl ?_; intro w6 v6 l6; have V6 := hid v6; have L6 := hid l6; clear v6 l6 kill VZ2) | (have kill := VZ2.out; refine bd27 rfl rfl ?_) | (go_at_call 47; refine (number47 s1 _ HZ1.out).mono ?_; rintro e w4 ⟨rfl, rfl⟩; rw [HNB.out]))
                refine bodyPost_ret (results_c1 Tryd.results36 _ _ rfl rfl V6.out) rfl ?_
                exact td_no HE.out L6.out
              · have HNB := hid hnb
                have HNV := hid (nV10_yes hnb)
                obtain ⟨v, hv⟩ : ∃ v, numV s1 = v := ⟨_, rfl⟩
                rw [hv] at HNV
                have hv0 : 0 ≤ v := by rw [← hv]; exact numV_pos s1
                have HVV := hid hv
                have HT := hid (HNX2.out.trans (show pR 6 s1 = true by unfold pR; rw [hnb]; rfl))
                have FC : Hid ((stepM m 6 [s0, s1, s2, s3] (1 + 1)).cells = (stepM m 6 [s0, s1, s2, s3] 1).cells.take 14 ++ [.int .i64 v] ++ (stepM m 6 [s0, s1, s2, s3] 1).cells.drop (14 + 1)) := by unfold Hid; rw [← hv]; rfl
                have HNN : Hid (∀ w, Calls Tryd.prog 23 #[.pointer (some ⟨b8, 0, none⟩), .int .u8 99] w fun e w' => e = .returned (.tuple #[.pointer (some ⟨b8, 13, none⟩), .int .i64 (mostF 6)]) ∧ w = w') := fun w => notes23 b8 99 w (by omega)
                clear hnb hv
                go_wp2_with (first | (have kill := VQ.out; refine rv_store VQ.out BQ.out hb8 3 14 [.int .i64 v] (stepM m 6 [s0, s1, s2, s3] (1 + 1)) (by simp) FC.out n3 (one1 rfl) rfl _ _ rfl rfl rfl rfl ?_; intro w3 v3 l3; have V3' := hid v3; have L3' := hid l3; clear v3 l3 kill VQ) | (go_at_call 47; refine (number47 s1 _ HZ1.out).mono ?_; rintro e w4 ⟨rfl, rfl⟩; rw [HNB.out, HNV.out]) | (go_at_call 23; refine (HNN.out _).mono ?_; rintro e w3 ⟨rfl, rfl⟩))
                go_roundw
                case rel => exact ⟨1 + 1, by omega, by go_num, HT.out, V3'.out, L3'.out⟩
                case measure => simp [intOf]
            · have hcx := HCC2.out wr BQ.out
              obtain ⟨tj, htj⟩ : ∃ x, t + 2 = x := ⟨_, rfl⟩
              rw [htj] at hcx
              have htj' : (t : Int) + 2 = (tj : Int) := by omega
              have htl : tj < n := by omega
              clear htj
              have HNX2 : Hid ((([s0, s1, s2, s3] : List ByteArray).take (2 + 1)).all (pR 6) = pR 6 s2) := by unfold Hid; rw [all_snocB _ _ _ (by simp), HAL.out, Bool.true_and]; rfl
              have HBAD : Hid (pR 6 s2 = false → rd rdR (hasK kd) ps (Ms.of kd) = none) := fun h => HFAIL.out [s0, s1, s2, s3] HQS.out (by rw [rdR_all (by omega)]; exact all_moreB (HNX2.out.trans h))
              cases hnb : numB10 s2
              · have HNB := hid hnb
                have HE := hid (HBAD.out (pR_no hnb))
                clear hnb
                go_wp2_with (first | (have kill := VZ2.out; refine st27 (r := Ms.zero) VZ2.out BW2.out hb6 rfl _ _ rfl rfl rfl ?_; intro w6 v6 l6; have V6 := hid v6; have L6 := hid l6; clear v6 l6 kill VZ2) | (have kill := VZ2.out; refine bd27 rfl rfl ?_) | (go_at_call 47; refine (number47 s2 _ HZ2.out).mono ?_; rintro e w4 ⟨rfl, rfl⟩; rw [HNB.out]))
                refine bodyPost_ret (results_c1 Tryd.results36 _ _ rfl rfl V6.out) rfl ?_
                exact td_no HE.out L6.out
              · have HNB := hid hnb
                have HNV := hid (nV10_yes hnb)
                obtain ⟨v, hv⟩ : ∃ v, numV s2 = v := ⟨_, rfl⟩
                rw [hv] at HNV
                have hv0 : 0 ≤ v := by rw [← hv]; exact numV_pos s2
                have HVV := hid hv
                have HT := hid (HNX2.out.trans (show pR 6 s2 = true by unfold pR; rw [hnb]; rfl))
                have FC : Hid ((stepM m 6 [s0, s1, s2, s3] (2 + 1)).cells = (stepM m 6 [s0, s1, s2, s3] 2).cells.take 15 ++ [.int .i64 v] ++ (stepM m 6 [s0, s1, s2, s3] 2).cells.drop (15 + 1)) := by unfold Hid; rw [← hv]; rfl
                have HNN : Hid (∀ w, Calls Tryd.prog 23 #[.pointer (some ⟨b8, 0, none⟩), .int .u8 99] w fun e w' => e = .returned (.tuple #[.pointer (some ⟨b8, 13, none⟩), .int .i64 (mostF 6)]) ∧ w = w') := fun w => notes23 b8 99 w (by omega)
                clear hnb hv
                go_wp2_with (first | (have kill := VQ.out; refine rv_store VQ.out BQ.out hb8 3 15 [.int .i64 v] (stepM m 6 [s0, s1, s2, s3] (2 + 1)) (by simp) FC.out n3 (one1 rfl) rfl _ _ rfl rfl rfl rfl ?_; intro w3 v3 l3; have V3' := hid v3; have L3' := hid l3; clear v3 l3 kill VQ) | (go_at_call 47; refine (number47 s2 _ HZ2.out).mono ?_; rintro e w4 ⟨rfl, rfl⟩; rw [HNB.out, HNV.out]) | (go_at_call 23; refine (HNN.out _).mono ?_; rintro e w3 ⟨rfl, rfl⟩))
                go_roundw
                case rel => exact ⟨2 + 1, by omega, by go_num, HT.out, V3'.out, L3'.out⟩
                case measure => simp [intOf]
            · have hcx := HCC3.out wr BQ.out
              obtain ⟨tj, htj⟩ : ∃ x, t + 3 = x := ⟨_, rfl⟩
              rw [htj] at hcx
              have htj' : (t : Int) + 3 = (tj : Int) := by omega
              have htl : tj < n := by omega
              clear htj
              have HNX2 : Hid ((([s0, s1, s2, s3] : List ByteArray).take (3 + 1)).all (pR 6) = pR 6 s3) := by unfold Hid; rw [all_snocB _ _ _ (by simp), HAL.out, Bool.true_and]; rfl
              have HBAD : Hid (pR 6 s3 = false → rd rdR (hasK kd) ps (Ms.of kd) = none) := fun h => HFAIL.out [s0, s1, s2, s3] HQS.out (by rw [rdR_all (by omega)]; exact all_moreB (HNX2.out.trans h))
              cases hnb : numB10 s3
              · have HNB := hid hnb
                have HE := hid (HBAD.out (pR_no hnb))
                clear hnb
                go_wp2_with (first | (have kill := VZ2.out; refine st27 (r := Ms.zero) VZ2.out BW2.out hb6 rfl _ _ rfl rfl rfl ?_; intro w6 v6 l6; have V6 := hid v6; have L6 := hid l6; clear v6 l6 kill VZ2) | (have kill := VZ2.out; refine bd27 rfl rfl ?_) | (go_at_call 47; refine (number47 s3 _ HZ3.out).mono ?_; rintro e w4 ⟨rfl, rfl⟩; rw [HNB.out]))
                refine bodyPost_ret (results_c1 Tryd.results36 _ _ rfl rfl V6.out) rfl ?_
                exact td_no HE.out L6.out
              · have HNB := hid hnb
                have HNV := hid (nV10_yes hnb)
                obtain ⟨v, hv⟩ : ∃ v, numV s3 = v := ⟨_, rfl⟩
                rw [hv] at HNV
                have hv0 : 0 ≤ v := by rw [← hv]; exact numV_pos s3
                have HVV := hid hv
                have HT := hid (HNX2.out.trans (show pR 6 s3 = true by unfold pR; rw [hnb]; rfl))
                have FC : Hid ((stepM m 6 [s0, s1, s2, s3] (3 + 1)).cells = (stepM m 6 [s0, s1, s2, s3] 3).cells.take 16 ++ [.int .i64 v] ++ (stepM m 6 [s0, s1, s2, s3] 3).cells.drop (16 + 1)) := by unfold Hid; rw [← hv]; rfl
                have HNN : Hid (∀ w, Calls Tryd.prog 23 #[.pointer (some ⟨b8, 0, none⟩), .int .u8 99] w fun e w' => e = .returned (.tuple #[.pointer (some ⟨b8, 13, none⟩), .int .i64 (mostF 6)]) ∧ w = w') := fun w => notes23 b8 99 w (by omega)
                clear hnb hv
                go_wp2_with (first | (have kill := VQ.out; refine rv_store VQ.out BQ.out hb8 3 16 [.int .i64 v] (stepM m 6 [s0, s1, s2, s3] (3 + 1)) (by simp) FC.out n3 (one1 rfl) rfl _ _ rfl rfl rfl rfl ?_; intro w3 v3 l3; have V3' := hid v3; have L3' := hid l3; clear v3 l3 kill VQ) | (go_at_call 47; refine (number47 s3 _ HZ3.out).mono ?_; rintro e w4 ⟨rfl, rfl⟩; rw [HNB.out, HNV.out]) | (go_at_call 23; refine (HNN.out _).mono ?_; rintro e w3 ⟨rfl, rfl⟩))
                go_roundw
                case rel => exact ⟨3 + 1, by omega, by go_num, HT.out, V3'.out, L3'.out⟩
                case measure => simp [intOf]
            · have HRR : Hid (rdR 6 [s0, s1, s2, s3] = true) := by unfold Hid; rw [rdR_all (by omega)]; exact HAL.out
              have HS := hid (HSTEP.out [s0, s1, s2, s3] HQS.out HRR.out)
              have HSA := hid (step_all (m := m) (f := 6) (qs := [s0, s1, s2, s3]) HFT.out (by omega) rfl)
              have HOK2 := hid (ok_set HMO.out HFT.out HRR.out rfl)
              have HPZ2 : Hid ((setF m 6 [s0, s1, s2, s3]).pan.size ≤ 9223372036854775807) := HMP.out
              have VQ1 : Hid (RV wr b8 (setF m 6 [s0, s1, s2, s3])) := by have := VQ.out; rw [show (4 : Nat) = cntF 6 from rfl, HSA.out] at this; exact this
              clear VQ
              go_wp2
              go_roundw
              case rel => exact ⟨k + 1, t + 4, setF m 6 [s0, s1, s2, s3], by omega, by go_num, by go_num, by omega, VQ1.out, BQ.out, HOK2.out, HPZ2.out, HS.out⟩
              case measure => simp [intOf]; omega
      · have hcf : (l[k].toNat : Int) = 100 := by rw [hcc, e]; rfl
        have HHC : Hid (hasC ⟨#[110, 114, 99, 100, 109]⟩ 100 = true) := by unfold Hid; decide
        rw [e] at HDC HFT
        clear hcc HFM e
        have VZ := hid (V1.out.below BR.out)
        have BW := hid (sq L1.out BR.out)
        by_cases hlen : n < t + 4
        · have HE : Hid (rd rdR (hasK kd) ps (Ms.of kd) = none) := HRD.out.trans (HEQ.out.trans (by rw [HDC.out]; exact rd_len (by rw [HPD.out]; show n - t < 4; omega)))
          go_wp2_with (first | (have kill := VZ.out; refine st27 (r := Ms.zero) VZ.out BW.out hb6 rfl _ _ rfl rfl rfl ?_; intro w6 v6 l6; have V6 := hid v6; have L6 := hid l6; clear v6 l6 kill VZ) | (have kill := VZ.out; refine bd27 rfl rfl ?_) | (go_at_call 28; refine (has28 ⟨#[110, 114, 99, 100, 109]⟩ 100 _ (by decide)).mono ?_; rintro e w4 ⟨rfl, rfl⟩; rw [HHC.out]))
          refine bodyPost_ret (results_c1 Tryd.results36 _ _ rfl rfl V6.out) rfl ?_
          exact td_no HE.out L6.out
        · have hlen2 : t + 4 ≤ n := by omega
          have HQS : Hid ((ps.drop t).take 4 = [ps.getD t ⟨#[]⟩, ps.getD (t + 1) ⟨#[]⟩, ps.getD (t + 2) ⟨#[]⟩, ps.getD (t + 3) ⟨#[]⟩]) := parts4 (by rw [HPL.out]; omega)
          have HNX : Hid ((ps.drop t).drop 4 = ps.drop (t + 4)) := List.drop_drop
          have HSTEP : Hid (∀ qs, (ps.drop t).take 4 = qs → rdR 7 qs = true → RD = rd rdR (H.drop (k + 1)) (ps.drop (t + 4)) (setF m 7 qs)) := fun qs hqs hr => by
            rw [HEQ.out, HDC.out, rd_ok (by rw [HPD.out]; show ¬ n - t < 4; omega) (by rw [show cntF 7 = 4 from rfl, hqs]; exact hr), show cntF 7 = 4 from rfl, hqs, HNX.out]
          have HFAIL : Hid (∀ qs, (ps.drop t).take 4 = qs → rdR 7 qs = false → rd rdR (hasK kd) ps (Ms.of kd) = none) := fun qs hqs hr => by
            rw [HRD.out, HEQ.out, HDC.out]; exact rd_bad (by rw [show cntF 7 = 4 from rfl, hqs]; exact hr)
          obtain ⟨b0, o0, hao0, hc0⟩ := HG.out.cell t (by omega)
          subst hao0
          have HZ0 := hid (getD_txt HTX.out t)
          generalize ps.getD t ⟨#[]⟩ = s0 at *
          obtain ⟨b1, o1, hao1, hc1⟩ := HG.out.cell (t + 1) (by omega)
          cases hao1
          have HZ1 := hid (getD_txt HTX.out (t + 1))
          generalize ps.getD (t + 1) ⟨#[]⟩ = s1 at *
          obtain ⟨b2, o2, hao2, hc2⟩ := HG.out.cell (t + 2) (by omega)
          cases hao2
          have HZ2 := hid (getD_txt HTX.out (t + 2))
          generalize ps.getD (t + 2) ⟨#[]⟩ = s2 at *
          obtain ⟨b3, o3, hao3, hc3⟩ := HG.out.cell (t + 3) (by omega)
          cases hao3
          have HZ3 := hid (getD_txt HTX.out (t + 3))
          generalize ps.getD (t + 3) ⟨#[]⟩ = s3 at *
          have HCC0 : Hid (∀ w', Below w1.heap.size w1 w' → w'.cell? ⟨b0, o0 + t, none⟩ = some (.string s0)) := fun w' h => by
            have hlo := World.block_lt_of_cell? w _ hc0
            have hsz := L1.out.size
            rw [(sq L1.out h).cell (p := ⟨b0, o0 + t, none⟩) hlo]; exact hc0
          have HCC1 : Hid (∀ w', Below w1.heap.size w1 w' → w'.cell? ⟨b0, o0 + (t + 1), none⟩ = some (.string s1)) := fun w' h => by
            have hlo := World.block_lt_of_cell? w _ hc1
            have hsz := L1.out.size
            rw [(sq L1.out h).cell (p := ⟨b0, o0 + (t + 1), none⟩) hlo]; exact hc1
          have HCC2 : Hid (∀ w', Below w1.heap.size w1 w' → w'.cell? ⟨b0, o0 + (t + 2), none⟩ = some (.string s2)) := fun w' h => by
            have hlo := World.block_lt_of_cell? w _ hc2
            have hsz := L1.out.size
            rw [(sq L1.out h).cell (p := ⟨b0, o0 + (t + 2), none⟩) hlo]; exact hc2
          have HCC3 : Hid (∀ w', Below w1.heap.size w1 w' → w'.cell? ⟨b0, o0 + (t + 3), none⟩ = some (.string s3)) := fun w' h => by
            have hlo := World.block_lt_of_cell? w _ hc3
            have hsz := L1.out.size
            rw [(sq L1.out h).cell (p := ⟨b0, o0 + (t + 3), none⟩) hlo]; exact hc3
          clear hc0 hc1 hc2 hc3
          go_wp2_with (first | (go_at_call 28; refine (has28 ⟨#[110, 114, 99, 100, 109]⟩ 100 _ (by decide)).mono ?_; rintro e w4 ⟨rfl, rfl⟩; rw [HHC.out]))
          generalize wr = wa at *
          go_loopw [12] (fun i wr => ∃ (j : Nat), j ≤ 4 ∧ i = .int .i64 (j : Int) ∧ (([s0, s1, s2, s3] : List ByteArray).take j).all (pR 7) = true ∧ RV wr b8 (stepM m 7 [s0, s1, s2, s3] j) ∧ Below w1.heap.size w1 wr) (fun i _ => 4 - (intOf i).toNat)
          case atStart => exact ⟨0, by omega, rfl, rfl, by rw [step_none [s0, s1, s2, s3] HFT.out (by omega)]; exact VR.out, BR.out⟩
          case round =>
            obtain ⟨j, hj, rfl, hall, hv, hb⟩ := hrel
            have VQ := hid hv
            have BQ := hid hb
            have HAL := hid hall
            have VZ2 := hid (V1.out.below hb)
            have BW2 := hid (sq L1.out hb)
            clear hv hb hall VR VZ BW
            have h0q : j = 0 ∨ j = 1 ∨ j = 2 ∨ j = 3 ∨ j = 4 := by omega
            rcases h0q with rfl | rfl | rfl | rfl | rfl
            · have hcx := HCC0.out wr BQ.out
              have HNX2 : Hid ((([s0, s1, s2, s3] : List ByteArray).take (0 + 1)).all (pR 7) = pR 7 s0) := by unfold Hid; rw [all_snocB _ _ _ (by simp), HAL.out, Bool.true_and]; rfl
              have HBAD : Hid (pR 7 s0 = false → rd rdR (hasK kd) ps (Ms.of kd) = none) := fun h => HFAIL.out [s0, s1, s2, s3] HQS.out (by rw [rdR_all (by omega)]; exact all_moreB (HNX2.out.trans h))
              cases hnb : numB10 s0
              · have HNB := hid hnb
                have HE := hid (HBAD.out (pR_no hnb))
                clear hnb
                go_wp2_with (first | (have kill := VZ2.out; refine st27 (r := Ms.zero) VZ2.out BW2.out hb6 rfl _ _ rfl rfl rfl ?_; intro w6 v6 l6; have V6 := hid v6; have L6 := hid l6; clear v6 l6 kill VZ2) | (have kill := VZ2.out; refine bd27 rfl rfl ?_) | (go_at_call 47; refine (number47 s0 _ HZ0.out).mono ?_; rintro e w4 ⟨rfl, rfl⟩; rw [HNB.out]))
                refine bodyPost_ret (results_c1 Tryd.results36 _ _ rfl rfl V6.out) rfl ?_
                exact td_no HE.out L6.out
              · have HNB := hid hnb
                have HNV := hid (nV10_yes hnb)
                obtain ⟨v, hv⟩ : ∃ v, numV s0 = v := ⟨_, rfl⟩
                rw [hv] at HNV
                have hv0 : 0 ≤ v := by rw [← hv]; exact numV_pos s0
                have HVV := hid hv
                have HT := hid (HNX2.out.trans (show pR 7 s0 = true by unfold pR; rw [hnb]; rfl))
                have FC : Hid ((stepM m 7 [s0, s1, s2, s3] (0 + 1)).cells = (stepM m 7 [s0, s1, s2, s3] 0).cells.take 17 ++ [.int .i64 v] ++ (stepM m 7 [s0, s1, s2, s3] 0).cells.drop (17 + 1)) := by unfold Hid; rw [← hv]; rfl
                have HNN : Hid (∀ w, Calls Tryd.prog 23 #[.pointer (some ⟨b8, 0, none⟩), .int .u8 100] w fun e w' => e = .returned (.tuple #[.pointer (some ⟨b8, 17, none⟩), .int .i64 (mostF 7)]) ∧ w = w') := fun w => notes23 b8 100 w (by omega)
                clear hnb hv
                go_wp2_with (first | (have kill := VQ.out; refine rv_store VQ.out BQ.out hb8 3 17 [.int .i64 v] (stepM m 7 [s0, s1, s2, s3] (0 + 1)) (by simp) FC.out n3 (one1 rfl) rfl _ _ rfl rfl rfl rfl ?_; intro w3 v3 l3; have V3' := hid v3; have L3' := hid l3; clear v3 l3 kill VQ) | (go_at_call 47; refine (number47 s0 _ HZ0.out).mono ?_; rintro e w4 ⟨rfl, rfl⟩; rw [HNB.out, HNV.out]) | (go_at_call 23; refine (HNN.out _).mono ?_; rintro e w3 ⟨rfl, rfl⟩))
                go_roundw
                case rel => exact ⟨0 + 1, by omega, by go_num, HT.out, V3'.out, L3'.out⟩
                case measure => simp [intOf]
            · have hcx := HCC1.out wr BQ.out
              obtain ⟨tj, htj⟩ : ∃ x, t + 1 = x := ⟨_, rfl⟩
              rw [htj] at hcx
              have htj' : (t : Int) + 1 = (tj : Int) := by omega
              have htl : tj < n := by omega
              clear htj
              have HNX2 : Hid ((([s0, s1, s2, s3] : List ByteArray).take (1 + 1)).all (pR 7) = pR 7 s1) := by unfold Hid; rw [all_snocB _ _ _ (by simp), HAL.out, Bool.true_and]; rfl
              have HBAD : Hid (pR 7 s1 = false → rd rdR (hasK kd) ps (Ms.of kd) = none) := fun h => HFAIL.out [s0, s1, s2, s3] HQS.out (by rw [rdR_all (by omega)]; exact all_moreB (HNX2.out.trans h))
              cases hnb : numB10 s1
              · have HNB := hid hnb
                have HE := hid (HBAD.out (pR_no hnb))
                clear hnb
                go_wp2_with (first | (have kill := VZ2.out; refine st27 (r := Ms.zero) VZ2.out BW2.out hb6 rfl _ _ rfl rfl rfl ?_; intro w6 v6 l6; have V6 := hid v6; have L6 := hid l6; clear v6 l6 kill VZ2) | (have kill := VZ2.out; refine bd27 rfl rfl ?_) | (go_at_call 47; refine (number47 s1 _ HZ1.out).mono ?_; rintro e w4 ⟨rfl, rfl⟩; rw [HNB.out]))
                refine bodyPost_ret (results_c1 Tryd.results36 _ _ rfl rfl V6.out) rfl ?_
                exact td_no HE.out L6.out
              · have HNB := hid hnb
                have HNV := hid (nV10_yes hnb)
                obtain ⟨v, hv⟩ : ∃ v, numV s1 = v := ⟨_, rfl⟩
                rw [hv] at HNV
                have hv0 : 0 ≤ v := by rw [← hv]; exact numV_pos s1
                have HVV := hid hv
                have HT := hid (HNX2.out.trans (show pR 7 s1 = true by unfold pR; rw [hnb]; rfl))
                have FC : Hid ((stepM m 7 [s0, s1, s2, s3] (1 + 1)).cells = (stepM m 7 [s0, s1, s2, s3] 1).cells.take 18 ++ [.int .i64 v] ++ (stepM m 7 [s0, s1, s2, s3] 1).cells.drop (18 + 1)) := by unfold Hid; rw [← hv]; rfl
                have HNN : Hid (∀ w, Calls Tryd.prog 23 #[.pointer (some ⟨b8, 0, none⟩), .int .u8 100] w fun e w' => e = .returned (.tuple #[.pointer (some ⟨b8, 17, none⟩), .int .i64 (mostF 7)]) ∧ w = w') := fun w => notes23 b8 100 w (by omega)
                clear hnb hv
                go_wp2_with (first | (have kill := VQ.out; refine rv_store VQ.out BQ.out hb8 3 18 [.int .i64 v] (stepM m 7 [s0, s1, s2, s3] (1 + 1)) (by simp) FC.out n3 (one1 rfl) rfl _ _ rfl rfl rfl rfl ?_; intro w3 v3 l3; have V3' := hid v3; have L3' := hid l3; clear v3 l3 kill VQ) | (go_at_call 47; refine (number47 s1 _ HZ1.out).mono ?_; rintro e w4 ⟨rfl, rfl⟩; rw [HNB.out, HNV.out]) | (go_at_call 23; refine (HNN.out _).mono ?_; rintro e w3 ⟨rfl, rfl⟩))
                go_roundw
                case rel => exact ⟨1 + 1, by omega, by go_num, HT.out, V3'.out, L3'.out⟩
                case measure => simp [intOf]
            · have hcx := HCC2.out wr BQ.out
              obtain ⟨tj, htj⟩ : ∃ x, t + 2 = x := ⟨_, rfl⟩
              rw [htj] at hcx
              have htj' : (t : Int) + 2 = (tj : Int) := by omega
              have htl : tj < n := by omega
              clear htj
              have HNX2 : Hid ((([s0, s1, s2, s3] : List ByteArray).take (2 + 1)).all (pR 7) = pR 7 s2) := by unfold Hid; rw [all_snocB _ _ _ (by simp), HAL.out, Bool.true_and]; rfl
              have HBAD : Hid (pR 7 s2 = false → rd rdR (hasK kd) ps (Ms.of kd) = none) := fun h => HFAIL.out [s0, s1, s2, s3] HQS.out (by rw [rdR_all (by omega)]; exact all_moreB (HNX2.out.trans h))
              cases hnb : numB10 s2
              · have HNB := hid hnb
                have HE := hid (HBAD.out (pR_no hnb))
                clear hnb
                go_wp2_with (first | (have kill := VZ2.out; refine st27 (r := Ms.zero) VZ2.out BW2.out hb6 rfl _ _ rfl rfl rfl ?_; intro w6 v6 l6; have V6 := hid v6; have L6 := hid l6; clear v6 l6 kill VZ2) | (have kill := VZ2.out; refine bd27 rfl rfl ?_) | (go_at_call 47; refine (number47 s2 _ HZ2.out).mono ?_; rintro e w4 ⟨rfl, rfl⟩; rw [HNB.out]))
                refine bodyPost_ret (results_c1 Tryd.results36 _ _ rfl rfl V6.out) rfl ?_
                exact td_no HE.out L6.out
              · have HNB := hid hnb
                have HNV := hid (nV10_yes hnb)
                obtain ⟨v, hv⟩ : ∃ v, numV s2 = v := ⟨_, rfl⟩
                rw [hv] at HNV
                have hv0 : 0 ≤ v := by rw [← hv]; exact numV_pos s2
                have HVV := hid hv
                have HT := hid (HNX2.out.trans (show pR 7 s2 = true by unfold pR; rw [hnb]; rfl))
                have FC : Hid ((stepM m 7 [s0, s1, s2, s3] (2 + 1)).cells = (stepM m 7 [s0, s1, s2, s3] 2).cells.take 19 ++ [.int .i64 v] ++ (stepM m 7 [s0, s1, s2, s3] 2).cells.drop (19 + 1)) := by unfold Hid; rw [← hv]; rfl
                have HNN : Hid (∀ w, Calls Tryd.prog 23 #[.pointer (some ⟨b8, 0, none⟩), .int .u8 100] w fun e w' => e = .returned (.tuple #[.pointer (some ⟨b8, 17, none⟩), .int .i64 (mostF 7)]) ∧ w = w') := fun w => notes23 b8 100 w (by omega)
                clear hnb hv
                go_wp2_with (first | (have kill := VQ.out; refine rv_store VQ.out BQ.out hb8 3 19 [.int .i64 v] (stepM m 7 [s0, s1, s2, s3] (2 + 1)) (by simp) FC.out n3 (one1 rfl) rfl _ _ rfl rfl rfl rfl ?_; intro w3 v3 l3; have V3' := hid v3; have L3' := hid l3; clear v3 l3 kill VQ) | (go_at_call 47; refine (number47 s2 _ HZ2.out).mono ?_; rintro e w4 ⟨rfl, rfl⟩; rw [HNB.out, HNV.out]) | (go_at_call 23; refine (HNN.out _).mono ?_; rintro e w3 ⟨rfl, rfl⟩))
                go_roundw
                case rel => exact ⟨2 + 1, by omega, by go_num, HT.out, V3'.out, L3'.out⟩
                case measure => simp [intOf]
            · have hcx := HCC3.out wr BQ.out
              obtain ⟨tj, htj⟩ : ∃ x, t + 3 = x := ⟨_, rfl⟩
              rw [htj] at hcx
              have htj' : (t : Int) + 3 = (tj : Int) := by omega
              have htl : tj < n := by omega
              clear htj
              have HNX2 : Hid ((([s0, s1, s2, s3] : List ByteArray).take (3 + 1)).all (pR 7) = pR 7 s3) := by unfold Hid; rw [all_snocB _ _ _ (by simp), HAL.out, Bool.true_and]; rfl
              have HBAD : Hid (pR 7 s3 = false → rd rdR (hasK kd) ps (Ms.of kd) = none) := fun h => HFAIL.out [s0, s1, s2, s3] HQS.out (by rw [rdR_all (by omega)]; exact all_moreB (HNX2.out.trans h))
              cases hnb : numB10 s3
              · have HNB := hid hnb
                have HE := hid (HBAD.out (pR_no hnb))
                clear hnb
                go_wp2_with (first | (have kill := VZ2.out; refine st27 (r := Ms.zero) VZ2.out BW2.out hb6 rfl _ _ rfl rfl rfl ?_; intro w6 v6 l6; have V6 := hid v6; have L6 := hid l6; clear v6 l6 kill VZ2) | (have kill := VZ2.out; refine bd27 rfl rfl ?_) | (go_at_call 47; refine (number47 s3 _ HZ3.out).mono ?_; rintro e w4 ⟨rfl, rfl⟩; rw [HNB.out]))
                refine bodyPost_ret (results_c1 Tryd.results36 _ _ rfl rfl V6.out) rfl ?_
                exact td_no HE.out L6.out
              · have HNB := hid hnb
                have HNV := hid (nV10_yes hnb)
                obtain ⟨v, hv⟩ : ∃ v, numV s3 = v := ⟨_, rfl⟩
                rw [hv] at HNV
                have hv0 : 0 ≤ v := by rw [← hv]; exact numV_pos s3
                have HVV := hid hv
                have HT := hid (HNX2.out.trans (show pR 7 s3 = true by unfold pR; rw [hnb]; rfl))
                have FC : Hid ((stepM m 7 [s0, s1, s2, s3] (3 + 1)).cells = (stepM m 7 [s0, s1, s2, s3] 3).cells.take 20 ++ [.int .i64 v] ++ (stepM m 7 [s0, s1, s2, s3] 3).cells.drop (20 + 1)) := by unfold Hid; rw [← hv]; rfl
                have HNN : Hid (∀ w, Calls Tryd.prog 23 #[.pointer (some ⟨b8, 0, none⟩), .int .u8 100] w fun e w' => e = .returned (.tuple #[.pointer (some ⟨b8, 17, none⟩), .int .i64 (mostF 7)]) ∧ w = w') := fun w => notes23 b8 100 w (by omega)
                clear hnb hv
                go_wp2_with (first | (have kill := VQ.out; refine rv_store VQ.out BQ.out hb8 3 20 [.int .i64 v] (stepM m 7 [s0, s1, s2, s3] (3 + 1)) (by simp) FC.out n3 (one1 rfl) rfl _ _ rfl rfl rfl rfl ?_; intro w3 v3 l3; have V3' := hid v3; have L3' := hid l3; clear v3 l3 kill VQ) | (go_at_call 47; refine (number47 s3 _ HZ3.out).mono ?_; rintro e w4 ⟨rfl, rfl⟩; rw [HNB.out, HNV.out]) | (go_at_call 23; refine (HNN.out _).mono ?_; rintro e w3 ⟨rfl, rfl⟩))
                go_roundw
                case rel => exact ⟨3 + 1, by omega, by go_num, HT.out, V3'.out, L3'.out⟩
                case measure => simp [intOf]
            · have HRR : Hid (rdR 7 [s0, s1, s2, s3] = true) := by unfold Hid; rw [rdR_all (by omega)]; exact HAL.out
              have HS := hid (HSTEP.out [s0, s1, s2, s3] HQS.out HRR.out)
              have HSA := hid (step_all (m := m) (f := 7) (qs := [s0, s1, s2, s3]) HFT.out (by omega) rfl)
              have HOK2 := hid (ok_set HMO.out HFT.out HRR.out rfl)
              have HPZ2 : Hid ((setF m 7 [s0, s1, s2, s3]).pan.size ≤ 9223372036854775807) := HMP.out
              have VQ1 : Hid (RV wr b8 (setF m 7 [s0, s1, s2, s3])) := by have := VQ.out; rw [show (4 : Nat) = cntF 7 from rfl, HSA.out] at this; exact this
              clear VQ
              go_wp2
              go_roundw
              case rel => exact ⟨k + 1, t + 4, setF m 7 [s0, s1, s2, s3], by omega, by go_num, by go_num, by omega, VQ1.out, BQ.out, HOK2.out, HPZ2.out, HS.out⟩
              case measure => simp [intOf]; omega
      · have hcf : (l[k].toNat : Int) = 108 := by rw [hcc, e]; rfl
        have HHC : Hid (hasC ⟨#[110, 114, 99, 100, 109]⟩ 108 = false) := by unfold Hid; decide
        rw [e] at HDC HFT
        clear hcc HFM e
        have VZ := hid (V1.out.below BR.out)
        have BW := hid (sq L1.out BR.out)
        by_cases hlen : n < t + 1
        · have HE : Hid (rd rdR (hasK kd) ps (Ms.of kd) = none) := HRD.out.trans (HEQ.out.trans (by rw [HDC.out]; exact rd_len (by rw [HPD.out]; show n - t < 1; omega)))
          go_wp2_with (first | (have kill := VZ.out; refine st27 (r := Ms.zero) VZ.out BW.out hb6 rfl _ _ rfl rfl rfl ?_; intro w6 v6 l6; have V6 := hid v6; have L6 := hid l6; clear v6 l6 kill VZ) | (have kill := VZ.out; refine bd27 rfl rfl ?_) | (go_at_call 28; refine (has28 ⟨#[110, 114, 99, 100, 109]⟩ 108 _ (by decide)).mono ?_; rintro e w4 ⟨rfl, rfl⟩; rw [HHC.out]))
          refine bodyPost_ret (results_c1 Tryd.results36 _ _ rfl rfl V6.out) rfl ?_
          exact td_no HE.out L6.out
        · have hlen2 : t + 1 ≤ n := by omega
          have HQS : Hid ((ps.drop t).take 1 = [ps.getD t ⟨#[]⟩]) := parts1 (by rw [HPL.out]; omega)
          have HNX : Hid ((ps.drop t).drop 1 = ps.drop (t + 1)) := List.drop_drop
          have HSTEP : Hid (∀ qs, (ps.drop t).take 1 = qs → rdR 8 qs = true → RD = rd rdR (H.drop (k + 1)) (ps.drop (t + 1)) (setF m 8 qs)) := fun qs hqs hr => by
            rw [HEQ.out, HDC.out, rd_ok (by rw [HPD.out]; show ¬ n - t < 1; omega) (by rw [show cntF 8 = 1 from rfl, hqs]; exact hr), show cntF 8 = 1 from rfl, hqs, HNX.out]
          have HFAIL : Hid (∀ qs, (ps.drop t).take 1 = qs → rdR 8 qs = false → rd rdR (hasK kd) ps (Ms.of kd) = none) := fun qs hqs hr => by
            rw [HRD.out, HEQ.out, HDC.out]; exact rd_bad (by rw [show cntF 8 = 1 from rfl, hqs]; exact hr)
          obtain ⟨b0, o0, hao0, hc0⟩ := HG.out.cell t (by omega)
          subst hao0
          have HZ0 := hid (getD_txt HTX.out t)
          generalize ps.getD t ⟨#[]⟩ = s0 at *
          have HCC0 : Hid (∀ w', Below w1.heap.size w1 w' → w'.cell? ⟨b0, o0 + t, none⟩ = some (.string s0)) := fun w' h => by
            have hlo := World.block_lt_of_cell? w _ hc0
            have hsz := L1.out.size
            rw [(sq L1.out h).cell (p := ⟨b0, o0 + t, none⟩) hlo]; exact hc0
          clear hc0
          go_wp2_with (first | (go_at_call 28; refine (has28 ⟨#[110, 114, 99, 100, 109]⟩ 108 _ (by decide)).mono ?_; rintro e w4 ⟨rfl, rfl⟩; rw [HHC.out]))
          generalize wr = wa at *
          go_loopw [12] (fun i wr => ∃ (j : Nat), j ≤ 1 ∧ i = .int .i64 (j : Int) ∧ (([s0] : List ByteArray).take j).all (pR 8) = true ∧ RV wr b8 (stepM m 8 [s0] j) ∧ Below w1.heap.size w1 wr) (fun i _ => 1 - (intOf i).toNat)
          case atStart => exact ⟨0, by omega, rfl, rfl, by rw [step_none [s0] HFT.out (by omega)]; exact VR.out, BR.out⟩
          case round =>
            obtain ⟨j, hj, rfl, hall, hv, hb⟩ := hrel
            have VQ := hid hv
            have BQ := hid hb
            have HAL := hid hall
            have VZ2 := hid (V1.out.below hb)
            have BW2 := hid (sq L1.out hb)
            clear hv hb hall VR VZ BW
            have h0q : j = 0 ∨ j = 1 := by omega
            rcases h0q with rfl | rfl
            · have hcx := HCC0.out wr BQ.out
              have HNX2 : Hid ((([s0] : List ByteArray).take (0 + 1)).all (pR 8) = pR 8 s0) := by unfold Hid; rw [all_snocB _ _ _ (by simp), HAL.out, Bool.true_and]; rfl
              have HBAD : Hid (pR 8 s0 = false → rd rdR (hasK kd) ps (Ms.of kd) = none) := fun h => HFAIL.out [s0] HQS.out (by rw [rdR_all (by omega)]; exact all_moreB (HNX2.out.trans h))
              cases hnb : numB10 s0
              · have HNB := hid hnb
                have HE := hid (HBAD.out (pR_no hnb))
                clear hnb
                go_wp2_with (first | (have kill := VZ2.out; refine st27 (r := Ms.zero) VZ2.out BW2.out hb6 rfl _ _ rfl rfl rfl ?_; intro w6 v6 l6; have V6 := hid v6; have L6 := hid l6; clear v6 l6 kill VZ2) | (have kill := VZ2.out; refine bd27 rfl rfl ?_) | (go_at_call 47; refine (number47 s0 _ HZ0.out).mono ?_; rintro e w4 ⟨rfl, rfl⟩; rw [HNB.out]))
                refine bodyPost_ret (results_c1 Tryd.results36 _ _ rfl rfl V6.out) rfl ?_
                exact td_no HE.out L6.out
              · have HNB := hid hnb
                have HNV := hid (nV10_yes hnb)
                obtain ⟨v, hv⟩ : ∃ v, numV s0 = v := ⟨_, rfl⟩
                rw [hv] at HNV
                have hv0 : 0 ≤ v := by rw [← hv]; exact numV_pos s0
                have HVV := hid hv
                have HT := hid (HNX2.out.trans (show pR 8 s0 = true by unfold pR; rw [hnb]; rfl))
                have FC : Hid ((stepM m 8 [s0] (0 + 1)).cells = (stepM m 8 [s0] 0).cells.take 21 ++ [.int .i64 v] ++ (stepM m 8 [s0] 0).cells.drop (21 + 1)) := by unfold Hid; rw [← hv]; rfl
                clear hnb hv
                go_wp2_with (first | (have kill := VQ.out; refine rv_store VQ.out BQ.out hb8 3 21 [.int .i64 v] (stepM m 8 [s0] (0 + 1)) (by simp) FC.out n3 (one1 rfl) rfl _ _ rfl rfl rfl rfl ?_; intro w3 v3 l3; have V3' := hid v3; have L3' := hid l3; clear v3 l3 kill VQ) | (go_at_call 47; refine (number47 s0 _ HZ0.out).mono ?_; rintro e w4 ⟨rfl, rfl⟩; rw [HNB.out, HNV.out]))
                go_roundw
                case rel => exact ⟨0 + 1, by omega, by go_num, HT.out, V3'.out, L3'.out⟩
                case measure => simp [intOf]
            · have HRR : Hid (rdR 8 [s0] = true) := by unfold Hid; rw [rdR_all (by omega)]; exact HAL.out
              have HS := hid (HSTEP.out [s0] HQS.out HRR.out)
              have HSA := hid (step_all (m := m) (f := 8) (qs := [s0]) HFT.out (by omega) rfl)
              have HOK2 := hid (ok_set HMO.out HFT.out HRR.out rfl)
              have HPZ2 : Hid ((setF m 8 [s0]).pan.size ≤ 9223372036854775807) := HMP.out
              have VQ1 : Hid (RV wr b8 (setF m 8 [s0])) := by have := VQ.out; rw [show (1 : Nat) = cntF 8 from rfl, HSA.out] at this; exact this
              clear VQ
              go_wp2
              go_roundw
              case rel => exact ⟨k + 1, t + 1, setF m 8 [s0], by omega, by go_num, by go_num, by omega, VQ1.out, BQ.out, HOK2.out, HPZ2.out, HS.out⟩
              case measure => simp [intOf]; omega
      · have hcf : (l[k].toNat : Int) = 109 := by rw [hcc, e]; rfl
        have HHC : Hid (hasC ⟨#[110, 114, 99, 100, 109]⟩ 109 = true) := by unfold Hid; decide
        rw [e] at HDC HFT
        clear hcc HFM e
        have VZ := hid (V1.out.below BR.out)
        have BW := hid (sq L1.out BR.out)
        by_cases hlen : n < t + 4
        · have HE : Hid (rd rdR (hasK kd) ps (Ms.of kd) = none) := HRD.out.trans (HEQ.out.trans (by rw [HDC.out]; exact rd_len (by rw [HPD.out]; show n - t < 4; omega)))
          go_wp2_with (first | (have kill := VZ.out; refine st27 (r := Ms.zero) VZ.out BW.out hb6 rfl _ _ rfl rfl rfl ?_; intro w6 v6 l6; have V6 := hid v6; have L6 := hid l6; clear v6 l6 kill VZ) | (have kill := VZ.out; refine bd27 rfl rfl ?_) | (go_at_call 28; refine (has28 ⟨#[110, 114, 99, 100, 109]⟩ 109 _ (by decide)).mono ?_; rintro e w4 ⟨rfl, rfl⟩; rw [HHC.out]))
          refine bodyPost_ret (results_c1 Tryd.results36 _ _ rfl rfl V6.out) rfl ?_
          exact td_no HE.out L6.out
        · have hlen2 : t + 4 ≤ n := by omega
          have HQS : Hid ((ps.drop t).take 4 = [ps.getD t ⟨#[]⟩, ps.getD (t + 1) ⟨#[]⟩, ps.getD (t + 2) ⟨#[]⟩, ps.getD (t + 3) ⟨#[]⟩]) := parts4 (by rw [HPL.out]; omega)
          have HNX : Hid ((ps.drop t).drop 4 = ps.drop (t + 4)) := List.drop_drop
          have HSTEP : Hid (∀ qs, (ps.drop t).take 4 = qs → rdR 9 qs = true → RD = rd rdR (H.drop (k + 1)) (ps.drop (t + 4)) (setF m 9 qs)) := fun qs hqs hr => by
            rw [HEQ.out, HDC.out, rd_ok (by rw [HPD.out]; show ¬ n - t < 4; omega) (by rw [show cntF 9 = 4 from rfl, hqs]; exact hr), show cntF 9 = 4 from rfl, hqs, HNX.out]
          have HFAIL : Hid (∀ qs, (ps.drop t).take 4 = qs → rdR 9 qs = false → rd rdR (hasK kd) ps (Ms.of kd) = none) := fun qs hqs hr => by
            rw [HRD.out, HEQ.out, HDC.out]; exact rd_bad (by rw [show cntF 9 = 4 from rfl, hqs]; exact hr)
          obtain ⟨b0, o0, hao0, hc0⟩ := HG.out.cell t (by omega)
          subst hao0
          have HZ0 := hid (getD_txt HTX.out t)
          generalize ps.getD t ⟨#[]⟩ = s0 at *
          obtain ⟨b1, o1, hao1, hc1⟩ := HG.out.cell (t + 1) (by omega)
          cases hao1
          have HZ1 := hid (getD_txt HTX.out (t + 1))
          generalize ps.getD (t + 1) ⟨#[]⟩ = s1 at *
          obtain ⟨b2, o2, hao2, hc2⟩ := HG.out.cell (t + 2) (by omega)
          cases hao2
          have HZ2 := hid (getD_txt HTX.out (t + 2))
          generalize ps.getD (t + 2) ⟨#[]⟩ = s2 at *
          obtain ⟨b3, o3, hao3, hc3⟩ := HG.out.cell (t + 3) (by omega)
          cases hao3
          have HZ3 := hid (getD_txt HTX.out (t + 3))
          generalize ps.getD (t + 3) ⟨#[]⟩ = s3 at *
          have HCC0 : Hid (∀ w', Below w1.heap.size w1 w' → w'.cell? ⟨b0, o0 + t, none⟩ = some (.string s0)) := fun w' h => by
            have hlo := World.block_lt_of_cell? w _ hc0
            have hsz := L1.out.size
            rw [(sq L1.out h).cell (p := ⟨b0, o0 + t, none⟩) hlo]; exact hc0
          have HCC1 : Hid (∀ w', Below w1.heap.size w1 w' → w'.cell? ⟨b0, o0 + (t + 1), none⟩ = some (.string s1)) := fun w' h => by
            have hlo := World.block_lt_of_cell? w _ hc1
            have hsz := L1.out.size
            rw [(sq L1.out h).cell (p := ⟨b0, o0 + (t + 1), none⟩) hlo]; exact hc1
          have HCC2 : Hid (∀ w', Below w1.heap.size w1 w' → w'.cell? ⟨b0, o0 + (t + 2), none⟩ = some (.string s2)) := fun w' h => by
            have hlo := World.block_lt_of_cell? w _ hc2
            have hsz := L1.out.size
            rw [(sq L1.out h).cell (p := ⟨b0, o0 + (t + 2), none⟩) hlo]; exact hc2
          have HCC3 : Hid (∀ w', Below w1.heap.size w1 w' → w'.cell? ⟨b0, o0 + (t + 3), none⟩ = some (.string s3)) := fun w' h => by
            have hlo := World.block_lt_of_cell? w _ hc3
            have hsz := L1.out.size
            rw [(sq L1.out h).cell (p := ⟨b0, o0 + (t + 3), none⟩) hlo]; exact hc3
          clear hc0 hc1 hc2 hc3
          go_wp2_with (first | (go_at_call 28; refine (has28 ⟨#[110, 114, 99, 100, 109]⟩ 109 _ (by decide)).mono ?_; rintro e w4 ⟨rfl, rfl⟩; rw [HHC.out]))
          generalize wr = wa at *
          go_loopw [12] (fun i wr => ∃ (j : Nat), j ≤ 4 ∧ i = .int .i64 (j : Int) ∧ (([s0, s1, s2, s3] : List ByteArray).take j).all (pR 9) = true ∧ RV wr b8 (stepM m 9 [s0, s1, s2, s3] j) ∧ Below w1.heap.size w1 wr) (fun i _ => 4 - (intOf i).toNat)
          case atStart => exact ⟨0, by omega, rfl, rfl, by rw [step_none [s0, s1, s2, s3] HFT.out (by omega)]; exact VR.out, BR.out⟩
          case round =>
            obtain ⟨j, hj, rfl, hall, hv, hb⟩ := hrel
            have VQ := hid hv
            have BQ := hid hb
            have HAL := hid hall
            have VZ2 := hid (V1.out.below hb)
            have BW2 := hid (sq L1.out hb)
            clear hv hb hall VR VZ BW
            have h0q : j = 0 ∨ j = 1 ∨ j = 2 ∨ j = 3 ∨ j = 4 := by omega
            rcases h0q with rfl | rfl | rfl | rfl | rfl
            · have hcx := HCC0.out wr BQ.out
              have HNX2 : Hid ((([s0, s1, s2, s3] : List ByteArray).take (0 + 1)).all (pR 9) = pR 9 s0) := by unfold Hid; rw [all_snocB _ _ _ (by simp), HAL.out, Bool.true_and]; rfl
              have HBAD : Hid (pR 9 s0 = false → rd rdR (hasK kd) ps (Ms.of kd) = none) := fun h => HFAIL.out [s0, s1, s2, s3] HQS.out (by rw [rdR_all (by omega)]; exact all_moreB (HNX2.out.trans h))
              cases hnb : numB10 s0
              · have HNB := hid hnb
                have HE := hid (HBAD.out (pR_no hnb))
                clear hnb
                go_wp2_with (first | (have kill := VZ2.out; refine st27 (r := Ms.zero) VZ2.out BW2.out hb6 rfl _ _ rfl rfl rfl ?_; intro w6 v6 l6; have V6 := hid v6; have L6 := hid l6; clear v6 l6 kill VZ2) | (have kill := VZ2.out; refine bd27 rfl rfl ?_) | (go_at_call 47; refine (number47 s0 _ HZ0.out).mono ?_; rintro e w4 ⟨rfl, rfl⟩; rw [HNB.out]))
                refine bodyPost_ret (results_c1 Tryd.results36 _ _ rfl rfl V6.out) rfl ?_
                exact td_no HE.out L6.out
              · have HNB := hid hnb
                have HNV := hid (nV10_yes hnb)
                obtain ⟨v, hv⟩ : ∃ v, numV s0 = v := ⟨_, rfl⟩
                rw [hv] at HNV
                have hv0 : 0 ≤ v := by rw [← hv]; exact numV_pos s0
                have HVV := hid hv
                have HT := hid (HNX2.out.trans (show pR 9 s0 = true by unfold pR; rw [hnb]; rfl))
                have FC : Hid ((stepM m 9 [s0, s1, s2, s3] (0 + 1)).cells = (stepM m 9 [s0, s1, s2, s3] 0).cells.take 22 ++ [.int .i64 v] ++ (stepM m 9 [s0, s1, s2, s3] 0).cells.drop (22 + 1)) := by unfold Hid; rw [← hv]; rfl
                have HNN : Hid (∀ w, Calls Tryd.prog 23 #[.pointer (some ⟨b8, 0, none⟩), .int .u8 109] w fun e w' => e = .returned (.tuple #[.pointer (some ⟨b8, 22, none⟩), .int .i64 (mostF 9)]) ∧ w = w') := fun w => notes23 b8 109 w (by omega)
                clear hnb hv
                go_wp2_with (first | (have kill := VQ.out; refine rv_store VQ.out BQ.out hb8 3 22 [.int .i64 v] (stepM m 9 [s0, s1, s2, s3] (0 + 1)) (by simp) FC.out n3 (one1 rfl) rfl _ _ rfl rfl rfl rfl ?_; intro w3 v3 l3; have V3' := hid v3; have L3' := hid l3; clear v3 l3 kill VQ) | (go_at_call 47; refine (number47 s0 _ HZ0.out).mono ?_; rintro e w4 ⟨rfl, rfl⟩; rw [HNB.out, HNV.out]) | (go_at_call 23; refine (HNN.out _).mono ?_; rintro e w3 ⟨rfl, rfl⟩))
                go_roundw
                case rel => exact ⟨0 + 1, by omega, by go_num, HT.out, V3'.out, L3'.out⟩
                case measure => simp [intOf]
            · have hcx := HCC1.out wr BQ.out
              obtain ⟨tj, htj⟩ : ∃ x, t + 1 = x := ⟨_, rfl⟩
              rw [htj] at hcx
              have htj' : (t : Int) + 1 = (tj : Int) := by omega
              have htl : tj < n := by omega
              clear htj
              have HNX2 : Hid ((([s0, s1, s2, s3] : List ByteArray).take (1 + 1)).all (pR 9) = pR 9 s1) := by unfold Hid; rw [all_snocB _ _ _ (by simp), HAL.out, Bool.true_and]; rfl
              have HBAD : Hid (pR 9 s1 = false → rd rdR (hasK kd) ps (Ms.of kd) = none) := fun h => HFAIL.out [s0, s1, s2, s3] HQS.out (by rw [rdR_all (by omega)]; exact all_moreB (HNX2.out.trans h))
              cases hnb : numB10 s1
              · have HNB := hid hnb
                have HE := hid (HBAD.out (pR_no hnb))
                clear hnb
                go_wp2_with (first | (have kill := VZ2.out; refine st27 (r := Ms.zero) VZ2.out BW2.out hb6 rfl _ _ rfl rfl rfl ?_; intro w6 v6 l6; have V6 := hid v6; have L6 := hid l6; clear v6 l6 kill VZ2) | (have kill := VZ2.out; refine bd27 rfl rfl ?_) | (go_at_call 47; refine (number47 s1 _ HZ1.out).mono ?_; rintro e w4 ⟨rfl, rfl⟩; rw [HNB.out]))
                refine bodyPost_ret (results_c1 Tryd.results36 _ _ rfl rfl V6.out) rfl ?_
                exact td_no HE.out L6.out
              · have HNB := hid hnb
                have HNV := hid (nV10_yes hnb)
                obtain ⟨v, hv⟩ : ∃ v, numV s1 = v := ⟨_, rfl⟩
                rw [hv] at HNV
                have hv0 : 0 ≤ v := by rw [← hv]; exact numV_pos s1
                have HVV := hid hv
                have HT := hid (HNX2.out.trans (show pR 9 s1 = true by unfold pR; rw [hnb]; rfl))
                have FC : Hid ((stepM m 9 [s0, s1, s2, s3] (1 + 1)).cells = (stepM m 9 [s0, s1, s2, s3] 1).cells.take 23 ++ [.int .i64 v] ++ (stepM m 9 [s0, s1, s2, s3] 1).cells.drop (23 + 1)) := by unfold Hid; rw [← hv]; rfl
                have HNN : Hid (∀ w, Calls Tryd.prog 23 #[.pointer (some ⟨b8, 0, none⟩), .int .u8 109] w fun e w' => e = .returned (.tuple #[.pointer (some ⟨b8, 22, none⟩), .int .i64 (mostF 9)]) ∧ w = w') := fun w => notes23 b8 109 w (by omega)
                clear hnb hv
                go_wp2_with (first | (have kill := VQ.out; refine rv_store VQ.out BQ.out hb8 3 23 [.int .i64 v] (stepM m 9 [s0, s1, s2, s3] (1 + 1)) (by simp) FC.out n3 (one1 rfl) rfl _ _ rfl rfl rfl rfl ?_; intro w3 v3 l3; have V3' := hid v3; have L3' := hid l3; clear v3 l3 kill VQ) | (go_at_call 47; refine (number47 s1 _ HZ1.out).mono ?_; rintro e w4 ⟨rfl, rfl⟩; rw [HNB.out, HNV.out]) | (go_at_call 23; refine (HNN.out _).mono ?_; rintro e w3 ⟨rfl, rfl⟩))
                go_roundw
                case rel => exact ⟨1 + 1, by omega, by go_num, HT.out, V3'.out, L3'.out⟩
                case measure => simp [intOf]
            · have hcx := HCC2.out wr BQ.out
              obtain ⟨tj, htj⟩ : ∃ x, t + 2 = x := ⟨_, rfl⟩
              rw [htj] at hcx
              have htj' : (t : Int) + 2 = (tj : Int) := by omega
              have htl : tj < n := by omega
              clear htj
              have HNX2 : Hid ((([s0, s1, s2, s3] : List ByteArray).take (2 + 1)).all (pR 9) = pR 9 s2) := by unfold Hid; rw [all_snocB _ _ _ (by simp), HAL.out, Bool.true_and]; rfl
              have HBAD : Hid (pR 9 s2 = false → rd rdR (hasK kd) ps (Ms.of kd) = none) := fun h => HFAIL.out [s0, s1, s2, s3] HQS.out (by rw [rdR_all (by omega)]; exact all_moreB (HNX2.out.trans h))
              cases hnb : numB10 s2
              · have HNB := hid hnb
                have HE := hid (HBAD.out (pR_no hnb))
                clear hnb
                go_wp2_with (first | (have kill := VZ2.out; refine st27 (r := Ms.zero) VZ2.out BW2.out hb6 rfl _ _ rfl rfl rfl ?_; intro w6 v6 l6; have V6 := hid v6; have L6 := hid l6; clear v6 l6 kill VZ2) | (have kill := VZ2.out; refine bd27 rfl rfl ?_) | (go_at_call 47; refine (number47 s2 _ HZ2.out).mono ?_; rintro e w4 ⟨rfl, rfl⟩; rw [HNB.out]))
                refine bodyPost_ret (results_c1 Tryd.results36 _ _ rfl rfl V6.out) rfl ?_
                exact td_no HE.out L6.out
              · have HNB := hid hnb
                have HNV := hid (nV10_yes hnb)
                obtain ⟨v, hv⟩ : ∃ v, numV s2 = v := ⟨_, rfl⟩
                rw [hv] at HNV
                have hv0 : 0 ≤ v := by rw [← hv]; exact numV_pos s2
                have HVV := hid hv
                have HT := hid (HNX2.out.trans (show pR 9 s2 = true by unfold pR; rw [hnb]; rfl))
                have FC : Hid ((stepM m 9 [s0, s1, s2, s3] (2 + 1)).cells = (stepM m 9 [s0, s1, s2, s3] 2).cells.take 24 ++ [.int .i64 v] ++ (stepM m 9 [s0, s1, s2, s3] 2).cells.drop (24 + 1)) := by unfold Hid; rw [← hv]; rfl
                have HNN : Hid (∀ w, Calls Tryd.prog 23 #[.pointer (some ⟨b8, 0, none⟩), .int .u8 109] w fun e w' => e = .returned (.tuple #[.pointer (some ⟨b8, 22, none⟩), .int .i64 (mostF 9)]) ∧ w = w') := fun w => notes23 b8 109 w (by omega)
                clear hnb hv
                go_wp2_with (first | (have kill := VQ.out; refine rv_store VQ.out BQ.out hb8 3 24 [.int .i64 v] (stepM m 9 [s0, s1, s2, s3] (2 + 1)) (by simp) FC.out n3 (one1 rfl) rfl _ _ rfl rfl rfl rfl ?_; intro w3 v3 l3; have V3' := hid v3; have L3' := hid l3; clear v3 l3 kill VQ) | (go_at_call 47; refine (number47 s2 _ HZ2.out).mono ?_; rintro e w4 ⟨rfl, rfl⟩; rw [HNB.out, HNV.out]) | (go_at_call 23; refine (HNN.out _).mono ?_; rintro e w3 ⟨rfl, rfl⟩))
                go_roundw
                case rel => exact ⟨2 + 1, by omega, by go_num, HT.out, V3'.out, L3'.out⟩
                case measure => simp [intOf]
            · have hcx := HCC3.out wr BQ.out
              obtain ⟨tj, htj⟩ : ∃ x, t + 3 = x := ⟨_, rfl⟩
              rw [htj] at hcx
              have htj' : (t : Int) + 3 = (tj : Int) := by omega
              have htl : tj < n := by omega
              clear htj
              have HNX2 : Hid ((([s0, s1, s2, s3] : List ByteArray).take (3 + 1)).all (pR 9) = pR 9 s3) := by unfold Hid; rw [all_snocB _ _ _ (by simp), HAL.out, Bool.true_and]; rfl
              have HBAD : Hid (pR 9 s3 = false → rd rdR (hasK kd) ps (Ms.of kd) = none) := fun h => HFAIL.out [s0, s1, s2, s3] HQS.out (by rw [rdR_all (by omega)]; exact all_moreB (HNX2.out.trans h))
              cases hnb : numB10 s3
              · have HNB := hid hnb
                have HE := hid (HBAD.out (pR_no hnb))
                clear hnb
                go_wp2_with (first | (have kill := VZ2.out; refine st27 (r := Ms.zero) VZ2.out BW2.out hb6 rfl _ _ rfl rfl rfl ?_; intro w6 v6 l6; have V6 := hid v6; have L6 := hid l6; clear v6 l6 kill VZ2) | (have kill := VZ2.out; refine bd27 rfl rfl ?_) | (go_at_call 47; refine (number47 s3 _ HZ3.out).mono ?_; rintro e w4 ⟨rfl, rfl⟩; rw [HNB.out]))
                refine bodyPost_ret (results_c1 Tryd.results36 _ _ rfl rfl V6.out) rfl ?_
                exact td_no HE.out L6.out
              · have HNB := hid hnb
                have HNV := hid (nV10_yes hnb)
                obtain ⟨v, hv⟩ : ∃ v, numV s3 = v := ⟨_, rfl⟩
                rw [hv] at HNV
                have hv0 : 0 ≤ v := by rw [← hv]; exact numV_pos s3
                have HVV := hid hv
                have HT := hid (HNX2.out.trans (show pR 9 s3 = true by unfold pR; rw [hnb]; rfl))
                have FC : Hid ((stepM m 9 [s0, s1, s2, s3] (3 + 1)).cells = (stepM m 9 [s0, s1, s2, s3] 3).cells.take 25 ++ [.int .i64 v] ++ (stepM m 9 [s0, s1, s2, s3] 3).cells.drop (25 + 1)) := by unfold Hid; rw [← hv]; rfl
                have HNN : Hid (∀ w, Calls Tryd.prog 23 #[.pointer (some ⟨b8, 0, none⟩), .int .u8 109] w fun e w' => e = .returned (.tuple #[.pointer (some ⟨b8, 22, none⟩), .int .i64 (mostF 9)]) ∧ w = w') := fun w => notes23 b8 109 w (by omega)
                clear hnb hv
                go_wp2_with (first | (have kill := VQ.out; refine rv_store VQ.out BQ.out hb8 3 25 [.int .i64 v] (stepM m 9 [s0, s1, s2, s3] (3 + 1)) (by simp) FC.out n3 (one1 rfl) rfl _ _ rfl rfl rfl rfl ?_; intro w3 v3 l3; have V3' := hid v3; have L3' := hid l3; clear v3 l3 kill VQ) | (go_at_call 47; refine (number47 s3 _ HZ3.out).mono ?_; rintro e w4 ⟨rfl, rfl⟩; rw [HNB.out, HNV.out]) | (go_at_call 23; refine (HNN.out _).mono ?_; rintro e w3 ⟨rfl, rfl⟩))
                go_roundw
                case rel => exact ⟨3 + 1, by omega, by go_num, HT.out, V3'.out, L3'.out⟩
                case measure => simp [intOf]
            · have HRR : Hid (rdR 9 [s0, s1, s2, s3] = true) := by unfold Hid; rw [rdR_all (by omega)]; exact HAL.out
              have HS := hid (HSTEP.out [s0, s1, s2, s3] HQS.out HRR.out)
              have HSA := hid (step_all (m := m) (f := 9) (qs := [s0, s1, s2, s3]) HFT.out (by omega) rfl)
              have HOK2 := hid (ok_set HMO.out HFT.out HRR.out rfl)
              have HPZ2 : Hid ((setF m 9 [s0, s1, s2, s3]).pan.size ≤ 9223372036854775807) := HMP.out
              have VQ1 : Hid (RV wr b8 (setF m 9 [s0, s1, s2, s3])) := by have := VQ.out; rw [show (4 : Nat) = cntF 9 from rfl, HSA.out] at this; exact this
              clear VQ
              go_wp2
              go_roundw
              case rel => exact ⟨k + 1, t + 4, setF m 9 [s0, s1, s2, s3], by omega, by go_num, by go_num, by omega, VQ1.out, BQ.out, HOK2.out, HPZ2.out, HS.out⟩
              case measure => simp [intOf]; omega
    · have HDN : Hid (H.drop k = []) := List.drop_of_length_le (by rw [← HLL.out]; omega)
      have VZ := hid (V1.out.below BR.out)
      have BW := hid (sq L1.out BR.out)
      by_cases h0 : t = n
      · have HE : Hid (rd rdR (hasK kd) ps (Ms.of kd) = some m) := HRD.out.trans (HEQ.out.trans (by rw [HDN.out]; unfold rd; rw [if_pos (by rw [List.length_drop, HPL.out]; omega)]))
        subst h0
        go_wp2_with (first | (have kill := VZ.out; refine st27 (r := m) VZ.out BW.out hb6 rfl _ _ rfl rfl rfl ?_; intro w6 v6 l6; have V6 := hid v6; have L6 := hid l6; clear v6 l6 kill VZ) | (have kill := VR.out; refine ld27 VR.out rfl _ rfl rfl ?_))
        refine bodyPost_ret (results_c1 Tryd.results36 _ _ rfl rfl V6.out) rfl ?_
        exact td_yes HE.out L6.out HMO.out HMP.out
      · have HE : Hid (rd rdR (hasK kd) ps (Ms.of kd) = none) := HRD.out.trans (HEQ.out.trans (by rw [HDN.out]; unfold rd; rw [if_neg (by rw [List.length_drop, HPL.out]; omega)]))
        have e1 : ((t : Int) == (n : Int)) = false := by simp; omega
        go_wp2_with (first | (have kill := VZ.out; refine st27 (r := m) VZ.out BW.out hb6 rfl _ _ rfl rfl rfl ?_; intro w6 v6 l6; have V6 := hid v6; have L6 := hid l6; clear v6 l6 kill VZ) | (have kill := VR.out; refine ld27 VR.out rfl _ rfl rfl ?_))
        refine bodyPost_ret (results_c1 Tryd.results36 _ _ rfl rfl V6.out) rfl ?_
        exact td_bad HE.out L6.out HMO.out HMP.out
end Go.Proofs.YtbipikbefokihaaDoor
