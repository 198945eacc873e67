/- Parts of a row of texts; readField. -/
import Derived.Test.YtbipikbefokihaaDoorPutC
namespace Go.Proofs.YtbipikbefokihaaDoor
open Go.ChangeShapes Go.WideShapes Go.ChangeAt Go.RowKit

theorem T.RowAt.piece {w : World} {b off : Nat} {l : List ByteArray} (h : T.RowAt w (Option.some ⟨b, off, Option.none⟩) l) (m : Nat) : T.RowAt w (Option.some ⟨b, off, Option.none⟩) (l.take m) := by
  rcases h with h | ⟨b', o', e, hc⟩
  · left; subst h; simp
  · cases e
    refine .inr ⟨_, _, rfl, fun j hj => ?_⟩
    rw [List.length_take] at hj
    rw [hc j (by omega)]
    congr 2
    have h1 : j < m := by omega
    simp [h1]
theorem txt_take {l : List ByteArray} (h : Txt l) (k : Nat) : Txt (l.take k) := fun s hs => h s (List.mem_of_mem_take hs)
theorem txt_drop {l : List ByteArray} (h : Txt l) (k : Nat) : Txt (l.drop k) := fun s hs => h s (List.mem_of_mem_drop hs)
theorem T.sub_h {ao : Option Addr} {len cap : Nat} (j : Nat) (t : Int) (ht : t = j) (hj : j ≤ len) (hc : len ≤ cap) :
    ∃ ao', (∀ w, (Instr.sliceAt 54 (.slice ao len cap) none (some (.int .i64 t)) none).run Tryd.prog w = .ok (.slice ao' j cap) w) ∧ (∀ w zs, T.Given w ao len cap zs → T.Given w ao' j cap (zs.take j)) := by
  subst ht
  refine ⟨if cap = 0 then ao else ao.map (·.add (0 * 1)), fun w => ?_, fun w zs h => ?_⟩
  · have h2 : (j : Int) ≤ cap := by omega
    by_cases hc0 : cap = 0
    · obtain rfl : j = 0 := by omega
      simp [Instr.sliceAt, Instr.slice, Instr.sliceBounds, Instr.sliceBound, run_underlying Tryd.underlying54, asIntOf, hc0]
    · simp [Instr.sliceAt, Instr.slice, Instr.sliceBounds, Instr.sliceBound, run_underlying Tryd.underlying54, asIntOf, hc0]
      intro hj'; omega
  · have h1 := h.leq
    have h2 := h.cap2
    refine ⟨by simp; omega, txt_take h.byt _, ?_, by omega, by omega⟩
    by_cases h0 : cap = 0
    · left; rw [show j = 0 by omega]; rfl
    · rw [if_neg h0]
      rcases h.row with e | ⟨b, o, e, hr⟩
      · left; rw [e]; simp
      · subst e
        have := (h.row).piece j
        simpa [Addr.add_mid] using this
theorem T.sub_l {ao : Option Addr} {len cap : Nat} (i : Nat) (t : Int) (ht : t = i) (hi : i ≤ len) (hc : len ≤ cap) :
    ∃ ao', (∀ w, (Instr.sliceAt 54 (.slice ao len cap) (some (.int .i64 t)) none none).run Tryd.prog w = .ok (.slice ao' (len - i) (cap - i)) w) ∧ (∀ w zs, T.Given w ao len cap zs → T.Given w ao' (len - i) (cap - i) (zs.drop i)) := by
  subst ht
  refine ⟨if cap = i then ao else ao.map (·.add (i * 1)), fun w => ?_, fun w zs h => ?_⟩
  · have h1 : (i : Int) ≤ len := by omega
    have h2 : (len : Int) ≤ cap := by omega
    simp [Instr.sliceAt, Instr.slice, Instr.sliceBounds, Instr.sliceBound, run_underlying Tryd.underlying54, asIntOf]
    intro hj; omega
  · have h1 := h.leq
    have h2 := h.cap2
    refine ⟨by rw [List.length_drop]; omega, txt_drop h.byt _, ?_, by omega, by omega⟩
    by_cases hc : cap = i
    · left; rw [List.drop_of_length_le (by omega)]
    · rw [if_neg hc]
      rcases h.row with e | ⟨b, o, e, hr⟩
      · left; rw [e]; simp
      · subst e
        have := (h.row).tail i
        simpa [Addr.add_mid] using this
theorem setN_setF {m : Ms} {f : Int} {ps : List ByteArray} (hf : f ∈ tenF) (h2 : ¬ f = 2) (hl : ps.length = cntF f) : setN m f (ps.map numV) = setF m f ps := by
  rcases ten_cases hf with rfl | rfl | rfl | rfl | rfl | rfl | rfl | rfl | rfl | rfl
  case inr.inr.inl => exact absurd rfl h2
  all_goals first
    | (have e := list4 ⟨#[]⟩ (l := ps) (by rw [hl]; rfl); rw [e]; rfl)
    | (have e := list1 ⟨#[]⟩ (l := ps) (by rw [hl]; rfl); rw [e]; rfl)
/-- What readField does: the message at b, of the caller's, is set where the parts will do. -/
def RfAns (w0 : World) (b : Nat) (m : Ms) (f : Int) (ps : List ByteArray) (e : Ending) (w' : World) : Prop :=
  e = .returned (.bool (rdF f ps)) ∧ Below w0.heap.size w0 w' ∧ ∃ m', RV w' b m' ∧ (rdF f ps = true → m' = setF m f ps)
theorem numB_in {hi : Int} {s : ByteArray} (h : numB hi s = true) : inB hi (numV s) = true ∧ nV hi s = numV s := by
  have hp := numV_pos s
  refine ⟨?_, by unfold nV; rw [if_pos h]⟩
  unfold numB at h
  simp only [Bool.and_eq_true, decide_eq_true_eq] at h
  simp [inB, hp, h.2.1]
theorem map_takeV (L : List ByteArray) (k : Nat) (h : k < L.length) : (L.map numV).take (k + 1) = (L.map numV).take k ++ [numV (L.getD k ⟨#[]⟩)] := by
  rw [take_snocG _ 0 k (by simpa using h)]
  simp [h]
theorem all_snocB (p : ByteArray → Bool) (l : List ByteArray) (k : Nat) (h : k < l.length) : (l.take (k + 1)).all p = ((l.take k).all p && p (l.getD k ⟨#[]⟩)) := by
  rw [take_snocG l ⟨#[]⟩ k h, List.all_append]; simp
theorem all_moreB {p : ByteArray → Bool} {l : List ByteArray} {k : Nat} (h : (l.take k).all p = false) : l.all p = false := by
  rw [← List.take_append_drop k l, List.all_append, h]; rfl
theorem getD_txt {l : List ByteArray} (h : Txt l) (k : Nat) : (l.getD k ⟨#[]⟩).size ≤ 9223372036854775807 := by
  by_cases hk : k < l.length
  · have : l.getD k ⟨#[]⟩ = l[k] := by simp [hk]
    rw [this]; exact h _ (List.getElem_mem hk)
  · simp [hk]; exact Nat.zero_le _
theorem numV_wid {l : List ByteArray} {hi : Int} (hh : hi ≤ 2147483647) (h : l.all (numB hi) = true) : Wid (l.map numV) ∧ (l.map numV).all (inB hi) = true := by
  rw [List.all_eq_true] at h
  constructor
  · intro v hv
    obtain ⟨s, hs, rfl⟩ := List.mem_map.1 hv
    have : 0 ≤ numV s ∧ numV s ≤ hi := by simpa [inB] using (numB_in (h s hs)).1
    omega
  · rw [List.all_eq_true]
    intro v hv
    obtain ⟨s, hs, rfl⟩ := List.mem_map.1 hv
    exact (numB_in (h s hs)).1
set_option maxHeartbeats 4000000 in
theorem readField34 (m : Ms) (f : Int) (ps : List ByteArray) (ao : Option Addr) (n cap b : Nat) (w0 w : World) (hf : f ∈ tenF) (hl : ps.length = cntF f) (hg : T.Given w ao n cap ps) (hv : RV w b m) (hb : w0.heap.size ≤ b) (hB : Below w0.heap.size w0 w) :
    Calls Tryd.prog 34 #[.pointer (some ⟨b, 0, none⟩), .int .i64 f, .slice ao n cap] w (RfAns w0 b m f ps) := by
  have HF := hid hf
  have HQ := hid hg.leq
  have HG := hid hg
  have hcap := hg.cap1
  have hcap2 := hg.cap2
  have HV := hid hv
  have HB := hid hB
  have HTX := hid hg.byt
  have HLC := hid hl
  clear hg hv hB
  by_cases h2 : f = 2
  · subst h2
    have hn : n = 1 := by rw [← HQ.out, hl]; rfl
    subst hn
    obtain ⟨bb, oo, rfl, hc⟩ := HG.out.cell 0 (by omega)
    obtain ⟨s, hs⟩ : ∃ s, ps.getD 0 ⟨#[]⟩ = s := ⟨_, rfl⟩
    rw [hs, Nat.add_zero] at hc
    have HSZ : Hid (s.size ≤ 9223372036854775807) := by unfold Hid; rw [← hs]; exact getD_txt HTX.out 0
    have HR : Hid (rdF 2 ps = panB s) := by unfold Hid rdF at4; rw [if_pos rfl, hs]
    have HS : Hid (setF m 2 ps = { m with pan := s }) := by unfold Hid setF at4; rw [hs]; rfl
    have FC : Hid (({ m with pan := s } : Ms).cells = m.cells.take 3 ++ [.string s] ++ m.cells.drop (3 + 1)) := rfl
    clear hs hl hf HQ HG
    go_enter Tryd.func34, Tryd.ntmps34
    go_wp2_with (first | (go_at_call 42; have kill := V3.out; refine (isPan42 s _ HSZ.out).mono ?_; rintro e w4 ⟨rfl, l4⟩; have V4 := hid (V3.out.below l4); have L4 := hid (L3.out.trans (l4.mono L3.out.size)); clear l4 kill V3 L3) | (have kill := HV.out; refine rv_store HV.out HB.out hb 9 3 [.string s] { m with pan := s } (by simp) FC.out n9 (one1 rfl) rfl _ _ rfl rfl rfl rfl ?_; intro w3 v3 l3; have V3 := hid v3; have cp : w3.cell? ⟨b, 3, none⟩ = some (.string s) := v3.cell 3 rfl; have L3 := hid l3; clear v3 l3 kill HV))
    go_ret
    exact ⟨by rw [HR.out]; rfl, L4.out, _, V4.out, fun _ => HS.out.symm⟩
  · have e2 : (f == 2) = false := by simpa using h2
    have HNE := hid h2
    obtain ⟨hi, hhi⟩ : ∃ hi, mostF f = hi := ⟨_, rfl⟩
    have HHI := hid hhi
    have HML : Hid (hi ≤ 2147483647) := by unfold Hid; rw [← hhi]; exact most_le f
    have HR : Hid (rdF f ps = ps.all (numB hi)) := by unfold Hid rdF; rw [if_neg h2, hhi]
    have h4 : n ≤ 4 := by rw [← HQ.out, hl]; unfold cntF; split <;> omega
    clear hl hf hhi h2
    go_enter Tryd.func34, Tryd.ntmps34
    go_wp2
    go_loopw [7, 27] (fun x i wr => ∃ (k n2 c : Nat) (a : Option Addr), k ≤ n ∧ i = .int .i64 (k : Int) ∧ x = .slice a n2 c ∧ n2 = k ∧ (ps.take k).all (numB hi) = true ∧ I.Mk w wr (.slice a n2 c) n2 ((ps.map numV).take k)) (fun _ i _ => n - (intOf i).toNat)
    case atStart => exact ⟨0, 0, 0, none, by omega, rfl, rfl, rfl, rfl, I.Mk.nil w⟩
    case round =>
      obtain ⟨k, n2, c, a, hk, rfl, rfl, hn2, hall, hmk⟩ := hrel
      have M := hid hmk
      have HA := hid hall
      have GR := hid (HG.out.below hmk.2)
      have VR := hid (HV.out.below hmk.2)
      have BR := hid (HB.out.trans (hmk.2.mono HB.out.size))
      have ca := hmk.1.caps
      have ca1 := ca.2.1
      have ca2 := ca.2.2
      clear hmk ca hall
      subst hn2
      by_cases hlt : n2 < n
      · have HK : Hid (n2 < ps.length) := by unfold Hid; rw [HQ.out]; exact hlt
        obtain ⟨bb, oo, rfl, hc⟩ := GR.out.cell n2 hlt
        have HS := hid (map_takeV ps n2 HK.out)
        have HAS : Hid ((ps.take (n2 + 1)).all (numB hi) = numB hi (ps.getD n2 ⟨#[]⟩)) := by unfold Hid; rw [all_snocB _ _ _ HK.out, HA.out, Bool.true_and]
        have HSZ := hid (getD_txt HTX.out n2)
        generalize ps.getD n2 ⟨#[]⟩ = s at *
        cases hnb : numB hi s
        · have HNB := hid hnb
          have HE : Hid (rdF f ps = false) := HR.out.trans (all_moreB (HAS.out.trans hnb))
          clear hnb
          go_wp2_with (first | (go_at_call 45; refine (number45 s hi _ HSZ.out).mono ?_; rintro e w4 ⟨rfl, rfl⟩; rw [HNB.out]) | (go_at_call 43; refine (mostOf43 f _ HF.out).mono ?_; rintro e w4 ⟨rfl, rfl⟩; rw [HHI.out]))
          go_ret
          exact ⟨by rw [HE.out]; rfl, BR.out, m, VR.out, fun h => by rw [HE.out] at h; cases h⟩
        · have HNB := hid hnb
          have HVV := hid (numB_in hnb).2
          have HE := hid (HAS.out.trans hnb)
          clear hnb
          obtain ⟨x, hx⟩ : ∃ x, numV s = x := ⟨_, rfl⟩
          rw [hx] at HS HVV
          have M1 : Hid (I.Mk w (wr.alloc (.cells #[.int .i64 x] 2)) (.slice a n2 c) n2 ((ps.map numV).take n2)) := M.out.more (bel1 _ _)
          have R1 := hid (I.one_row wr x)
          have Q1 := hid (I.len1 x)
          clear hx
          go_wp2_with (first | (at_builtin; have kill := M1.out; refine I.app_row (l2 := [x]) M1.out.1 R1.out Q1.out (fun e => by cases e) M1.out.2.size (by omega) rfl _ _ rfl rfl rfl ?_; intro a5 c5 w5 r5 t5; have D5 := hid (M1.out.next r5 t5); clear r5 t5 kill M1) | (go_at_call 45; refine (number45 s hi _ HSZ.out).mono ?_; rintro e w4 ⟨rfl, rfl⟩; rw [HNB.out, HVV.out]) | (go_at_call 43; refine (mostOf43 f _ HF.out).mono ?_; rintro e w4 ⟨rfl, rfl⟩; rw [HHI.out]))
          go_roundw
          case rel => exact ⟨n2 + 1, n2 + 1, c5, a5, by omega, by go_num, rfl, rfl, HE.out, by rw [HS.out]; exact D5.out⟩
          case measure => simp [intOf]; omega
      · have hallv : (ps.map numV).take n2 = ps.map numV := List.take_of_length_le (by rw [List.length_map, HQ.out]; omega)
        have hallp : ps.take n2 = ps := List.take_of_length_le (by rw [HQ.out]; omega)
        rw [hallv] at M
        rw [hallp] at HA
        have HE : Hid (rdF f ps = true) := HR.out.trans HA.out
        have HW := hid (numV_wid HML.out HA.out)
        have HST := hid (setN_setF (m := m) HF.out HNE.out HLC.out)
        have HGI := hid (M.out.given HW.out.1)
        have HAI : Hid ((ps.map numV).all (inB (mostF f)) = true) := by unfold Hid; rw [HHI.out]; exact HW.out.2
        have HLM : Hid ((ps.map numV).length = cntF f) := by unfold Hid; rw [List.length_map]; exact HLC.out
        clear hallv hallp
        go_wp2_with (go_at_call 46; have kill := VR.out; refine (setNumbers46 m f (ps.map numV) _ _ _ b w0 _ HF.out HNE.out HLM.out HAI.out HGI.out VR.out hb BR.out).mono ?_; rintro e w4 ⟨rfl, v4, l4⟩; have V4 := hid v4; have L4 := hid l4; clear v4 l4 kill VR)
        go_ret
        exact ⟨by rw [HE.out]; rfl, L4.out, _, V4.out, fun _ => HST.out⟩
end Go.Proofs.YtbipikbefokihaaDoor
