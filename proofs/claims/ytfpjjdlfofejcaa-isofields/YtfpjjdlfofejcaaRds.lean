/- Read: the value of a field that bytes begin with. -/
import Derived.Test.YtfpjjdlfofejcaaRdL
namespace Go.Proofs.Ytfpjjdlfofejcaa
open Go.ChangeShapes Go.WideShapes Go.ChangeAt Go.RowKit

theorem len16_yes (D : Bool) (L V : Int) (ao : Option Addr) (len cap : Nat) (zs : List Int) (w : World) (h : Given w ao len cap zs) (h0 : 0 ≤ V) (h1 : V ≤ 100) (hb : rlB L V zs = true) :
    Calls Try.prog 55 #[.agg #[.bool D, .int .i64 L, .int .i64 V], .slice ao len cap] w fun e w' => e = .returned (.tuple #[.int .i64 (rlN L V zs), .int .i64 (rlA V : Int), .bool true]) ∧ Below w.heap.size w w' := by
  by_cases hV : V = 0
  · subst hV
    exact (len16_none D L ao len cap zs w).mono fun e w' q => ⟨q.1.2, q.2⟩
  · refine (len16_some D L V ao len cap zs w h (by omega) h1).mono ?_
    rintro e w' ⟨q | q, l⟩
    · exact ⟨q.2, l⟩
    · rw [hb] at q; cases q.1
theorem len16_no (D : Bool) (L V : Int) (ao : Option Addr) (len cap : Nat) (zs : List Int) (w : World) (h : Given w ao len cap zs) (h0 : 0 ≤ V) (h1 : V ≤ 100) (hb : rlB L V zs = false) :
    Calls Try.prog 55 #[.agg #[.bool D, .int .i64 L, .int .i64 V], .slice ao len cap] w fun e w' => e = .returned (.tuple #[.int .i64 0, .int .i64 0, .bool false]) ∧ Below w.heap.size w w' := by
  have hV : ¬ V = 0 := by rintro rfl; cases hb
  refine (len16_some D L V ao len cap zs w h (by omega) h1).mono ?_
  rintro e w' ⟨q | q, l⟩
  · rw [hb] at q; cases q.1
  · exact ⟨q.2, l⟩
/-- How long the value is; where its signs stand; what they are. -/
def rdK (n : Int) (zs : List Int) : Nat := (rlN (fL n) (fV n) zs).toNat
def rdZ (n : Int) (zs : List Int) : Nat := szD (fD n) (rdK n zs)
def rdP (n : Int) (zs : List Int) : List Int := pc zs (rlA (fV n)) (rdZ n zs)
def rdOk (n : Int) (zs : List Int) : Bool := fK n && rlB (fL n) (fV n) zs && decide (rlA (fV n) + rdZ n zs ≤ zs.length) && rsB (fD n) (rdP n zs) (rdK n zs)
def rdS (n : Int) (zs : List Int) : ByteArray := if rdOk n zs = true then rsS (fD n) (rdP n zs) (rdK n zs) else ⟨#[]⟩
def rdN (n : Int) (zs : List Int) : Nat := if rdOk n zs = true then rlA (fV n) + rdZ n zs else 0
def rdE (n : Int) (zs : List Int) : Int := if fK n = false then 27 else if rdOk n zs = true then 0 else 23
theorem rd_no {n : Int} {zs : List Int} (h : rdOk n zs = false) : rdS n zs = ⟨#[]⟩ ∧ rdN n zs = 0 := by
  unfold rdS rdN; rw [h]; exact ⟨rfl, rfl⟩
theorem rl_small {n : Int} {zs : List Int} (h : rlB (fL n) (fV n) zs = true) : 0 ≤ rlN (fL n) (fV n) zs ∧ rlN (fL n) (fV n) zs ≤ 999 := by
  have h9 := (f_any n).1
  unfold rlB at h
  unfold rlN
  by_cases hV : (fV n : Int) = 0
  · rw [if_pos hV]; omega
  · rw [if_neg hV]
    rw [decide_eq_false hV, Bool.false_or, Bool.and_eq_true] at h
    have h := h.2
    unfold fitI at h
    rw [if_neg hV, Bool.and_eq_true] at h
    have a := of_decide_eq_true h.1
    have b := of_decide_eq_true h.2
    omega
theorem rlA_small (n : Int) : rlA (fV n) ≤ 2 := by
  unfold rlA tookV
  rcases (f_any n).2.1 with e | ⟨e, _⟩ | ⟨e, _⟩ <;> rw [e] <;> decide
theorem fV_small (n : Int) : (0 : Int) ≤ fV n ∧ (fV n : Int) ≤ 100 := by
  rcases (f_any n).2.1 with e | ⟨e, _⟩ | ⟨e, _⟩ <;> omega
theorem szD_small (D : Bool) (k : Nat) (h : k ≤ 999) : szD D k ≤ 999 := by unfold szD; split <;> omega
set_option maxHeartbeats 2000000 in
theorem read11 (n : Int) (ao : Option Addr) (len cap : Nat) (zs : List Int) (w : World) (h : Given w ao len cap zs) :
    Calls Try.prog 48 #[.int .i64 n, .slice ao len cap] w fun e w' => e = .returned (.tuple #[.string (rdS n zs), .int .i64 (rdN n zs : Int), .int .i64 (rdE n zs)]) ∧ Below w.heap.size w w' := by
  have hof := fun w => of6' n w
  have hok : rdOk n zs = (fK n && rlB (fL n) (fV n) zs && decide (rlA (fV n) + rdZ n zs ≤ zs.length) && rsB (fD n) (rdP n zs) (rdK n zs)) := rfl
  have hsmall := @rl_small n zs
  have ha := rlA_small n
  have hz : rdK n zs ≤ 999 → rdZ n zs ≤ 999 := szD_small (fD n) (rdK n zs)
  have hzd : rdZ n zs = szD (fD n) (rdK n zs) := rfl
  have hP : rdP n zs = pc zs (rlA (fV n)) (rdZ n zs) := rfl
  have hK : rdK n zs = (rlN (fL n) (fV n) zs).toNat := rfl
  have hS : rdOk n zs = true → rdS n zs = rsS (fD n) (rdP n zs) (rdK n zs) ∧ rdN n zs = rlA (fV n) + rdZ n zs := fun e => ⟨if_pos e, if_pos e⟩
  have hE : rdE n zs = if fK n = false then 27 else if rdOk n zs = true then 0 else 23 := rfl
  have hN := @rd_no n zs
  obtain ⟨v0, v1⟩ := fV_small n
  generalize rdZ n zs = Z at *
  generalize rdP n zs = P at *
  generalize rdK n zs = KK at *
  generalize rdS n zs = RS at *
  generalize rdN n zs = RN at *
  generalize rdE n zs = RE at *
  generalize rdOk n zs = OK at *
  generalize fD n = D at *
  generalize (fL n : Int) = L at *
  generalize (fV n : Int) = V at *
  have HQ := hid h.leq
  have hc1 := h.cap1
  cases hk : fK n
  · rw [hk] at hof hok hE
    have ho : OK = false := hok
    have HN := hid (hN ho)
    have HE : Hid (RE = 27) := hid hE
    clear hk hN hS hok hsmall hz hE ho hK hP hzd ha v0 v1 HQ hc1
    go_enter Try.func48, Try.ntmps48
    go_wp2_with (go_at_call 34; refine (hof w).mono ?_; rintro e w1 ⟨rfl, l1⟩; have L1 := hid (sq l1 (bel1 w1 (.cells #[.bool D, .int .i64 L, .int .i64 V] 73))); clear l1)
    go_ret3
    exact ⟨by rw [HN.out.1, HN.out.2, HE.out]; rfl, L1.out⟩
  · rw [hk] at hof hok hE
    cases hb : rlB L V zs
    · have ho : OK = false := by rw [hok, hb]; rfl
      have HN := hid (hN ho)
      have HE : Hid (RE = 23) := hid (by rw [hE, ho]; rfl)
      have hln := fun w hg => len16_no D L V ao len cap zs w hg v0 v1 hb
      have HG := hid h
      clear hk hN hS hok hsmall hz hE ho hb hK hP hzd ha v0 v1 HQ hc1 h
      go_enter Try.func48, Try.ntmps48
      go_wp2_with (first | (go_at_call 55; have kill := L1.out; refine (hln _ (HG.out.below L1.out)).mono ?_; rintro e w2 ⟨rfl, l2⟩; have L2 := hid (sq L1.out l2); clear l2 kill) | (go_at_call 34; refine (hof w).mono ?_; rintro e w1 ⟨rfl, l1⟩; have L1 := hid (sq l1 (bel1 w1 (.cells #[.bool D, .int .i64 L, .int .i64 V] 73))); clear l1))
      go_ret3
      exact ⟨by rw [HN.out.1, HN.out.2, HE.out]; rfl, L2.out⟩
    · obtain ⟨s0, s1⟩ := hsmall hb
      have hK9 : KK ≤ 999 := by omega
      have hZ9 := hz hK9
      have hln := fun w hg => len16_yes D L V ao len cap zs w hg v0 v1 hb
      have hKn : rlN L V zs = (KK : Int) := by omega
      rw [hKn] at hln
      have HG := hid h
      have HK9 := hid hK9
      have HZD := hid hzd
      obtain ⟨A, hA⟩ : ∃ A, rlA V = A := ⟨_, rfl⟩
      rw [hA] at hln hok hP hS ha
      have F1 := fun w => FB.new w D L V 73
      have b1 := fun w => bel1 w (.cells #[.bool D, .int .i64 L, .int .i64 V] 73)
      rw [hb, HQ.out] at hok
      clear hk hsmall hz hb hK v0 v1 h s0 s1 hKn hA hzd hK9
      have ewr : wrap64 ((A : Int) + (Z : Int)) = (A : Int) + (Z : Int) := by have := IntKind.wrap_i64 ((A : Int) + (Z : Int)); unfold wrap64; omega
      go_enter Try.func48, Try.ntmps48
      by_cases hl : A + Z ≤ len
      · have hli : ¬ (len : Int) < (A : Int) + (Z : Int) := by omega
        rw [decide_eq_true hl] at hok
        have hok' : OK = rsB D P KK := hok
        clear hok
        obtain ⟨a1, hrun, hgv⟩ := sub_lh (ao := ao) A (A + Z) (by omega) hl hc1
        have hcast : ((A + Z : Nat) : Int) = (A : Int) + (Z : Int) := by omega
        have hsub : A + Z - A = Z := by omega
        rw [hcast, hsub] at hrun
        rw [hsub] at hgv
        have HGV := hid hgv
        have HP := hid hP
        have HZ := hid hZ9
        have HS := hid hS
        have HN := hid hN
        have HOK := hid hok'
        have HE := hid hE
        clear hgv hcast hsub hP hZ9 hS hN hok' hl ha hc1 hE
        go_upto_region 10 with (first | (go_at_call 56; have kill := L2.out; refine (size17 D L V KK _ (Nat.le_trans HK9.out (by omega))).mono ?_; rintro e w3 ⟨rfl, l3⟩; rw [← HZD.out]; have L3 := hid (sq L2.out l3); have F3 := hid (F2.out.more l3); clear l3 kill) | (go_at_call 55; have kill := L1.out; refine (hln _ (HG.out.below L1.out)).mono ?_; rintro e w2 ⟨rfl, l2⟩; have L2 := hid (sq L1.out l2); have F2 := hid ((F1 w1).more l2); obtain ⟨q0, q1, q2⟩ := F2.out; clear l2 kill) | (go_at_call 34; refine (hof w).mono ?_; rintro e w1 ⟨rfl, l1⟩; have L1 := hid (sq l1 (b1 w1)); clear l1))
        clear q0 q1 q2
        refine wp_region_noPanic ?_
        refine wp_region_held_drew (S := (fun w' => FB w' w1.heap.size D L V)) (by kernel_rfl) F3.out (fun hHeld => ?_)
        (refine tk_yes (v := .agg #[.bool D, .int .i64 L, .int .i64 V]) 0 (some 39) rfl rfl (by kernel_rfl) (by kernel_rfl) (by kernel_rfl) (fun _ _ _ h => h) (by rfl) ?_ hHeld ?_; focus (intro w hSw; obtain ⟨q0, q1, q2⟩ := id hSw; go_simp))
        try simp only [Act.put, List.setIfInBounds_toArray, List.set_cons_zero, List.set_cons_succ]
        (refine tk_yes (v := ?_) 1 (some 40) rfl rfl (by kernel_rfl) (by kernel_rfl) (by kernel_rfl) (fun _ _ _ h => h) (by rfl) ?_ hHeld ?_; rotate_left; focus (intro w hSw; go_simp; try with_reducible rfl))
        try simp only [Act.put, List.setIfInBounds_toArray, List.set_cons_zero, List.set_cons_succ]
        (refine tk_yes (v := ?_) 2 (some 41) rfl rfl (by kernel_rfl) (by kernel_rfl) (by kernel_rfl) (fun _ _ _ h => h) (by rfl) ?_ hHeld ?_; rotate_left; focus (intro w hSw; go_simp; try with_reducible rfl))
        try simp only [Act.put, List.setIfInBounds_toArray, List.set_cons_zero, List.set_cons_succ]
        (refine tk_yes (v := ?_) 3 (some 42) rfl rfl (by kernel_rfl) (by kernel_rfl) (by kernel_rfl) (fun _ _ _ h => h) (by rfl) ?_ hHeld ?_; rotate_left; focus (intro w hSw; go_simp; try with_reducible rfl))
        try simp only [Act.put, List.setIfInBounds_toArray, List.set_cons_zero, List.set_cons_succ]
        (refine tk_yes (v := .slice a1 Z (cap - A)) 4 (some 43) rfl rfl (by kernel_rfl) (by kernel_rfl) (by kernel_rfl) (fun _ _ _ h => h) (by rfl) ?_ hHeld ?_; focus (intro w hSw; go_simp))
        try simp only [Act.put, List.setIfInBounds_toArray, List.set_cons_zero, List.set_cons_succ]
        (refine tk_yes (v := ?_) 5 (some 44) rfl rfl (by kernel_rfl) (by kernel_rfl) (by kernel_rfl) (fun _ _ _ h => h) (by rfl) ?_ hHeld ?_; rotate_left; focus (intro w hSw; go_simp; try with_reducible rfl))
        try simp only [Act.put, List.setIfInBounds_toArray, List.set_cons_zero, List.set_cons_succ]
        refine wpAnyH_ready (rs := [6]) (by kernel_rfl) (by simp) ?_
        refine AllReadyH.cons rfl (fun K hK => ?_) AllReadyH.nil
        go_simp
        go_at_call 57
        refine (signs18 D L V a1 Z (cap - A) (pc zs A Z) KK _ (HGV.out _ _ (HG.out.below L3.out.drew)) (by have := HZ.out; omega) (by have := HK9.out; omega)).mono ?_
        rintro e w4 ⟨rfl, l4⟩
        rw [← HP.out]
        have F4 := hid (F3.out.drew.more l4)
        have L4 := hid (sq L3.out.drew l4)
        clear l4
        go_simp
        refine hK.out _ _ F4.out (fun hHeld => ?_)
        clear hK K
        try simp only [Act.put, List.setIfInBounds_toArray, List.set_cons_zero, List.set_cons_succ]
        (refine tk_yes (v := ?_) 7 (some 38) rfl rfl (by kernel_rfl) (by kernel_rfl) (by kernel_rfl) (fun _ _ _ h => h) (by rfl) ?_ hHeld ?_; rotate_left; focus (intro w hSw; go_simp; try with_reducible rfl))
        try simp only [Act.put, List.setIfInBounds_toArray, List.set_cons_zero, List.set_cons_succ]
        (refine tk_yes (v := ?_) 8 (some 46) rfl rfl (by kernel_rfl) (by kernel_rfl) (by kernel_rfl) (fun _ _ _ h => h) (by rfl) ?_ hHeld ?_; rotate_left; focus (intro w hSw; go_simp; try with_reducible rfl))
        try simp only [Act.put, List.setIfInBounds_toArray, List.set_cons_zero, List.set_cons_succ]
        (refine tk_yes (v := ?_) 9 (some 47) rfl rfl (by kernel_rfl) (by kernel_rfl) (by kernel_rfl) (fun _ _ _ h => h) (by rfl) ?_ hHeld ?_; rotate_left; focus (intro w hSw; go_simp; try with_reducible rfl))
        try simp only [Act.put, List.setIfInBounds_toArray, List.set_cons_zero, List.set_cons_succ]
        (refine tk_yes (v := ?_) 10 (some 12) rfl rfl (by kernel_rfl) (by kernel_rfl) (by kernel_rfl) (fun _ _ _ h => h) (by rfl) ?_ hHeld ?_; rotate_left; focus (intro w hSw; go_simp; try with_reducible rfl))
        try simp only [Act.put, List.setIfInBounds_toArray, List.set_cons_zero, List.set_cons_succ]
        (refine tk_yes (v := ?_) 11 (some 8) rfl rfl (by kernel_rfl) (by kernel_rfl) (by kernel_rfl) (fun _ _ _ h => h) (by rfl) ?_ hHeld ?_; rotate_left; focus (intro w hSw; go_simp; try with_reducible rfl))
        try simp only [Act.put, List.setIfInBounds_toArray, List.set_cons_zero, List.set_cons_succ]
        refine wpAnyH_done (by kernel_rfl) ?_ _
        refine NoPanic.normal ?_
        cases hr : rsB D P KK
        · have ho : OK = false := HOK.out.trans hr
          have HN' := hid (HN.out ho)
          have HE' : Hid (RE = 23) := hid (by rw [HE.out, ho]; rfl)
          clear hr ho
          go_wp2
          go_ret3
          exact ⟨by rw [HN'.out.1, HN'.out.2, HE'.out]; rfl, L4.out⟩
        · have ho : OK = true := HOK.out.trans hr
          have HS' := hid (HS.out ho)
          have HE' : Hid (RE = 0) := hid (by rw [HE.out, ho]; rfl)
          clear hr ho
          go_wp2
          go_ret3
          exact ⟨by rw [HS'.out.1, HS'.out.2, HE'.out]; rfl, L4.out⟩
      · have hli : (len : Int) < (A : Int) + (Z : Int) := by omega
        have ho : OK = false := by rw [hok, decide_eq_false hl]; rfl
        have HN' := hid (hN ho)
        have HE' : Hid (RE = 23) := hid (by rw [hE, ho]; rfl)
        clear hok hN hS hE ho hl hP hZ9 ha hc1
        go_wp2_with (first | (go_at_call 56; have kill := L2.out; refine (size17 D L V KK _ (Nat.le_trans HK9.out (by omega))).mono ?_; rintro e w3 ⟨rfl, l3⟩; rw [← HZD.out]; have L3 := hid (sq L2.out l3); clear l3 kill) | (go_at_call 55; have kill := L1.out; refine (hln _ (HG.out.below L1.out)).mono ?_; rintro e w2 ⟨rfl, l2⟩; have L2 := hid (sq L1.out l2); have F2 := hid ((F1 w1).more l2); obtain ⟨q0, q1, q2⟩ := F2.out; clear l2 kill) | (go_at_call 34; refine (hof w).mono ?_; rintro e w1 ⟨rfl, l1⟩; have L1 := hid (sq l1 (b1 w1)); clear l1))
        go_ret3
        exact ⟨by rw [HN'.out.1, HN'.out.2, HE'.out]; rfl, L3.out⟩
end Go.Proofs.Ytfpjjdlfofejcaa
