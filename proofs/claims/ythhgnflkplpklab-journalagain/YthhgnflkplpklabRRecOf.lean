/- recordOf, walked. -/
import Derived.Test.YthhgnflkplpklabRRecs
namespace Go.Proofs.Ythhgnflkplpklab.Frm
set_option maxRecDepth 20000
open Go.ChangeShapes Go.WideShapes Go.ChangeAt Go.RowKit

theorem num_pcN {zs : List Int} (h : Byt zs) (i n : Nat) (N : Int) (hN : (2 : Int) ^ (8 * n) = N) (hl : i + n ≤ zs.length) : ∃ y, num (pc zs i n) = y ∧ 0 ≤ y ∧ y < N := by
  have := num_bd _ (byt_pc h i n)
  rw [pc_len hl, hN] at this
  exact ⟨_, rfl, this⟩
theorem num_pc1 {zs : List Int} (i : Nat) (h : i < zs.length) : num (pc zs i 1) = zs.getD i 0 := by
  have : pc zs i 1 = [zs.getD i 0] := by
    apply List.ext_getElem
    · simp [pc]; omega
    · intro j h1 h2
      simp at h2
      subst h2
      simp [pc, h]
  rw [this]; simp [num]
def recO (zs : List Int) : Rc := if 36 ≤ zs.length then recL zs else Rc.zero
set_option maxHeartbeats 1000000 in
theorem rec_no (ao : Option Addr) (zs : List Int) (len cap : Nat) (w : World) (hl : zs.length = len) (hn : len < 36) :
    Calls Try.prog 37 #[.slice ao len cap] w fun e w' => e = .returned (.tuple #[(recO zs).val, .bool (recB zs)]) ∧ Below w.heap.size w w' := by
  have HB : Hid (recB zs = false) := by unfold Hid; simp [recB, hl, show ¬ 36 ≤ len by omega]
  have HO : Hid (recO zs = Rc.zero) := by unfold Hid; rw [recO, if_neg (by omega)]
  have i1 : (len : Int) < 36 := by omega
  go_enter Try.func37, Try.ntmps37
  go_wp2_with (first | (refine al29 rfl rfl ?_; intro b2 w2 hb2 v2 l2; have V2 := hid v2; have L2 := hid l2; clear v2 l2) | refine bd29 rfl rfl ?_ | (refine st29 (r := Rc.zero) V2.out L2.out hb2 rfl _ _ rfl rfl rfl ?_; intro w3 v3 l3; have V3 := hid v3; have L3 := hid l3; clear v3 l3))
  refine bodyPost_ret (results_c1 Try.results37 _ _ rfl rfl V3.out) rfl ⟨?_, L3.out⟩
  rw [HB.out, HO.out]; rfl
set_option maxHeartbeats 2000000 in
theorem rec_yes (ao : Option Addr) (zs : List Int) (len cap : Nat) (w : World) (hl : zs.length = len) (hr : RowAt w ao zs) (hb : Byt zs) (h1 : len ≤ cap) (h2 : cap ≤ 9223372036854775807) (hn : 36 ≤ len) :
    Calls Try.prog 37 #[.slice ao len cap] w fun e w' => e = .returned (.tuple #[(recO zs).val, .bool (recB zs)]) ∧ Below w.heap.size w w' := by
  obtain ⟨k, hk, ka, kb⟩ := num_pcN hb 0 1 256 rfl (by omega)
  have Hk := hid hk
  have Bk := hid (And.intro ka kb)
  obtain ⟨t, ht, ta, tb⟩ := num_pcN hb 1 2 65536 rfl (by omega)
  have Ht := hid ht
  have Bt := hid (And.intro ta tb)
  obtain ⟨s, hs, sa, sb⟩ := num_pcN hb 3 4 4294967296 rfl (by omega)
  have Hs := hid hs
  have Bs := hid (And.intro sa sb)
  obtain ⟨m, hm, ma, mb⟩ := num_pcN hb 7 4 4294967296 rfl (by omega)
  have Hm := hid hm
  have Bm := hid (And.intro ma mb)
  obtain ⟨x0, hx0, x0a, x0b⟩ := num_pcN hb 11 2 65536 rfl (by omega)
  have Hx0 := hid hx0
  have Bx0 := hid (And.intro x0a x0b)
  obtain ⟨x1, hx1, x1a, x1b⟩ := num_pcN hb 13 2 65536 rfl (by omega)
  have Hx1 := hid hx1
  have Bx1 := hid (And.intro x1a x1b)
  obtain ⟨x2, hx2, x2a, x2b⟩ := num_pcN hb 15 2 65536 rfl (by omega)
  have Hx2 := hid hx2
  have Bx2 := hid (And.intro x2a x2b)
  obtain ⟨x3, hx3, x3a, x3b⟩ := num_pcN hb 17 2 65536 rfl (by omega)
  have Hx3 := hid hx3
  have Bx3 := hid (And.intro x3a x3b)
  obtain ⟨y0, hy0, y0a, y0b⟩ := num_pcN hb 19 2 65536 rfl (by omega)
  have Hy0 := hid hy0
  have By0 := hid (And.intro y0a y0b)
  obtain ⟨y1, hy1, y1a, y1b⟩ := num_pcN hb 21 2 65536 rfl (by omega)
  have Hy1 := hid hy1
  have By1 := hid (And.intro y1a y1b)
  obtain ⟨y2, hy2, y2a, y2b⟩ := num_pcN hb 23 2 65536 rfl (by omega)
  have Hy2 := hid hy2
  have By2 := hid (And.intro y2a y2b)
  obtain ⟨y3, hy3, y3a, y3b⟩ := num_pcN hb 25 2 65536 rfl (by omega)
  have Hy3 := hid hy3
  have By3 := hid (And.intro y3a y3b)
  obtain ⟨z0, hz0, z0a, z0b⟩ := num_pcN hb 27 2 65536 rfl (by omega)
  have Hz0 := hid hz0
  have Bz0 := hid (And.intro z0a z0b)
  obtain ⟨z1, hz1, z1a, z1b⟩ := num_pcN hb 29 2 65536 rfl (by omega)
  have Hz1 := hid hz1
  have Bz1 := hid (And.intro z1a z1b)
  obtain ⟨z2, hz2, z2a, z2b⟩ := num_pcN hb 31 2 65536 rfl (by omega)
  have Hz2 := hid hz2
  have Bz2 := hid (And.intro z2a z2b)
  obtain ⟨z3, hz3, z3a, z3b⟩ := num_pcN hb 33 2 65536 rfl (by omega)
  have Hz3 := hid hz3
  have Bz3 := hid (And.intro z3a z3b)
  obtain ⟨q, hq, qa, qb⟩ := num_pcN hb 35 1 256 rfl (by omega)
  have Hq := hid hq
  have Bq := hid (And.intro qa qb)
  obtain ⟨pan, hpan⟩ : ∃ pan, strOfNums (zs.drop 36) = pan := ⟨_, rfl⟩
  obtain ⟨M, hM⟩ : ∃ M, (zs.drop 36).length = M := ⟨_, rfl⟩
  have hps : pan.size = M := by rw [← hpan, ← hM]; simp [strOfNums, ByteArray.size]
  have eM : M + 36 = len := by rw [List.length_drop] at hM; omega
  have hpl : pan.size ≤ 9223372036854775807 := by omega
  have HO : Hid (recO zs = ⟨k, t, s, pan, m, x0, x1, x2, x3, y0, y1, y2, y3, z0, z1, z2, z3⟩) := by
    unfold Hid; rw [recO, if_pos (by omega), recL]
    rw [hk, ht, hs, hm, hx0, hx1, hx2, hx3, hy0, hy1, hy2, hy3, hz0, hz1, hz2, hz3, hpan]
  have HQ : Hid (recB zs = (decide (q = (M : Int)) && rightB ⟨k, t, s, pan, m, x0, x1, x2, x3, y0, y1, y2, y3, z0, z1, z2, z3⟩)) := by
    have e1 : recL zs = ⟨k, t, s, pan, m, x0, x1, x2, x3, y0, y1, y2, y3, z0, z1, z2, z3⟩ := by have := HO.out; rwa [recO, if_pos (by omega)] at this
    have e2 : zs.getD 35 0 = q := by rw [← hq, num_pc1 35 (by omega)]
    have e3 : decide (36 ≤ zs.length) = true := by simp; omega
    have e4 : decide (q + 36 = (zs.length : Int)) = decide (q = (M : Int)) := by apply decide_eq_decide.2; omega
    unfold Hid; rw [recB, e1, e2, e3, e4, Bool.true_and]
  clear hk ht hs hm hx0 hx1 hx2 hx3 hy0 hy1 hy2 hy3 hz0 hz1 hz2 hz3 hq
  clear ka kb ta tb sa sb ma mb x0a x0b x1a x1b x2a x2b x3a x3b y0a y0b y1a y1b y2a y2b y3a y3b z0a z0b z1a z1b z2a z2b z3a z3b qa qb
  have HPAN := hid hpan
  have HM := hid hM
  have HR := hid hr
  have HB := hid hb
  have HL := hid hl
  have HLZ : Hid (36 ≤ zs.length) := hid (by omega)
  have HPS := hid hps
  clear hpan hM hr hb hps eM
  have i1 : ¬ (len : Int) < 36 := by omega
  have i2 : (36 : Int) ≤ (len : Int) := by omega
  go_enter Try.func37, Try.ntmps37
  go_wp2_with (first | (refine st_pan S15.out rfl _ _ rfl rfl rfl ?_; intro w16 s16; have S16 := hid s16; clear s16 k9 c9) | (go_at_call 42; refine (st_number S14.out 1 36 rfl (by omega) (by omega) HLZ.out).mono ?_; rintro e w15 ⟨rfl, s15⟩; rw [Hq.out]; obtain ⟨qa, qb⟩ := Bq.out; have S15 := hid s15; obtain ⟨ao9, cap9, hp9⟩ := s15.ps; have c9 := hp9.cell; rw [HM.out] at c9; have k9 := run_str w15 ao9 (zs.drop 36) M cap9 HM.out hp9.row; rw [HPAN.out] at k9; clear s15 hp9) | (refine st_loaded S13.out rfl _ _ rfl rfl rfl ?_; intro w14 s14; have S14 := hid s14; clear s14) | (go_at_call 43; refine (st_counts S12.out 35 rfl (by have := HLZ.out; omega)).mono ?_; rintro e w13 ⟨rfl, s13⟩; rw [Hz0.out, Hz1.out, Hz2.out, Hz3.out]; have S13 := hid s13; clear s13) | (refine st_rej S11.out rfl _ _ rfl rfl rfl ?_; intro w12 s12; have S12 := hid s12; clear s12) | (go_at_call 43; refine (st_counts S10.out 27 rfl (by have := HLZ.out; omega)).mono ?_; rintro e w11 ⟨rfl, s11⟩; rw [Hy0.out, Hy1.out, Hy2.out, Hy3.out]; have S11 := hid s11; clear s11) | (refine st_notes S9.out rfl _ _ rfl rfl rfl ?_; intro w10 s10; have S10 := hid s10; clear s10) | (go_at_call 43; refine (st_counts S8.out 19 rfl (by have := HLZ.out; omega)).mono ?_; rintro e w9 ⟨rfl, s9⟩; rw [Hx0.out, Hx1.out, Hx2.out, Hx3.out]; have S9 := hid s9; clear s9) | (refine st_amt S7.out rfl _ _ rfl rfl rfl ?_; intro w8 s8; have S8 := hid s8; clear s8 ma mb) | (go_at_call 42; refine (st_number S6.out 4 11 rfl (by omega) (by omega) (by have := HLZ.out; omega)).mono ?_; rintro e w7 ⟨rfl, s7⟩; rw [Hm.out]; have S7 := hid s7; clear s7; obtain ⟨ma, mb⟩ := Bm.out) | (refine st_stan S5.out rfl _ _ rfl rfl rfl ?_; intro w6 s6; have S6 := hid s6; clear s6 sa sb) | (go_at_call 42; refine (st_number S4.out 4 7 rfl (by omega) (by omega) (by have := HLZ.out; omega)).mono ?_; rintro e w5 ⟨rfl, s5⟩; rw [Hs.out]; have S5 := hid s5; clear s5; obtain ⟨sa, sb⟩ := Bs.out) | (refine st_term S3.out rfl _ _ rfl rfl rfl ?_; intro w4 s4; have S4 := hid s4; clear s4 ta tb) | (go_at_call 42; refine (st_number S2.out 2 3 rfl (by omega) (by omega) (by have := HLZ.out; omega)).mono ?_; rintro e w3 ⟨rfl, s3⟩; rw [Ht.out]; have S3 := hid s3; clear s3; obtain ⟨ta, tb⟩ := Bt.out) | (refine st_kind S1.out rfl _ _ rfl rfl rfl ?_; intro w2 s2; have S2 := hid s2; clear s2 ka kb) | (go_at_call 42; refine (st_number (St.begin HL.out HR.out HB.out h1 h2 LB.out V2'.out V4.out hb2 hord) 1 1 rfl (by omega) (by omega) (by have := HLZ.out; omega)).mono ?_; rintro e w1 ⟨rfl, s1⟩; rw [Hk.out]; have S1 := hid s1; clear s1; obtain ⟨ka, kb⟩ := Bk.out) | (refine al29 rfl rfl ?_; intro b4 wB hb4 v4 l4; have V4 := hid v4; have hord : b2 < b4 := Nat.lt_of_lt_of_le V2.out.lt hb4; have V2' := hid (V2.out.below l4); have LB := hid (sq L2.out l4); clear v4 l4) | (refine al29 rfl rfl ?_; intro b2 wA hb2 v2 l2; have V2 := hid v2; have L2 := hid l2; clear v2 l2))
  generalize w16 = wz at *
  have SZ : Hid (St w wz b2 b4 wB.heap.size ⟨k, t, s, pan, m, x0, x1, x2, x3, y0, y1, y2, y3, z0, z1, z2, z3⟩ zs 36) := S16
  obtain ⟨r, hr⟩ : ∃ r : Rc, r = ⟨k, t, s, pan, m, x0, x1, x2, x3, y0, y1, y2, y3, z0, z1, z2, z3⟩ := ⟨_, rfl⟩
  rw [← hr] at SZ
  have hpan' : r.pan = pan := by rw [hr]
  have HRR : Hid (recO zs = r) := by unfold Hid; rw [HO.out, hr]
  have HQR : Hid (recB zs = (decide (q = (M : Int)) && rightB r)) := by unfold Hid; rw [HQ.out, hr]
  have c3 : wz.cell? ⟨b4, 3, none⟩ = some (.string pan) := by rw [← hpan']; exact SZ.out.rec4.recAt.c3
  have hps := HPS.out
  have o1 := SZ.out.ord.1
  have o2 := SZ.out.ord.2.1
  clear hr HO HQ S16
  clear S1
  clear S2
  clear S3
  clear S4
  clear S5
  clear S6
  clear S7
  clear S8
  clear S9
  clear S10
  clear S11
  clear S12
  clear S13
  clear S14
  clear S15
  by_cases hqm : q = (M : Int)
  · have HB2 : Hid (recB zs = rightB r) := by unfold Hid; rw [HQR.out, hqm]; simp
    have hqz : ((q == (pan.size : Int)) = true) := by rw [hps, hqm]; simp
    refine wp_region_noPanic ?_
    refine wp_region_held_drew (S := (fun w' => w'.rangeAt b4 0 r.cells ∧ w'.cell? ⟨b4, 3, none⟩ = some (.string pan))) (by kernel_rfl) (⟨SZ.out.rec4.at0, c3⟩) (fun hHeld => ?_)
    refine tk_rec 0 (some 39) r rfl rfl (by kernel_rfl) (by kernel_rfl) (by kernel_rfl) (fun _ _ _ h => h) (by rfl) _ rfl rfl (fun w h => h.1) hHeld ?_
    simp only [Act.put, List.setIfInBounds_toArray, List.set_cons_zero, List.set_cons_succ]
    (refine tk_yes (v := ?_) 1 (some 40) rfl rfl (by kernel_rfl) (by kernel_rfl) (by kernel_rfl) (fun _ _ _ h => h) (by rfl) ?_ hHeld ?_; rotate_left; focus (intro w hSw; go_simp; try with_reducible rfl))
    simp only [Act.put, List.setIfInBounds_toArray, List.set_cons_zero, List.set_cons_succ]
    (refine tk_yes (v := ?_) 2 (some 41) rfl rfl (by kernel_rfl) (by kernel_rfl) (by kernel_rfl) (fun _ _ _ h => h) (by rfl) ?_ hHeld ?_; rotate_left; focus (intro w hSw; go_simp; try with_reducible rfl))
    simp only [Act.put, List.setIfInBounds_toArray, List.set_cons_zero, List.set_cons_succ]
    (refine tk_yes (v := ?_) 3 (some 42) rfl rfl (by kernel_rfl) (by kernel_rfl) (by kernel_rfl) (fun _ _ _ h => h) (by rfl) ?_ hHeld ?_; rotate_left; focus (intro w hSw; go_simp; try with_reducible rfl))
    simp only [Act.put, List.setIfInBounds_toArray, List.set_cons_zero, List.set_cons_succ]
    (refine tk_yes (v := ?_) 4 (some 43) rfl rfl (by kernel_rfl) (by kernel_rfl) (by kernel_rfl) (fun _ _ _ h => h) (by rfl) ?_ hHeld ?_; rotate_left; focus (intro w hSw; go_simp; try with_reducible rfl))
    simp only [Act.put, List.setIfInBounds_toArray, List.set_cons_zero, List.set_cons_succ]
    (refine tk_yes (v := ?_) 5 (some 44) rfl rfl (by kernel_rfl) (by kernel_rfl) (by kernel_rfl) (fun _ _ _ h => h) (by rfl) ?_ hHeld ?_; rotate_left; focus (intro w hSw; go_simp; try with_reducible rfl))
    simp only [Act.put, List.setIfInBounds_toArray, List.set_cons_zero, List.set_cons_succ]
    (refine tk_yes (v := ?_) 6 (some 45) rfl rfl (by kernel_rfl) (by kernel_rfl) (by kernel_rfl) (fun _ _ _ h => h) (by rfl) ?_ hHeld ?_; rotate_left; focus (intro w hSw; go_simp; try with_reducible rfl))
    simp only [Act.put, List.setIfInBounds_toArray, List.set_cons_zero, List.set_cons_succ]
    refine tk_rec 7 (some 46) r rfl rfl (by kernel_rfl) (by kernel_rfl) (by kernel_rfl) (fun _ _ _ h => h) (by rfl) _ rfl rfl (fun w h => h.1) hHeld ?_
    simp only [Act.put, List.setIfInBounds_toArray, List.set_cons_zero, List.set_cons_succ]
    refine wpAnyH_ready (rs := [8]) (by kernel_rfl) (by simp) ?_
    refine AllReadyH.cons rfl (fun K hK => ?_) AllReadyH.nil
    go_simp
    go_at_call 44
    refine (right_any r _ (by rw [hpan']; exact hpl)).mono ?_
    rintro e w1 ⟨rfl, b1⟩
    have SZ1 := hid (SZ.out.rec4.below (sq (Below.refl _ wz).drew b1))
    have RZ1 := hid (SZ.out.res.below (sq (Below.refl _ wz).drew b1))
    have BZ1 := hid (sq SZ.out.bel (sq (Below.refl _ wz).drew b1))
    clear b1
    go_wp2_with fail
    refine hK.out _ _ (⟨SZ1.out.at0, by rw [← hpan']; exact SZ1.out.recAt.c3⟩) (fun hHeld => ?_)
    clear hK K
    try simp only [Act.put, List.setIfInBounds_toArray, List.set_cons_zero, List.set_cons_succ]
    (refine tk_yes (v := ?_) 9 (some 48) rfl rfl (by kernel_rfl) (by kernel_rfl) (by kernel_rfl) (fun _ _ _ h => h) (by rfl) ?_ hHeld ?_; rotate_left; focus (intro w hSw; go_simp; try with_reducible rfl))
    simp only [Act.put, List.setIfInBounds_toArray, List.set_cons_zero, List.set_cons_succ]
    refine wpAnyH_ready (rs := [10]) (by kernel_rfl) (by simp) ?_
    refine AllReadyH.cons rfl (fun K hK => ?_) AllReadyH.nil
    refine step_of rfl (wp_store_mid 39 _ _ rfl b2 0 r.cells.toArray rfl rfl (by simpa [Rc.len] using RZ1.out.th) (by rw [n29]; simp [Rc.len]) (all_oneCell_toArray r.one) ?_)
    have T2 := turned_setCells w1 b2 0 r.cells
    have RZ2 := hid (RZ1.out.set r)
    have SZ2 := hid (SZ1.out.kept (T2.block _ SZ1.out.lt (by omega)))
    have BZ2 := hid (BZ1.out.trans (T2.below (fun k e => by omega) BZ1.out.size))
    clear T2
    generalize w1.setCells b2 0 r.cells = w2 at *
    refine hK.out _ _ (⟨SZ2.out.at0, by rw [← hpan']; exact SZ2.out.recAt.c3⟩) (fun hHeld => ?_)
    clear hK K
    try simp only [Act.put, List.setIfInBounds_toArray]
    (refine tk_yes (v := ?_) 11 (some 3) rfl rfl (by kernel_rfl) (by kernel_rfl) (by kernel_rfl) (fun _ _ _ h => h) (by rfl) ?_ hHeld ?_; rotate_left; focus (intro w hSw; go_simp; try with_reducible rfl))
    simp only [Act.put]
    refine wpAnyH_done (by kernel_rfl) ?_ _
    refine NoPanic.normal ?_
    go_wp2
    refine bodyPost_ret (results_c1 Try.results37 _ _ rfl rfl RZ2.out) rfl ⟨?_, BZ2.out⟩
    rw [HB2.out, HRR.out]; rfl
  · have HB2 : Hid (recB zs = false) := by unfold Hid; rw [HQR.out]; simp [hqm]
    have hqz : ((q == (pan.size : Int)) = false) := by rw [hps]; simp [hqm]
    have hqz2 : ((q == (M : Int)) = false) := by simp [hqm]
    have hqz3 : (decide (q = (M : Int)) = false) := by simp [hqm]
    have hqM : ¬ q = (pan.size : Int) := by rw [hps]; exact hqm
    refine wp_region_noPanic ?_
    refine wp_region_held_drew (S := (fun w' => w'.rangeAt b4 0 r.cells ∧ w'.cell? ⟨b4, 3, none⟩ = some (.string pan))) (by kernel_rfl) (⟨SZ.out.rec4.at0, c3⟩) (fun hHeld => ?_)
    refine tk_rec 0 (some 39) r rfl rfl (by kernel_rfl) (by kernel_rfl) (by kernel_rfl) (fun _ _ _ h => h) (by rfl) _ rfl rfl (fun w h => h.1) hHeld ?_
    simp only [Act.put, List.setIfInBounds_toArray, List.set_cons_zero, List.set_cons_succ]
    (refine tk_yes (v := ?_) 1 (some 40) rfl rfl (by kernel_rfl) (by kernel_rfl) (by kernel_rfl) (fun _ _ _ h => h) (by rfl) ?_ hHeld ?_; rotate_left; focus (intro w hSw; go_simp; try with_reducible rfl))
    simp only [Act.put, List.setIfInBounds_toArray, List.set_cons_zero, List.set_cons_succ]
    (refine tk_yes (v := ?_) 2 (some 41) rfl rfl (by kernel_rfl) (by kernel_rfl) (by kernel_rfl) (fun _ _ _ h => h) (by rfl) ?_ hHeld ?_; rotate_left; focus (intro w hSw; go_simp; try with_reducible rfl))
    simp only [Act.put, List.setIfInBounds_toArray, List.set_cons_zero, List.set_cons_succ]
    (refine tk_yes (v := ?_) 3 (some 42) rfl rfl (by kernel_rfl) (by kernel_rfl) (by kernel_rfl) (fun _ _ _ h => h) (by rfl) ?_ hHeld ?_; rotate_left; focus (intro w hSw; go_simp; try with_reducible rfl))
    simp only [Act.put, List.setIfInBounds_toArray, List.set_cons_zero, List.set_cons_succ]
    (refine tk_yes (v := ?_) 4 (some 43) rfl rfl (by kernel_rfl) (by kernel_rfl) (by kernel_rfl) (fun _ _ _ h => h) (by rfl) ?_ hHeld ?_; rotate_left; focus (intro w hSw; go_simp; try with_reducible rfl))
    simp only [Act.put, List.setIfInBounds_toArray, List.set_cons_zero, List.set_cons_succ]
    (refine tk_yes (v := ?_) 5 (some 44) rfl rfl (by kernel_rfl) (by kernel_rfl) (by kernel_rfl) (fun _ _ _ h => h) (by rfl) ?_ hHeld ?_; rotate_left; focus (intro w hSw; go_simp; try with_reducible rfl))
    simp only [Act.put, List.setIfInBounds_toArray, List.set_cons_zero, List.set_cons_succ]
    (refine tk_yes (v := ?_) 6 (some 45) rfl rfl (by kernel_rfl) (by kernel_rfl) (by kernel_rfl) (fun _ _ _ h => h) (by rfl) ?_ hHeld ?_; rotate_left; focus (intro w hSw; go_simp; try with_reducible rfl))
    simp only [Act.put, List.setIfInBounds_toArray, List.set_cons_zero, List.set_cons_succ]
    refine tk_no 7 (some 46) rfl rfl (by kernel_rfl) (by kernel_rfl) (by kernel_rfl) (fun _ _ _ h => h) (by rfl) hHeld ?_
    simp only [Act.put, List.setIfInBounds_toArray, List.set_cons_zero, List.set_cons_succ]
    refine tk_no 8 (some 47) rfl rfl (by kernel_rfl) (by kernel_rfl) (by kernel_rfl) (fun _ _ _ h => h) (by rfl) hHeld ?_
    simp only [Act.put, List.setIfInBounds_toArray, List.set_cons_zero, List.set_cons_succ]
    (refine tk_yes (v := ?_) 9 (some 48) rfl rfl (by kernel_rfl) (by kernel_rfl) (by kernel_rfl) (fun _ _ _ h => h) (by rfl) ?_ hHeld ?_; rotate_left; focus (intro w hSw; go_simp; try with_reducible rfl))
    simp only [Act.put, List.setIfInBounds_toArray, List.set_cons_zero, List.set_cons_succ]
    have SZ1 := hid (SZ.out.rec4.below (Below.refl _ wz).drew)
    have RZ1 := hid (SZ.out.res.below (Below.refl _ wz).drew)
    have BZ1 := hid (SZ.out.bel.drew)
    generalize wz.drew = w1 at *
    refine wpAnyH_ready (rs := [10]) (by kernel_rfl) (by simp) ?_
    refine AllReadyH.cons rfl (fun K hK => ?_) AllReadyH.nil
    refine step_of rfl (wp_store_mid 39 _ _ rfl b2 0 r.cells.toArray rfl rfl (by simpa [Rc.len] using RZ1.out.th) (by rw [n29]; simp [Rc.len]) (all_oneCell_toArray r.one) ?_)
    have T2 := turned_setCells w1 b2 0 r.cells
    have RZ2 := hid (RZ1.out.set r)
    have SZ2 := hid (SZ1.out.kept (T2.block _ SZ1.out.lt (by omega)))
    have BZ2 := hid (BZ1.out.trans (T2.below (fun k e => by omega) BZ1.out.size))
    clear T2
    generalize w1.setCells b2 0 r.cells = w2 at *
    refine hK.out _ _ (⟨SZ2.out.at0, by rw [← hpan']; exact SZ2.out.recAt.c3⟩) (fun hHeld => ?_)
    clear hK K
    try simp only [Act.put, List.setIfInBounds_toArray]
    (refine tk_yes (v := ?_) 11 (some 3) rfl rfl (by kernel_rfl) (by kernel_rfl) (by kernel_rfl) (fun _ _ _ h => h) (by rfl) ?_ hHeld ?_; rotate_left; focus (intro w hSw; go_simp; try with_reducible rfl))
    simp only [Act.put]
    refine wpAnyH_done (by kernel_rfl) ?_ _
    refine NoPanic.normal ?_
    go_wp2
    refine bodyPost_ret (results_c1 Try.results37 _ _ rfl rfl RZ2.out) rfl ⟨?_, BZ2.out⟩
    rw [HB2.out, HRR.out]; rfl
end Go.Proofs.Ythhgnflkplpklab.Frm
