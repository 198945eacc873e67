/- The seat's messages: what a terminal counts; all of them. -/
import Derived.Test.YtbipikbefokihaaDoorSeatM
namespace Go.Proofs.YtbipikbefokihaaDoor
open Go.ChangeShapes Go.WideShapes Go.ChangeAt Go.RowKit

set_option maxRecDepth 20000 in
set_option maxHeartbeats 40000000 in
theorem msg8_4 (d k s m : Int) (w : World) (d0 : 0 ≤ d) (d1 : d < 256) (k0 : 0 ≤ k) (k1 : k < 256) (s0 : 0 ≤ s) (s1 : s < 65536) (m0 : 0 ≤ m) (m1 : m < 65536) (h : d % 7 = 3) :
    Calls Tryd.prog 8 #[.int .u8 d, .int .u8 k, .int .u16 s, .int .u16 m] w fun e w' => e = .returned (seatM d k s m).val ∧ Below w.heap.size w w' := by
  have HS0 : Hid (seatM d k s m = ({ Ms.of (3 + 1) with term := k % 3, stan := s % 6, n0 := k % 5, n1 := k / 5 % 5, n2 := s % 3, n3 := m % 4, c0 := m, c1 := s, d1 := k, loads := k % 2, l0 := k % 5, l1 := k / 5 % 5, l2 := s % 3, l3 := m % 4 } : Ms)) := by
    unfold Hid seatM
    simp only []
    rw [if_neg (by omega), if_neg (by omega), if_neg (by omega), if_pos h]; rw [h]
  have hyy := And.intro d1 (And.intro s1 m1)
  clear hyy
  have hd7 : d.tmod 7 = 3 := by rw [Int.tmod_eq_emod_of_nonneg d0]; exact h
  obtain ⟨T, hT⟩ : ∃ T, k % 3 = T := ⟨_, rfl⟩
  have hk3 : k.tmod 3 = T := by rw [Int.tmod_eq_emod_of_nonneg k0]; exact hT
  have T0 : 0 ≤ T ∧ T < 3 := by omega
  obtain ⟨T0, T1⟩ := T0
  obtain ⟨A, hA⟩ : ∃ A, k % 5 = A := ⟨_, rfl⟩
  have hk5 : k.tmod 5 = A := by rw [Int.tmod_eq_emod_of_nonneg k0]; exact hA
  obtain ⟨A0, A1⟩ : 0 ≤ A ∧ A < 5 := by omega
  obtain ⟨B1, hB1⟩ : ∃ B, k / 5 = B := ⟨_, rfl⟩
  have hkd5 : k.tdiv 5 = B1 := by rw [Int.tdiv_eq_ediv_of_nonneg k0]; exact hB1
  obtain ⟨B10, B11⟩ : 0 ≤ B1 ∧ B1 < 256 := by omega
  obtain ⟨B, hB⟩ : ∃ B, B1 % 5 = B := ⟨_, rfl⟩
  have hb5 : B1.tmod 5 = B := by rw [Int.tmod_eq_emod_of_nonneg B10]; exact hB
  obtain ⟨B0, B2⟩ : 0 ≤ B ∧ B < 5 := by omega
  obtain ⟨D, hD⟩ : ∃ D, s % 3 = D := ⟨_, rfl⟩
  have hs3 : s.tmod 3 = D := by rw [Int.tmod_eq_emod_of_nonneg s0]; exact hD
  obtain ⟨D0, D1⟩ : 0 ≤ D ∧ D < 3 := by omega
  obtain ⟨E, hE⟩ : ∃ E, m % 4 = E := ⟨_, rfl⟩
  have hm4 : m.tmod 4 = E := by rw [Int.tmod_eq_emod_of_nonneg m0]; exact hE
  obtain ⟨E0, E1⟩ : 0 ≤ E ∧ E < 4 := by omega
  obtain ⟨F, hF⟩ : ∃ F, s % 6 = F := ⟨_, rfl⟩
  have hs6 : s.tmod 6 = F := by rw [Int.tmod_eq_emod_of_nonneg s0]; exact hF
  obtain ⟨F0, F1⟩ : 0 ≤ F ∧ F < 6 := by omega
  obtain ⟨G, hG⟩ : ∃ G, k % 2 = G := ⟨_, rfl⟩
  have hk2 : k.tmod 2 = G := by rw [Int.tmod_eq_emod_of_nonneg k0]; exact hG
  obtain ⟨G0, G1⟩ : 0 ≤ G ∧ G < 2 := by omega
  have HS : Hid (seatM d k s m = ({ Ms.of 4 with term := T, stan := F, n0 := A, n1 := B, n2 := D, n3 := E, c0 := m, c1 := s, d1 := k, loads := G, l0 := A, l1 := B, l2 := D, l3 := E } : Ms)) := by
    unfold Hid; rw [HS0.out]; simp only [hT, hA, hB1, hB, hD, hE, hF, hG]
    rfl
  clear HS0 hT hA hB1 hB hD hE hF hG
  have FC0 : Hid (({ Ms.of 4 with term := T, stan := F } : Ms).cells = ({ Ms.of 4 with term := T } : Ms).cells.take 2 ++ ([.int .u32 F] : List Value) ++ ({ Ms.of 4 with term := T } : Ms).cells.drop (2 + ([.int .u32 F] : List Value).length)) := rfl
  have FL0 : Hid (2 + ([.int .u32 F] : List Value).length ≤ 26) := by unfold Hid; simp
  go_enter Tryd.func8, Tryd.ntmps8
  go_upto_region 11 with (first | (have kill := V3.out; refine rv_store2 V3.out L3.out hb9 23 2 [.int .u32 F] ({ Ms.of 4 with term := T, stan := F } : Ms) FL0.out FC0.out n23 (one1 rfl) rfl _ _ rfl rfl rfl rfl ?_; intro w' v' l' kk; have V4 := hid v'; have cc := (v'.cell 0 rfl : w'.cell? ⟨b9, 0, none⟩ = some (.int .i64 4)); have L4 := hid l'; have Z4 := hid (Z3.out.kept (kk _ Z3.out.lt NE.out)); have Q4 := hid (Q3.out.kept (kk _ Q3.out.lt NF.out)); clear v' l' kk kill V3) | (have kill := Q4.out; refine ld25 Q4.out rfl _ rfl rfl ?_) | (have kill := Q3.out; refine ld25 Q3.out rfl _ rfl rfl ?_) | (have kill := Q2.out; refine st25 Q2.out rfl _ _ rfl rfl rfl ?_; intro w' q' t'; have Q3 := hid q'; have V3 := hid (V2.out.kept (t'.block _ V2.out.lt N9.out)); have Z3 := hid (Z2.out.kept (t'.block _ Z2.out.lt N8.out)); have L3 := hid (L2.out.trans (t'.below (fun k e => (by rw [e]; exact hb10)) L2.out.size)); have cc := (V3.out.cell 0 rfl : w'.cell? ⟨b9, 0, none⟩ = some (.int .i64 4)); clear q' t' kill Q2 V2 Z2 L2) | (refine al25 rfl rfl ?_; have kill := V1.out; intro b10 w' hx v' l'; have Q2 := hid v'; have V2 := hid (V1.out.below l'); have Z2 := hid (Z1.out.below l'); have L2 := hid (sq L1.out l'); have hb10 : w.heap.size ≤ b10 := Nat.le_trans L1.out.size hx; have N9 : Hid (¬ b9 = b10) := hid (Nat.ne_of_lt (Nat.lt_of_lt_of_le V1.out.lt hx)); have N8 : Hid (¬ b8 = b10) := hid (Nat.ne_of_lt (Nat.lt_of_lt_of_le Z1.out.lt hx)); have NF : Hid (¬ b10 = b9) := hid (fun e => N9.out e.symm); clear v' l' hx kill V1 Z1 L1) | (have kill := V0.out; refine rv_whole V0.out L0.out hb9 ({ Ms.of 4 with term := T } : Ms) rfl _ _ rfl rfl rfl ?_; intro w' v' l' kk; have V1 := hid v'; have L1 := hid l'; have Z1 := hid (Z0.out.kept (kk _ Z0.out.lt NE.out)); clear v' l' kk kill V0 Z0 L0) | (refine al27 rfl rfl ?_; have kill := ZA.out; intro b9 w' hx v' l'; have V0 := hid v'; have Z0 := hid (ZA.out.below l'); have L0 := hid (sq LA.out l'); have hb9 : w.heap.size ≤ b9 := Nat.le_trans LA.out.size hx; have NE : Hid (¬ b8 = b9) := hid (Nat.ne_of_lt (Nat.lt_of_lt_of_le ZA.out.lt hx)); clear v' l' hx kill ZA LA) | (refine al27 rfl rfl ?_; intro b8 w' hb8 v' l'; have ZA := hid v'; have LA := hid l'; clear v' l') | (refine bdKT rfl _ _ rfl rfl rfl ?_))
  have wm : IntKind.i64.wrap m = m := by rw [IntKind.wrap_i64]; omega
  have ws : IntKind.i64.wrap s = s := by rw [IntKind.wrap_i64]; omega
  have wk : IntKind.i64.wrap k = k := by rw [IntKind.wrap_i64]; omega
  have wG : IntKind.i64.wrap G = G := by rw [IntKind.wrap_i64]; omega
  have HCV := hid (V4.out)
  clear cc
  clear h hd7 hk3 T0 T1 hk5 A0 A1 hkd5 B10 B11 hb5 B0 B2 hs3 D0 D1 hm4 E0 E1 hs6 F0 F1 G0 G1 d0 d1 k0 k1 s0 s1 m0 m1 HCV
  refine wp_region_noPanic ?_
  refine wp_region_held_drew (S := (fun w' : World => w'.rangeAt b10 0 (c4 A B D E))) (by kernel_rfl) (Q4.out.at0) (fun hHeld => ?_)
  refine tk_four 0 (some 62) A B D E rfl rfl (by kernel_rfl) (by kernel_rfl) (by kernel_rfl) (fun _ _ _ h => h) (by rfl) _ rfl rfl (fun w hSw => hSw) hHeld ?_
  simp only [Act.put, List.setIfInBounds_toArray, List.set_cons_zero, List.set_cons_succ]
  (refine tk_yes (v := ?_) 1 (some 63) rfl rfl (by kernel_rfl) (by kernel_rfl) (by kernel_rfl) (fun _ _ _ h => h) (by rfl) ?_ hHeld ?_; rotate_left; focus (intro w hSw; go_simp; try with_reducible rfl))
  simp only [Act.put, List.setIfInBounds_toArray, List.set_cons_zero, List.set_cons_succ]
  (refine tk_yes (v := ?_) 2 (some 64) rfl rfl (by kernel_rfl) (by kernel_rfl) (by kernel_rfl) (fun _ _ _ h => h) (by rfl) ?_ hHeld ?_; rotate_left; focus (intro w hSw; go_simp; try with_reducible rfl))
  simp only [Act.put, List.setIfInBounds_toArray, List.set_cons_zero, List.set_cons_succ]
  (refine tk_yes (v := ?_) 3 (some 65) rfl rfl (by kernel_rfl) (by kernel_rfl) (by kernel_rfl) (fun _ _ _ h => h) (by rfl) ?_ hHeld ?_; rotate_left; focus (intro w hSw; go_simp; try with_reducible rfl))
  simp only [Act.put, List.setIfInBounds_toArray, List.set_cons_zero, List.set_cons_succ]
  (refine tk_yes (v := ?_) 4 (some 66) rfl rfl (by kernel_rfl) (by kernel_rfl) (by kernel_rfl) (fun _ _ _ h => h) (by rfl) ?_ hHeld ?_; rotate_left; focus (intro w hSw; go_simp; try with_reducible rfl))
  simp only [Act.put, List.setIfInBounds_toArray, List.set_cons_zero, List.set_cons_succ]
  (refine tk_yes (v := ?_) 5 (some 67) rfl rfl (by kernel_rfl) (by kernel_rfl) (by kernel_rfl) (fun _ _ _ h => h) (by rfl) ?_ hHeld ?_; rotate_left; focus (intro w hSw; go_simp; try with_reducible rfl))
  simp only [Act.put, List.setIfInBounds_toArray, List.set_cons_zero, List.set_cons_succ]
  (refine tk_yes (v := ?_) 6 (some 68) rfl rfl (by kernel_rfl) (by kernel_rfl) (by kernel_rfl) (fun _ _ _ h => h) (by rfl) ?_ hHeld ?_; rotate_left; focus (intro w hSw; go_simp; try with_reducible rfl))
  simp only [Act.put, List.setIfInBounds_toArray, List.set_cons_zero, List.set_cons_succ]
  (refine tk_yes (v := ?_) 7 (some 69) rfl rfl (by kernel_rfl) (by kernel_rfl) (by kernel_rfl) (fun _ _ _ h => h) (by rfl) ?_ hHeld ?_; rotate_left; focus (intro w hSw; go_simp; try with_reducible rfl))
  simp only [Act.put, List.setIfInBounds_toArray, List.set_cons_zero, List.set_cons_succ]
  (refine tk_yes (v := ?_) 8 (some 70) rfl rfl (by kernel_rfl) (by kernel_rfl) (by kernel_rfl) (fun _ _ _ h => h) (by rfl) ?_ hHeld ?_; rotate_left; focus (intro w hSw; go_simp; try with_reducible rfl))
  simp only [Act.put, List.setIfInBounds_toArray, List.set_cons_zero, List.set_cons_succ]
  (refine tk_yes (v := ?_) 9 (some 71) rfl rfl (by kernel_rfl) (by kernel_rfl) (by kernel_rfl) (fun _ _ _ h => h) (by rfl) ?_ hHeld ?_; rotate_left; focus (intro w hSw; go_simp; try with_reducible rfl))
  simp only [Act.put, List.setIfInBounds_toArray, List.set_cons_zero, List.set_cons_succ]
  (refine tk_yes (v := ?_) 10 (some 72) rfl rfl (by kernel_rfl) (by kernel_rfl) (by kernel_rfl) (fun _ _ _ h => h) (by rfl) ?_ hHeld ?_; rotate_left; focus (intro w hSw; go_simp; try with_reducible rfl))
  simp only [Act.put, List.setIfInBounds_toArray, List.set_cons_zero, List.set_cons_succ]
  (refine tk_yes (v := ?_) 11 (some 73) rfl rfl (by kernel_rfl) (by kernel_rfl) (by kernel_rfl) (fun _ _ _ h => h) (by rfl) ?_ hHeld ?_; rotate_left; focus (intro w hSw; go_simp; try with_reducible rfl))
  simp only [Act.put, List.setIfInBounds_toArray, List.set_cons_zero, List.set_cons_succ]
  refine tk_four 12 (some 74) A B D E rfl rfl (by kernel_rfl) (by kernel_rfl) (by kernel_rfl) (fun _ _ _ h => h) (by rfl) _ rfl rfl (fun w hSw => hSw) hHeld ?_
  simp only [Act.put, List.setIfInBounds_toArray, List.set_cons_zero, List.set_cons_succ]
  (refine tk_yes (v := ?_) 13 (some 75) rfl rfl (by kernel_rfl) (by kernel_rfl) (by kernel_rfl) (fun _ _ _ h => h) (by rfl) ?_ hHeld ?_; rotate_left; focus (intro w hSw; go_simp; try with_reducible rfl))
  simp only [Act.put, List.setIfInBounds_toArray, List.set_cons_zero, List.set_cons_succ]
  refine wpAnyH_ready (rs := [14]) (by kernel_rfl) (by simp) ?_
  refine AllReadyH.cons rfl (fun K hK => ?_) AllReadyH.nil
  have VS := hid (V4.out.below (Below.refl _ _).drew)
  have LS := hid ((L4.out).drew)
  have ZS := hid (Z4.out.below (Below.refl _ _).drew)
  have QS := hid (Q4.out.below (Below.refl _ _).drew)
  refine step_of rfl (rv_csw VS.out LS.out hb9 25 5 (c4 A B D E) ({ Ms.of 4 with term := T, stan := F, n0 := A, n1 := B, n2 := D, n3 := E } : Ms) (by simp [c4]) rfl n25 (c4_one _ _ _ _) _ _ rfl rfl rfl rfl ?_)
  intro wd0 vd0 ld0 kd0
  have VD0 := hid vd0
  have LD0 := hid ld0
  have ZD0 := hid (ZS.out.kept (kd0 _ ZS.out.lt NE.out))
  have QD0 := hid (QS.out.kept (kd0 _ QS.out.lt NF.out))
  refine hK.out _ _ (QD0.out.at0) (fun hHeld => ?_)
  clear hK K vd0 ld0 kd0
  try simp only [Act.put, List.setIfInBounds_toArray]
  (refine tk_yes (v := ?_) 15 (some 76) rfl rfl (by kernel_rfl) (by kernel_rfl) (by kernel_rfl) (fun _ _ _ h => h) (by rfl) ?_ hHeld ?_; rotate_left; focus (intro w hSw; go_simp; try with_reducible rfl))
  simp only [Act.put]
  refine wpAnyH_ready (rs := [16]) (by kernel_rfl) (by simp) ?_
  refine AllReadyH.cons rfl (fun K hK => ?_) AllReadyH.nil
  refine step_of rfl (rv_csw VD0.out LD0.out hb9 25 13 (c4 m s 0 0) ({ Ms.of 4 with term := T, stan := F, n0 := A, n1 := B, n2 := D, n3 := E, c0 := m, c1 := s } : Ms) (by simp [c4]) rfl n25 (c4_one _ _ _ _) _ _ rfl rfl rfl rfl ?_)
  intro wd1 vd1 ld1 kd1
  have VD1 := hid vd1
  have LD1 := hid ld1
  have ZD1 := hid (ZD0.out.kept (kd1 _ ZD0.out.lt NE.out))
  have QD1 := hid (QD0.out.kept (kd1 _ QD0.out.lt NF.out))
  refine hK.out _ _ (QD1.out.at0) (fun hHeld => ?_)
  clear hK K vd1 ld1 kd1
  try simp only [Act.put]
  (refine tk_yes (v := ?_) 17 (some 77) rfl rfl (by kernel_rfl) (by kernel_rfl) (by kernel_rfl) (fun _ _ _ h => h) (by rfl) ?_ hHeld ?_; rotate_left; focus (intro w hSw; go_simp; try with_reducible rfl))
  simp only [Act.put]
  refine wpAnyH_ready (rs := [18]) (by kernel_rfl) (by simp) ?_
  refine AllReadyH.cons rfl (fun K hK => ?_) AllReadyH.nil
  refine step_of rfl (rv_csw VD1.out LD1.out hb9 25 17 (c4 0 k 0 0) ({ Ms.of 4 with term := T, stan := F, n0 := A, n1 := B, n2 := D, n3 := E, c0 := m, c1 := s, d1 := k } : Ms) (by simp [c4]) rfl n25 (c4_one _ _ _ _) _ _ rfl rfl rfl rfl ?_)
  intro wd2 vd2 ld2 kd2
  have VD2 := hid vd2
  have LD2 := hid ld2
  have ZD2 := hid (ZD1.out.kept (kd2 _ ZD1.out.lt NE.out))
  have QD2 := hid (QD1.out.kept (kd2 _ QD1.out.lt NF.out))
  refine hK.out _ _ (QD2.out.at0) (fun hHeld => ?_)
  clear hK K vd2 ld2 kd2
  try simp only [Act.put]
  (refine tk_yes (v := ?_) 19 (some 78) rfl rfl (by kernel_rfl) (by kernel_rfl) (by kernel_rfl) (fun _ _ _ h => h) (by rfl) ?_ hHeld ?_; rotate_left; focus (intro w hSw; go_simp; try with_reducible rfl))
  simp only [Act.put]
  refine wpAnyH_ready (rs := [20]) (by kernel_rfl) (by simp) ?_
  refine AllReadyH.cons rfl (fun K hK => ?_) AllReadyH.nil
  refine step_of rfl (rv_csw VD2.out LD2.out hb9 3 21 [.int .i64 G] ({ Ms.of 4 with term := T, stan := F, n0 := A, n1 := B, n2 := D, n3 := E, c0 := m, c1 := s, d1 := k, loads := G } : Ms) (by simp) rfl n3 (one1 rfl) _ _ rfl rfl rfl rfl ?_)
  intro wd3 vd3 ld3 kd3
  have VD3 := hid vd3
  have LD3 := hid ld3
  have ZD3 := hid (ZD2.out.kept (kd3 _ ZD2.out.lt NE.out))
  have QD3 := hid (QD2.out.kept (kd3 _ QD2.out.lt NF.out))
  refine hK.out _ _ (QD3.out.at0) (fun hHeld => ?_)
  clear hK K vd3 ld3 kd3
  try simp only [Act.put]
  (refine tk_yes (v := ?_) 21 (some 79) rfl rfl (by kernel_rfl) (by kernel_rfl) (by kernel_rfl) (fun _ _ _ h => h) (by rfl) ?_ hHeld ?_; rotate_left; focus (intro w hSw; go_simp; try with_reducible rfl))
  simp only [Act.put]
  refine wpAnyH_ready (rs := [22]) (by kernel_rfl) (by simp) ?_
  refine AllReadyH.cons rfl (fun K hK => ?_) AllReadyH.nil
  refine step_of rfl (rv_csw VD3.out LD3.out hb9 25 22 (c4 A B D E) ({ Ms.of 4 with term := T, stan := F, n0 := A, n1 := B, n2 := D, n3 := E, c0 := m, c1 := s, d1 := k, loads := G, l0 := A, l1 := B, l2 := D, l3 := E } : Ms) (by simp [c4]) rfl n25 (c4_one _ _ _ _) _ _ rfl rfl rfl rfl ?_)
  intro wd4 vd4 ld4 kd4
  have VD4 := hid vd4
  have LD4 := hid ld4
  have ZD4 := hid (ZD3.out.kept (kd4 _ ZD3.out.lt NE.out))
  have QD4 := hid (QD3.out.kept (kd4 _ QD3.out.lt NF.out))
  refine hK.out _ _ (QD4.out.at0) (fun hHeld => ?_)
  clear hK K vd4 ld4 kd4
  try simp only [Act.put]
  refine wpAnyH_done (by kernel_rfl) ?_ _
  refine NoPanic.normal ?_
  go_wp2_with (first | (have kill := ZD4.out; refine st27 (r := ({ Ms.of 4 with term := T, stan := F, n0 := A, n1 := B, n2 := D, n3 := E, c0 := m, c1 := s, d1 := k, loads := G, l0 := A, l1 := B, l2 := D, l3 := E } : Ms)) ZD4.out LD4.out hb8 rfl _ _ rfl rfl rfl ?_; intro w9 v9 l9; have V9 := hid v9; have L9 := hid l9; clear v9 l9 kill ZD4) | (have kill := VD4.out; refine ld27 VD4.out rfl _ rfl rfl ?_))
  refine bodyPost_ret (results_c0 Tryd.results8 _ _ rfl V9.out) rfl ⟨?_, L9.out⟩
  rw [HS.out]
theorem msg8 (d k s m : Int) (w : World) (d0 : 0 ≤ d) (d1 : d < 256) (k0 : 0 ≤ k) (k1 : k < 256) (s0 : 0 ≤ s) (s1 : s < 65536) (m0 : 0 ≤ m) (m1 : m < 65536) :
    Calls Tryd.prog 8 #[.int .u8 d, .int .u8 k, .int .u16 s, .int .u16 m] w fun e w' => e = .returned (seatM d k s m).val ∧ Below w.heap.size w w' := by
  have h7 : d % 7 = 0 ∨ d % 7 = 1 ∨ d % 7 = 2 ∨ d % 7 = 3 ∨ d % 7 = 4 ∨ d % 7 = 5 ∨ d % 7 = 6 := by omega
  rcases h7 with h | h | h | h | h | h | h
  · exact msg8_1 d k s m w d0 d1 k0 k1 s0 s1 m0 m1 h
  · exact msg8_2 d k s m w d0 d1 k0 k1 s0 s1 m0 m1 h
  · exact msg8_3 d k s m w d0 d1 k0 k1 s0 s1 m0 m1 h
  · exact msg8_4 d k s m w d0 d1 k0 k1 s0 s1 m0 m1 h
  · exact msg8_5 d k s m w d0 d1 k0 k1 s0 s1 m0 m1 h
  · exact msg8_6 d k s m w d0 d1 k0 k1 s0 s1 m0 m1 h
  · exact msg8_7 d k s m w d0 d1 k0 k1 s0 s1 m0 m1 h
end Go.Proofs.YtbipikbefokihaaDoor
