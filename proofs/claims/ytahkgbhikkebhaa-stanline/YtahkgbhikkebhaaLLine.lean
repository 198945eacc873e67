/- StanLine: keys are in one line, as their texts are; for every three keys. -/
import Derived.Test.YtahkgbhikkebhaaKnown
import Derived.Test.YtahkgbhikkebhaaLin
import Derived.Test.YtahkgbhikkebhaaOpen
namespace Go.Proofs.Ytahkgbhikkebhaa
open Go.ChangeShapes Go.WideShapes Go.ChangeAt Go.RowKit

theorem KB.set {w : World} {q : Nat} {t s : Int} (h : KB w q t s) (v : Int) : KB (w.setCell ⟨q, 1, none⟩ (.int .u32 v)) q t v := by
  unfold KB at *
  simp [World.setCell, Array.getElem?_modify, h]
theorem KB.other {w : World} {q : Nat} {t s : Int} (h : KB w q t s) (a : Addr) (v : Value) (ha : a.block ≠ q) : KB (w.setCell a v) q t s :=
  (Below.heap_setCell w a v q (fun e => ha e.symm)).trans h
theorem KB.drew {w : World} {q : Nat} {t s : Int} (h : KB w q t s) : KB w.drew q t s := h
/-- Three keys in memory of the call's own; what was there before is as it was. -/
structure Tri (w0 w : World) (q q' q'' : Nat) (a s b t c u : Int) : Prop where
  old : Below w0.heap.size w0 w
  k1 : KB w q a s
  k2 : KB w q' b t
  k3 : KB w q'' c u
theorem Tri.below {w0 w w' : World} {q q' q'' : Nat} {a s b t c u : Int} (h : Tri w0 w q q' q'' a s b t c u) (k : Below w.heap.size w w') : Tri w0 w' q q' q'' a s b t c u :=
  ⟨h.old.trans (k.mono h.old.size), h.k1.below k, h.k2.below k, h.k3.below k⟩
theorem less_trans {a s b t c u : Int} (h : lessL a s b t = true) (k : lessL b t c u = true) : lessL a s c u = true := by
  unfold lessL at *
  split at h <;> split at k <;> split <;> simp at * <;> omega
theorem less_total (a s b t : Int) : (lessL a s b t || lessL b t a s) = !decide (a = b ∧ s = t) := by
  rw [Bool.eq_iff_iff]
  unfold lessL
  by_cases e : a = b
  · subst e; simp; omega
  · simp [e, Ne.symm e]; omega
theorem less_one {a s b t : Int} (h : lessL a s b t = true) : lessL b t a s = false := by
  unfold lessL at *
  split at h <;> split <;> simp at * <;> omega
set_option maxHeartbeats 2000000 in
theorem line5 (a s b t c u : Int) (w : World) (ha : 0 ≤ a ∧ a < 65536) (hs : 0 ≤ s ∧ s < 4294967296) (hb : 0 ≤ b ∧ b < 65536) (ht : 0 ≤ t ∧ t < 4294967296) (_hc : 0 ≤ c ∧ c < 65536) (hu : 0 ≤ u ∧ u < 4294967296) :
    Calls Try.prog 5 #[.agg #[.int .u16 a, .int .u32 s], .agg #[.int .u16 b, .int .u32 t], .agg #[.int .u16 c, .int .u32 u]] w fun e w' => e = .returned (.bool true) ∧ Below w.heap.size w w' := by
  obtain ⟨s', es, s0, s1⟩ : ∃ z, s.tmod 1000000 = z ∧ 0 ≤ z ∧ z < 1000000 := ⟨s % 1000000, by rw [Int.tmod_eq_emod_of_nonneg hs.1], by omega, by omega⟩
  obtain ⟨t', et, t0, t1⟩ : ∃ z, t.tmod 1000000 = z ∧ 0 ≤ z ∧ z < 1000000 := ⟨t % 1000000, by rw [Int.tmod_eq_emod_of_nonneg ht.1], by omega, by omega⟩
  obtain ⟨u', eu, u0, u1⟩ : ∃ z, u.tmod 1000000 = z ∧ 0 ≤ z ∧ z < 1000000 := ⟨u % 1000000, by rw [Int.tmod_eq_emod_of_nonneg hu.1], by omega, by omega⟩
  have TK := hid True.intro
  obtain ⟨q, hq⟩ : ∃ q, w.heap.size = q := ⟨_, rfl⟩
  have A1 := KB.new w a s
  have A2 := KB.new (w.alloc (.cells #[.int .u16 a, .int .u32 s] 33)) b t
  have A3 := KB.new ((w.alloc (.cells #[.int .u16 a, .int .u32 s] 33)).alloc (.cells #[.int .u16 b, .int .u32 t] 33)) c u
  have B1 := bel1 w (.cells #[.int .u16 a, .int .u32 s] 33)
  have B2 := bel1 (w.alloc (.cells #[.int .u16 a, .int .u32 s] 33)) (.cells #[.int .u16 b, .int .u32 t] 33)
  have B3 := bel1 ((w.alloc (.cells #[.int .u16 a, .int .u32 s] 33)).alloc (.cells #[.int .u16 b, .int .u32 t] 33)) (.cells #[.int .u16 c, .int .u32 u] 33)
  rw [World.size_alloc] at A2
  rw [World.size_alloc, World.size_alloc] at A3
  have B4 := hid (sq B1 (sq B2 B3))
  have C1 := hid ((A1.below B2).below B3)
  have C2 := hid (A2.below B3)
  have C3 := hid A3
  rw [hq] at C1 C2 C3
  clear A1 A2 A3 B1 B2 B3
  go_enter Try.func5, Try.ntmps5
  go_upto_region 3 with (go_at_call 6; have kill := TK.out; refine (known6 _).mono ?_; rintro e w1 ⟨rfl, l1⟩; have D1 := hid (C1.out.below l1); have D2 := hid (C2.out.below l1); have D3 := hid (C3.out.below l1); have L1 := hid (sq B4.out l1); clear l1 kill TK C1 C2 C3 B4; obtain ⟨c0, c1, _, c2⟩ := D1.out.cells; obtain ⟨d0, d1, _, d2⟩ := D2.out.cells; obtain ⟨e0, e1, _, e2⟩ := D3.out.cells)
  go_region
  have E1 := hid (((D1.out.set s').other ⟨q + 1, 1, none⟩ (.int .u32 t') (by simp)).other ⟨q + 1 + 1, 1, none⟩ (.int .u32 u') (by simp; omega)).drew
  have E2 := hid (((D2.out.other ⟨q, 1, none⟩ (.int .u32 s') (by simp)).set t').other ⟨q + 1 + 1, 1, none⟩ (.int .u32 u') (by simp)).drew
  have E3 := hid (((D3.out.other ⟨q, 1, none⟩ (.int .u32 s') (by simp; omega)).other ⟨q + 1, 1, none⟩ (.int .u32 t') (by simp)).set u').drew
  have E4 := hid (((L1.out.setCell (p := ⟨q, 1, none⟩) (by simp; omega) (.int .u32 s')).setCell (p := ⟨q + 1, 1, none⟩) (by simp; omega) (.int .u32 t')).setCell (p := ⟨q + 1 + 1, 1, none⟩) (by simp; omega) (.int .u32 u')).drew
  clear c0 c1 c2 d0 d1 d2 e0 e1 e2 D1 D2 D3 L1
  generalize (((w1.setCell ⟨q, 1, none⟩ (.int .u32 s')).setCell ⟨q + 1, 1, none⟩ (.int .u32 t')).setCell ⟨q + 1 + 1, 1, none⟩ (.int .u32 u')).drew = w2 at *
  have R2 : Hid (Tri w w2 q (q + 1) (q + 1 + 1) a s' b t' c u') := hid ⟨E4.out, E1.out, E2.out, E3.out⟩
  obtain ⟨c0, c1, -⟩ := R2.out.k1.cells
  obtain ⟨d0, d1, -⟩ := R2.out.k2.cells
  obtain ⟨e0, e1, -⟩ := R2.out.k3.cells
  clear E1 E2 E3 E4 es et eu
  have HTR := hid (less_trans (a := a) (s := s') (b := b) (t := t') (c := c) (u := u'))
  have HTO := hid (less_total a s' b t')
  have HONE := hid (less_one (a := a) (s := s') (b := b) (t := t'))
  have HB := hid (text_less ha.1 ha.2 s0 s1 hb.1 hb.2 t0 t1)
  obtain ⟨X, hX⟩ : ∃ X, lessL a s' b t' = X := ⟨_, rfl⟩
  obtain ⟨Y, hY⟩ : ∃ Y, lessL b t' c u' = Y := ⟨_, rfl⟩
  obtain ⟨Z, hZ⟩ : ∃ Z, lessL a s' c u' = Z := ⟨_, rfl⟩
  obtain ⟨V, hV⟩ : ∃ V, lessL b t' a s' = V := ⟨_, rfl⟩
  obtain ⟨A, hA⟩ : ∃ A, textL a s' = A := ⟨_, rfl⟩
  obtain ⟨B, hBB⟩ : ∃ B, textL b t' = B := ⟨_, rfl⟩
  have HX := hid hX
  have HY := hid hY
  have HZ := hid hZ
  have HV := hid hV
  have HT1 := hid hA
  have HT2 := hid hBB
  rw [hX, hY, hZ] at HTR
  rw [hX, hV] at HTO
  rw [hX, hV] at HONE
  rw [hX, hA, hBB] at HB
  have HE := hid HTO.out.symm
  clear hX hY hZ hV hA hBB HTO
  have T1 := hid True.intro
  cases X
  · clear HTR HONE
    cases V
    · go_upto_region 6 with (first
        | (go_at_call 15; have kill := T1.out; refine (less15 a s' b t' _).mono ?_; rw [HX.out]; rintro e w3 ⟨rfl, l3⟩; have R3 := hid (R2.out.below l3); obtain ⟨c0, c1, -⟩ := R3.out.k1.cells; obtain ⟨d0, d1, -⟩ := R3.out.k2.cells; obtain ⟨e0, e1, -⟩ := R3.out.k3.cells; have T2 := hid True.intro; clear l3 kill T1))
      have M0 := hid R3.out
      have M1 : Hid (Tri w w3.drew q (q + 1) (q + 1 + 1) a s' b t' c u') := hid ⟨M0.out.old.drew, M0.out.k1, M0.out.k2, M0.out.k3⟩
      clear M0
      refine wp_region_noPanic ?_
      refine wp_region_held_drew (S := (fun w' : World => w'.cell? ⟨q, 0, none⟩ = some (.int .u16 a) ∧ w'.cell? ⟨q, 1, none⟩ = some (.int .u32 s') ∧ w'.cell? ⟨q + 1, 0, none⟩ = some (.int .u16 b) ∧ w'.cell? ⟨q + 1, 1, none⟩ = some (.int .u32 t'))) (by kernel_rfl) ⟨c0, c1, d0, d1⟩ (fun hHeld => ?_)
      (refine tk_yes (v := ?_) 0 (some 35) rfl rfl (by kernel_rfl) (by kernel_rfl) (by kernel_rfl) (fun _ _ _ h => h) (by rfl) ?_ hHeld ?_; rotate_left; focus (intro w hSw; go_simp; try with_reducible rfl))
      simp only [Act.put, List.setIfInBounds_toArray, List.set_cons_zero, List.set_cons_succ]
      (refine tk_yes (v := ?_) 1 (some 36) rfl rfl (by kernel_rfl) (by kernel_rfl) (by kernel_rfl) (fun _ _ _ h => h) (by rfl) ?_ hHeld ?_; rotate_left; focus (intro w hSw; go_simp; try with_reducible rfl))
      simp only [Act.put, List.setIfInBounds_toArray, List.set_cons_zero, List.set_cons_succ]
      (refine tk_yes (v := ?_) 3 (some 38) rfl rfl (by kernel_rfl) (by kernel_rfl) (by kernel_rfl) (fun _ _ _ h => h) (by rfl) ?_ hHeld ?_; rotate_left; focus (intro w hSw; go_simp; try with_reducible rfl))
      simp only [Act.put, List.setIfInBounds_toArray, List.set_cons_zero, List.set_cons_succ]
      (refine tk_yes (v := ?_) 5 (some 40) rfl rfl (by kernel_rfl) (by kernel_rfl) (by kernel_rfl) (fun _ _ _ h => h) (by rfl) ?_ hHeld ?_; rotate_left; focus (intro w hSw; go_simp; try with_reducible rfl))
      simp only [Act.put, List.setIfInBounds_toArray, List.set_cons_zero, List.set_cons_succ]
      refine wpAnyH_ready (rs := [2]) (by kernel_rfl) (by simp) ?_
      refine AllReadyH.cons rfl (fun K hK => ?_) AllReadyH.nil
      go_simp
      go_at_call 15
      refine (less15 a s' b t' _).mono ?_
      rw [HX.out]
      rintro e v1 ⟨rfl, l⟩
      have M2 := hid (M1.out.below l)
      obtain ⟨c0, c1, -⟩ := M2.out.k1.cells
      obtain ⟨d0, d1, -⟩ := M2.out.k2.cells
      clear l M1
      go_wp2_with fail
      refine hK.out _ _ ⟨c0, c1, d0, d1⟩ (fun hHeld => ?_)
      clear hK K
      try simp only [Act.put, List.setIfInBounds_toArray, List.set_cons_zero, List.set_cons_succ]
      refine wpAnyH_ready (rs := [4]) (by kernel_rfl) (by simp) ?_
      refine AllReadyH.cons rfl (fun K hK => ?_) AllReadyH.nil
      go_simp
      go_at_call 11
      refine (text11 a s' _ ha.1 ha.2 s0 (by omega)).mono ?_
      rw [HT1.out]
      rintro e v2 ⟨rfl, l⟩
      have M3 := hid (M2.out.below l)
      obtain ⟨c0, c1, -⟩ := M3.out.k1.cells
      obtain ⟨d0, d1, -⟩ := M3.out.k2.cells
      clear l M2
      go_wp2_with fail
      refine hK.out _ _ ⟨c0, c1, d0, d1⟩ (fun hHeld => ?_)
      clear hK K
      try simp only [Act.put, List.setIfInBounds_toArray, List.set_cons_zero, List.set_cons_succ]
      refine wpAnyH_ready (rs := [6]) (by kernel_rfl) (by simp) ?_
      refine AllReadyH.cons rfl (fun K hK => ?_) AllReadyH.nil
      go_simp
      go_at_call 11
      refine (text11 b t' _ hb.1 hb.2 t0 (by omega)).mono ?_
      rw [HT2.out]
      rintro e v3 ⟨rfl, l⟩
      have M4 := hid (M3.out.below l)
      obtain ⟨c0, c1, -⟩ := M4.out.k1.cells
      obtain ⟨d0, d1, -⟩ := M4.out.k2.cells
      clear l M3
      go_wp2_with fail
      refine hK.out _ _ ⟨c0, c1, d0, d1⟩ (fun hHeld => ?_)
      clear hK K
      try simp only [Act.put, List.setIfInBounds_toArray, List.set_cons_zero, List.set_cons_succ]
      (refine tk_yes (v := .bool false) 7 (some 42) rfl rfl (by kernel_rfl) (by kernel_rfl) (by kernel_rfl) (fun _ _ _ h => h) (by rfl) ?_ hHeld ?_; focus (intro w hSw; go_simp; try exact HB.out))
      simp only [Act.put, List.setIfInBounds_toArray, List.set_cons_zero, List.set_cons_succ]
      (refine tk_yes (v := .bool true) 8 (some 43) rfl rfl (by kernel_rfl) (by kernel_rfl) (by kernel_rfl) (fun _ _ _ h => h) (by rfl) ?_ hHeld ?_; focus (intro w hSw; go_simp))
      simp only [Act.put, List.setIfInBounds_toArray, List.set_cons_zero, List.set_cons_succ]
      (refine tk_yes (v := ?_) 9 (some 44) rfl rfl (by kernel_rfl) (by kernel_rfl) (by kernel_rfl) (fun _ _ _ h => h) (by rfl) ?_ hHeld ?_; rotate_left; focus (intro w hSw; go_simp; try with_reducible rfl))
      simp only [Act.put, List.setIfInBounds_toArray, List.set_cons_zero, List.set_cons_succ]
      (refine tk_yes (v := ?_) 10 (some 45) rfl rfl (by kernel_rfl) (by kernel_rfl) (by kernel_rfl) (fun _ _ _ h => h) (by rfl) ?_ hHeld ?_; rotate_left; focus (intro w hSw; go_simp; try with_reducible rfl))
      simp only [Act.put, List.setIfInBounds_toArray, List.set_cons_zero, List.set_cons_succ]
      (refine tk_yes (v := ?_) 11 (some 46) rfl rfl (by kernel_rfl) (by kernel_rfl) (by kernel_rfl) (fun _ _ _ h => h) (by rfl) ?_ hHeld ?_; rotate_left; focus (intro w hSw; go_simp; try with_reducible rfl))
      simp only [Act.put, List.setIfInBounds_toArray, List.set_cons_zero, List.set_cons_succ]
      (refine tk_yes (v := ?_) 18 (some 53) rfl rfl (by kernel_rfl) (by kernel_rfl) (by kernel_rfl) (fun _ _ _ h => h) (by rfl) ?_ hHeld ?_; rotate_left; focus (intro w hSw; go_simp; try with_reducible rfl))
      simp only [Act.put, List.setIfInBounds_toArray, List.set_cons_zero, List.set_cons_succ]
      (refine tk_yes (v := ?_) 19 (some 54) rfl rfl (by kernel_rfl) (by kernel_rfl) (by kernel_rfl) (fun _ _ _ h => h) (by rfl) ?_ hHeld ?_; rotate_left; focus (intro w hSw; go_simp; try with_reducible rfl))
      simp only [Act.put, List.setIfInBounds_toArray, List.set_cons_zero, List.set_cons_succ]
      (refine tk_yes (v := .bool false) 20 (some 55) rfl rfl (by kernel_rfl) (by kernel_rfl) (by kernel_rfl) (fun _ _ _ h => h) (by rfl) ?_ hHeld ?_; focus (intro w hSw; exact (neqq rfl rfl rfl).trans (by rw [HE.out]; rfl)))
      simp only [Act.put, List.setIfInBounds_toArray, List.set_cons_zero, List.set_cons_succ]
      refine wpAnyH_ready (rs := [12]) (by kernel_rfl) (by simp) ?_
      refine AllReadyH.cons rfl (fun K hK => ?_) AllReadyH.nil
      go_simp
      go_at_call 15
      refine (less15 a s' b t' _).mono ?_
      rw [HX.out]
      rintro e v4 ⟨rfl, l⟩
      have M5 := hid (M4.out.below l)
      obtain ⟨c0, c1, -⟩ := M5.out.k1.cells
      obtain ⟨d0, d1, -⟩ := M5.out.k2.cells
      clear l M4
      go_wp2_with fail
      refine hK.out _ _ ⟨c0, c1, d0, d1⟩ (fun hHeld => ?_)
      clear hK K
      try simp only [Act.put, List.setIfInBounds_toArray, List.set_cons_zero, List.set_cons_succ]
      (refine tk_yes (v := ?_) 13 (some 48) rfl rfl (by kernel_rfl) (by kernel_rfl) (by kernel_rfl) (fun _ _ _ h => h) (by rfl) ?_ hHeld ?_; rotate_left; focus (intro w hSw; go_simp; try with_reducible rfl))
      simp only [Act.put, List.setIfInBounds_toArray, List.set_cons_zero, List.set_cons_succ]
      (refine tk_yes (v := ?_) 14 (some 49) rfl rfl (by kernel_rfl) (by kernel_rfl) (by kernel_rfl) (fun _ _ _ h => h) (by rfl) ?_ hHeld ?_; rotate_left; focus (intro w hSw; go_simp; try with_reducible rfl))
      simp only [Act.put, List.setIfInBounds_toArray, List.set_cons_zero, List.set_cons_succ]
      (refine tk_yes (v := ?_) 15 (some 50) rfl rfl (by kernel_rfl) (by kernel_rfl) (by kernel_rfl) (fun _ _ _ h => h) (by rfl) ?_ hHeld ?_; rotate_left; focus (intro w hSw; go_simp; try with_reducible rfl))
      simp only [Act.put, List.setIfInBounds_toArray, List.set_cons_zero, List.set_cons_succ]
      refine wpAnyH_ready (rs := [16]) (by kernel_rfl) (by simp) ?_
      refine AllReadyH.cons rfl (fun K hK => ?_) AllReadyH.nil
      go_simp
      go_at_call 15
      refine (less15 b t' a s' _).mono ?_
      rw [HV.out]
      rintro e v5 ⟨rfl, l⟩
      have M6 := hid (M5.out.below l)
      obtain ⟨c0, c1, -⟩ := M6.out.k1.cells
      obtain ⟨d0, d1, -⟩ := M6.out.k2.cells
      clear l M5
      go_wp2_with fail
      refine hK.out _ _ ⟨c0, c1, d0, d1⟩ (fun hHeld => ?_)
      clear hK K
      try simp only [Act.put, List.setIfInBounds_toArray, List.set_cons_zero, List.set_cons_succ]
      (refine tk_yes (v := ?_) 17 (some 52) rfl rfl (by kernel_rfl) (by kernel_rfl) (by kernel_rfl) (fun _ _ _ h => h) (by rfl) ?_ hHeld ?_; rotate_left; focus (intro w hSw; go_simp; try with_reducible rfl))
      simp only [Act.put, List.setIfInBounds_toArray, List.set_cons_zero, List.set_cons_succ]
      (refine tk_yes (v := .bool true) 21 (some 56) rfl rfl (by kernel_rfl) (by kernel_rfl) (by kernel_rfl) (fun _ _ _ h => h) (by rfl) ?_ hHeld ?_; focus (intro w hSw; go_simp))
      simp only [Act.put, List.setIfInBounds_toArray, List.set_cons_zero, List.set_cons_succ]
      (refine tk_yes (v := ?_) 22 (some 57) rfl rfl (by kernel_rfl) (by kernel_rfl) (by kernel_rfl) (fun _ _ _ h => h) (by rfl) ?_ hHeld ?_; rotate_left; focus (intro w hSw; go_simp; try with_reducible rfl))
      simp only [Act.put, List.setIfInBounds_toArray, List.set_cons_zero, List.set_cons_succ]
      (refine tk_yes (v := ?_) 23 (some 6) rfl rfl (by kernel_rfl) (by kernel_rfl) (by kernel_rfl) (fun _ _ _ h => h) (by rfl) ?_ hHeld ?_; rotate_left; focus (intro w hSw; go_simp; try with_reducible rfl))
      simp only [Act.put, List.setIfInBounds_toArray, List.set_cons_zero, List.set_cons_succ]
      refine wpAnyH_done (by kernel_rfl) ?_ _
      refine NoPanic.normal ?_
      go_wp2
      go_ret
      exact ⟨rfl, M6.out.old⟩
    · go_upto_region 6 with (first
        | (go_at_call 15; have kill := T1.out; refine (less15 a s' b t' _).mono ?_; rw [HX.out]; rintro e w3 ⟨rfl, l3⟩; have R3 := hid (R2.out.below l3); obtain ⟨c0, c1, -⟩ := R3.out.k1.cells; obtain ⟨d0, d1, -⟩ := R3.out.k2.cells; obtain ⟨e0, e1, -⟩ := R3.out.k3.cells; have T2 := hid True.intro; clear l3 kill T1))
      have M0 := hid R3.out
      have M1 : Hid (Tri w w3.drew q (q + 1) (q + 1 + 1) a s' b t' c u') := hid ⟨M0.out.old.drew, M0.out.k1, M0.out.k2, M0.out.k3⟩
      clear M0
      refine wp_region_noPanic ?_
      refine wp_region_held_drew (S := (fun w' : World => w'.cell? ⟨q, 0, none⟩ = some (.int .u16 a) ∧ w'.cell? ⟨q, 1, none⟩ = some (.int .u32 s') ∧ w'.cell? ⟨q + 1, 0, none⟩ = some (.int .u16 b) ∧ w'.cell? ⟨q + 1, 1, none⟩ = some (.int .u32 t'))) (by kernel_rfl) ⟨c0, c1, d0, d1⟩ (fun hHeld => ?_)
      (refine tk_yes (v := ?_) 0 (some 35) rfl rfl (by kernel_rfl) (by kernel_rfl) (by kernel_rfl) (fun _ _ _ h => h) (by rfl) ?_ hHeld ?_; rotate_left; focus (intro w hSw; go_simp; try with_reducible rfl))
      simp only [Act.put, List.setIfInBounds_toArray, List.set_cons_zero, List.set_cons_succ]
      (refine tk_yes (v := ?_) 1 (some 36) rfl rfl (by kernel_rfl) (by kernel_rfl) (by kernel_rfl) (fun _ _ _ h => h) (by rfl) ?_ hHeld ?_; rotate_left; focus (intro w hSw; go_simp; try with_reducible rfl))
      simp only [Act.put, List.setIfInBounds_toArray, List.set_cons_zero, List.set_cons_succ]
      (refine tk_yes (v := ?_) 3 (some 38) rfl rfl (by kernel_rfl) (by kernel_rfl) (by kernel_rfl) (fun _ _ _ h => h) (by rfl) ?_ hHeld ?_; rotate_left; focus (intro w hSw; go_simp; try with_reducible rfl))
      simp only [Act.put, List.setIfInBounds_toArray, List.set_cons_zero, List.set_cons_succ]
      (refine tk_yes (v := ?_) 5 (some 40) rfl rfl (by kernel_rfl) (by kernel_rfl) (by kernel_rfl) (fun _ _ _ h => h) (by rfl) ?_ hHeld ?_; rotate_left; focus (intro w hSw; go_simp; try with_reducible rfl))
      simp only [Act.put, List.setIfInBounds_toArray, List.set_cons_zero, List.set_cons_succ]
      refine wpAnyH_ready (rs := [2]) (by kernel_rfl) (by simp) ?_
      refine AllReadyH.cons rfl (fun K hK => ?_) AllReadyH.nil
      go_simp
      go_at_call 15
      refine (less15 a s' b t' _).mono ?_
      rw [HX.out]
      rintro e v1 ⟨rfl, l⟩
      have M2 := hid (M1.out.below l)
      obtain ⟨c0, c1, -⟩ := M2.out.k1.cells
      obtain ⟨d0, d1, -⟩ := M2.out.k2.cells
      clear l M1
      go_wp2_with fail
      refine hK.out _ _ ⟨c0, c1, d0, d1⟩ (fun hHeld => ?_)
      clear hK K
      try simp only [Act.put, List.setIfInBounds_toArray, List.set_cons_zero, List.set_cons_succ]
      refine wpAnyH_ready (rs := [4]) (by kernel_rfl) (by simp) ?_
      refine AllReadyH.cons rfl (fun K hK => ?_) AllReadyH.nil
      go_simp
      go_at_call 11
      refine (text11 a s' _ ha.1 ha.2 s0 (by omega)).mono ?_
      rw [HT1.out]
      rintro e v2 ⟨rfl, l⟩
      have M3 := hid (M2.out.below l)
      obtain ⟨c0, c1, -⟩ := M3.out.k1.cells
      obtain ⟨d0, d1, -⟩ := M3.out.k2.cells
      clear l M2
      go_wp2_with fail
      refine hK.out _ _ ⟨c0, c1, d0, d1⟩ (fun hHeld => ?_)
      clear hK K
      try simp only [Act.put, List.setIfInBounds_toArray, List.set_cons_zero, List.set_cons_succ]
      refine wpAnyH_ready (rs := [6]) (by kernel_rfl) (by simp) ?_
      refine AllReadyH.cons rfl (fun K hK => ?_) AllReadyH.nil
      go_simp
      go_at_call 11
      refine (text11 b t' _ hb.1 hb.2 t0 (by omega)).mono ?_
      rw [HT2.out]
      rintro e v3 ⟨rfl, l⟩
      have M4 := hid (M3.out.below l)
      obtain ⟨c0, c1, -⟩ := M4.out.k1.cells
      obtain ⟨d0, d1, -⟩ := M4.out.k2.cells
      clear l M3
      go_wp2_with fail
      refine hK.out _ _ ⟨c0, c1, d0, d1⟩ (fun hHeld => ?_)
      clear hK K
      try simp only [Act.put, List.setIfInBounds_toArray, List.set_cons_zero, List.set_cons_succ]
      (refine tk_yes (v := .bool false) 7 (some 42) rfl rfl (by kernel_rfl) (by kernel_rfl) (by kernel_rfl) (fun _ _ _ h => h) (by rfl) ?_ hHeld ?_; focus (intro w hSw; go_simp; try exact HB.out))
      simp only [Act.put, List.setIfInBounds_toArray, List.set_cons_zero, List.set_cons_succ]
      (refine tk_yes (v := .bool true) 8 (some 43) rfl rfl (by kernel_rfl) (by kernel_rfl) (by kernel_rfl) (fun _ _ _ h => h) (by rfl) ?_ hHeld ?_; focus (intro w hSw; go_simp))
      simp only [Act.put, List.setIfInBounds_toArray, List.set_cons_zero, List.set_cons_succ]
      (refine tk_yes (v := ?_) 9 (some 44) rfl rfl (by kernel_rfl) (by kernel_rfl) (by kernel_rfl) (fun _ _ _ h => h) (by rfl) ?_ hHeld ?_; rotate_left; focus (intro w hSw; go_simp; try with_reducible rfl))
      simp only [Act.put, List.setIfInBounds_toArray, List.set_cons_zero, List.set_cons_succ]
      (refine tk_yes (v := ?_) 10 (some 45) rfl rfl (by kernel_rfl) (by kernel_rfl) (by kernel_rfl) (fun _ _ _ h => h) (by rfl) ?_ hHeld ?_; rotate_left; focus (intro w hSw; go_simp; try with_reducible rfl))
      simp only [Act.put, List.setIfInBounds_toArray, List.set_cons_zero, List.set_cons_succ]
      (refine tk_yes (v := ?_) 11 (some 46) rfl rfl (by kernel_rfl) (by kernel_rfl) (by kernel_rfl) (fun _ _ _ h => h) (by rfl) ?_ hHeld ?_; rotate_left; focus (intro w hSw; go_simp; try with_reducible rfl))
      simp only [Act.put, List.setIfInBounds_toArray, List.set_cons_zero, List.set_cons_succ]
      (refine tk_yes (v := ?_) 18 (some 53) rfl rfl (by kernel_rfl) (by kernel_rfl) (by kernel_rfl) (fun _ _ _ h => h) (by rfl) ?_ hHeld ?_; rotate_left; focus (intro w hSw; go_simp; try with_reducible rfl))
      simp only [Act.put, List.setIfInBounds_toArray, List.set_cons_zero, List.set_cons_succ]
      (refine tk_yes (v := ?_) 19 (some 54) rfl rfl (by kernel_rfl) (by kernel_rfl) (by kernel_rfl) (fun _ _ _ h => h) (by rfl) ?_ hHeld ?_; rotate_left; focus (intro w hSw; go_simp; try with_reducible rfl))
      simp only [Act.put, List.setIfInBounds_toArray, List.set_cons_zero, List.set_cons_succ]
      (refine tk_yes (v := .bool true) 20 (some 55) rfl rfl (by kernel_rfl) (by kernel_rfl) (by kernel_rfl) (fun _ _ _ h => h) (by rfl) ?_ hHeld ?_; focus (intro w hSw; exact (neqq rfl rfl rfl).trans (by rw [HE.out]; rfl)))
      simp only [Act.put, List.setIfInBounds_toArray, List.set_cons_zero, List.set_cons_succ]
      refine wpAnyH_ready (rs := [12]) (by kernel_rfl) (by simp) ?_
      refine AllReadyH.cons rfl (fun K hK => ?_) AllReadyH.nil
      go_simp
      go_at_call 15
      refine (less15 a s' b t' _).mono ?_
      rw [HX.out]
      rintro e v4 ⟨rfl, l⟩
      have M5 := hid (M4.out.below l)
      obtain ⟨c0, c1, -⟩ := M5.out.k1.cells
      obtain ⟨d0, d1, -⟩ := M5.out.k2.cells
      clear l M4
      go_wp2_with fail
      refine hK.out _ _ ⟨c0, c1, d0, d1⟩ (fun hHeld => ?_)
      clear hK K
      try simp only [Act.put, List.setIfInBounds_toArray, List.set_cons_zero, List.set_cons_succ]
      (refine tk_yes (v := ?_) 13 (some 48) rfl rfl (by kernel_rfl) (by kernel_rfl) (by kernel_rfl) (fun _ _ _ h => h) (by rfl) ?_ hHeld ?_; rotate_left; focus (intro w hSw; go_simp; try with_reducible rfl))
      simp only [Act.put, List.setIfInBounds_toArray, List.set_cons_zero, List.set_cons_succ]
      (refine tk_yes (v := ?_) 14 (some 49) rfl rfl (by kernel_rfl) (by kernel_rfl) (by kernel_rfl) (fun _ _ _ h => h) (by rfl) ?_ hHeld ?_; rotate_left; focus (intro w hSw; go_simp; try with_reducible rfl))
      simp only [Act.put, List.setIfInBounds_toArray, List.set_cons_zero, List.set_cons_succ]
      (refine tk_yes (v := ?_) 15 (some 50) rfl rfl (by kernel_rfl) (by kernel_rfl) (by kernel_rfl) (fun _ _ _ h => h) (by rfl) ?_ hHeld ?_; rotate_left; focus (intro w hSw; go_simp; try with_reducible rfl))
      simp only [Act.put, List.setIfInBounds_toArray, List.set_cons_zero, List.set_cons_succ]
      refine wpAnyH_ready (rs := [16]) (by kernel_rfl) (by simp) ?_
      refine AllReadyH.cons rfl (fun K hK => ?_) AllReadyH.nil
      go_simp
      go_at_call 15
      refine (less15 b t' a s' _).mono ?_
      rw [HV.out]
      rintro e v5 ⟨rfl, l⟩
      have M6 := hid (M5.out.below l)
      obtain ⟨c0, c1, -⟩ := M6.out.k1.cells
      obtain ⟨d0, d1, -⟩ := M6.out.k2.cells
      clear l M5
      go_wp2_with fail
      refine hK.out _ _ ⟨c0, c1, d0, d1⟩ (fun hHeld => ?_)
      clear hK K
      try simp only [Act.put, List.setIfInBounds_toArray, List.set_cons_zero, List.set_cons_succ]
      (refine tk_yes (v := ?_) 17 (some 52) rfl rfl (by kernel_rfl) (by kernel_rfl) (by kernel_rfl) (fun _ _ _ h => h) (by rfl) ?_ hHeld ?_; rotate_left; focus (intro w hSw; go_simp; try with_reducible rfl))
      simp only [Act.put, List.setIfInBounds_toArray, List.set_cons_zero, List.set_cons_succ]
      (refine tk_yes (v := .bool true) 21 (some 56) rfl rfl (by kernel_rfl) (by kernel_rfl) (by kernel_rfl) (fun _ _ _ h => h) (by rfl) ?_ hHeld ?_; focus (intro w hSw; go_simp))
      simp only [Act.put, List.setIfInBounds_toArray, List.set_cons_zero, List.set_cons_succ]
      (refine tk_yes (v := ?_) 22 (some 57) rfl rfl (by kernel_rfl) (by kernel_rfl) (by kernel_rfl) (fun _ _ _ h => h) (by rfl) ?_ hHeld ?_; rotate_left; focus (intro w hSw; go_simp; try with_reducible rfl))
      simp only [Act.put, List.setIfInBounds_toArray, List.set_cons_zero, List.set_cons_succ]
      (refine tk_yes (v := ?_) 23 (some 6) rfl rfl (by kernel_rfl) (by kernel_rfl) (by kernel_rfl) (fun _ _ _ h => h) (by rfl) ?_ hHeld ?_; rotate_left; focus (intro w hSw; go_simp; try with_reducible rfl))
      simp only [Act.put, List.setIfInBounds_toArray, List.set_cons_zero, List.set_cons_succ]
      refine wpAnyH_done (by kernel_rfl) ?_ _
      refine NoPanic.normal ?_
      go_wp2
      go_ret
      exact ⟨rfl, M6.out.old⟩
  · have e := HONE.out rfl
    subst e
    clear HONE
    cases Y
    · clear HTR
      go_upto_region 6 with (first
        | (go_at_call 15; have kill := T2.out; refine (less15 b t' c u' _).mono ?_; rw [HY.out]; rintro e w4 ⟨rfl, l4⟩; have R4 := hid (R3.out.below l4); obtain ⟨c0, c1, -⟩ := R4.out.k1.cells; obtain ⟨d0, d1, -⟩ := R4.out.k2.cells; obtain ⟨e0, e1, -⟩ := R4.out.k3.cells; have T3 := hid True.intro; clear l4 kill T2)
        | (go_at_call 15; have kill := T1.out; refine (less15 a s' b t' _).mono ?_; rw [HX.out]; rintro e w3 ⟨rfl, l3⟩; have R3 := hid (R2.out.below l3); obtain ⟨c0, c1, -⟩ := R3.out.k1.cells; obtain ⟨d0, d1, -⟩ := R3.out.k2.cells; obtain ⟨e0, e1, -⟩ := R3.out.k3.cells; have T2 := hid True.intro; clear l3 kill T1))
      have M0 := hid R4.out
      have M1 : Hid (Tri w w4.drew q (q + 1) (q + 1 + 1) a s' b t' c u') := hid ⟨M0.out.old.drew, M0.out.k1, M0.out.k2, M0.out.k3⟩
      clear M0
      refine wp_region_noPanic ?_
      refine wp_region_held_drew (S := (fun w' : World => w'.cell? ⟨q, 0, none⟩ = some (.int .u16 a) ∧ w'.cell? ⟨q, 1, none⟩ = some (.int .u32 s') ∧ w'.cell? ⟨q + 1, 0, none⟩ = some (.int .u16 b) ∧ w'.cell? ⟨q + 1, 1, none⟩ = some (.int .u32 t'))) (by kernel_rfl) ⟨c0, c1, d0, d1⟩ (fun hHeld => ?_)
      (refine tk_yes (v := ?_) 0 (some 35) rfl rfl (by kernel_rfl) (by kernel_rfl) (by kernel_rfl) (fun _ _ _ h => h) (by rfl) ?_ hHeld ?_; rotate_left; focus (intro w hSw; go_simp; try with_reducible rfl))
      simp only [Act.put, List.setIfInBounds_toArray, List.set_cons_zero, List.set_cons_succ]
      (refine tk_yes (v := ?_) 1 (some 36) rfl rfl (by kernel_rfl) (by kernel_rfl) (by kernel_rfl) (fun _ _ _ h => h) (by rfl) ?_ hHeld ?_; rotate_left; focus (intro w hSw; go_simp; try with_reducible rfl))
      simp only [Act.put, List.setIfInBounds_toArray, List.set_cons_zero, List.set_cons_succ]
      (refine tk_yes (v := ?_) 3 (some 38) rfl rfl (by kernel_rfl) (by kernel_rfl) (by kernel_rfl) (fun _ _ _ h => h) (by rfl) ?_ hHeld ?_; rotate_left; focus (intro w hSw; go_simp; try with_reducible rfl))
      simp only [Act.put, List.setIfInBounds_toArray, List.set_cons_zero, List.set_cons_succ]
      (refine tk_yes (v := ?_) 5 (some 40) rfl rfl (by kernel_rfl) (by kernel_rfl) (by kernel_rfl) (fun _ _ _ h => h) (by rfl) ?_ hHeld ?_; rotate_left; focus (intro w hSw; go_simp; try with_reducible rfl))
      simp only [Act.put, List.setIfInBounds_toArray, List.set_cons_zero, List.set_cons_succ]
      refine wpAnyH_ready (rs := [2]) (by kernel_rfl) (by simp) ?_
      refine AllReadyH.cons rfl (fun K hK => ?_) AllReadyH.nil
      go_simp
      go_at_call 15
      refine (less15 a s' b t' _).mono ?_
      rw [HX.out]
      rintro e v1 ⟨rfl, l⟩
      have M2 := hid (M1.out.below l)
      obtain ⟨c0, c1, -⟩ := M2.out.k1.cells
      obtain ⟨d0, d1, -⟩ := M2.out.k2.cells
      clear l M1
      go_wp2_with fail
      refine hK.out _ _ ⟨c0, c1, d0, d1⟩ (fun hHeld => ?_)
      clear hK K
      try simp only [Act.put, List.setIfInBounds_toArray, List.set_cons_zero, List.set_cons_succ]
      refine wpAnyH_ready (rs := [4]) (by kernel_rfl) (by simp) ?_
      refine AllReadyH.cons rfl (fun K hK => ?_) AllReadyH.nil
      go_simp
      go_at_call 11
      refine (text11 a s' _ ha.1 ha.2 s0 (by omega)).mono ?_
      rw [HT1.out]
      rintro e v2 ⟨rfl, l⟩
      have M3 := hid (M2.out.below l)
      obtain ⟨c0, c1, -⟩ := M3.out.k1.cells
      obtain ⟨d0, d1, -⟩ := M3.out.k2.cells
      clear l M2
      go_wp2_with fail
      refine hK.out _ _ ⟨c0, c1, d0, d1⟩ (fun hHeld => ?_)
      clear hK K
      try simp only [Act.put, List.setIfInBounds_toArray, List.set_cons_zero, List.set_cons_succ]
      refine wpAnyH_ready (rs := [6]) (by kernel_rfl) (by simp) ?_
      refine AllReadyH.cons rfl (fun K hK => ?_) AllReadyH.nil
      go_simp
      go_at_call 11
      refine (text11 b t' _ hb.1 hb.2 t0 (by omega)).mono ?_
      rw [HT2.out]
      rintro e v3 ⟨rfl, l⟩
      have M4 := hid (M3.out.below l)
      obtain ⟨c0, c1, -⟩ := M4.out.k1.cells
      obtain ⟨d0, d1, -⟩ := M4.out.k2.cells
      clear l M3
      go_wp2_with fail
      refine hK.out _ _ ⟨c0, c1, d0, d1⟩ (fun hHeld => ?_)
      clear hK K
      try simp only [Act.put, List.setIfInBounds_toArray, List.set_cons_zero, List.set_cons_succ]
      (refine tk_yes (v := .bool true) 7 (some 42) rfl rfl (by kernel_rfl) (by kernel_rfl) (by kernel_rfl) (fun _ _ _ h => h) (by rfl) ?_ hHeld ?_; focus (intro w hSw; go_simp; try exact HB.out))
      simp only [Act.put, List.setIfInBounds_toArray, List.set_cons_zero, List.set_cons_succ]
      (refine tk_yes (v := .bool true) 8 (some 43) rfl rfl (by kernel_rfl) (by kernel_rfl) (by kernel_rfl) (fun _ _ _ h => h) (by rfl) ?_ hHeld ?_; focus (intro w hSw; go_simp))
      simp only [Act.put, List.setIfInBounds_toArray, List.set_cons_zero, List.set_cons_succ]
      (refine tk_yes (v := ?_) 9 (some 44) rfl rfl (by kernel_rfl) (by kernel_rfl) (by kernel_rfl) (fun _ _ _ h => h) (by rfl) ?_ hHeld ?_; rotate_left; focus (intro w hSw; go_simp; try with_reducible rfl))
      simp only [Act.put, List.setIfInBounds_toArray, List.set_cons_zero, List.set_cons_succ]
      (refine tk_yes (v := ?_) 10 (some 45) rfl rfl (by kernel_rfl) (by kernel_rfl) (by kernel_rfl) (fun _ _ _ h => h) (by rfl) ?_ hHeld ?_; rotate_left; focus (intro w hSw; go_simp; try with_reducible rfl))
      simp only [Act.put, List.setIfInBounds_toArray, List.set_cons_zero, List.set_cons_succ]
      (refine tk_yes (v := ?_) 11 (some 46) rfl rfl (by kernel_rfl) (by kernel_rfl) (by kernel_rfl) (fun _ _ _ h => h) (by rfl) ?_ hHeld ?_; rotate_left; focus (intro w hSw; go_simp; try with_reducible rfl))
      simp only [Act.put, List.setIfInBounds_toArray, List.set_cons_zero, List.set_cons_succ]
      (refine tk_yes (v := ?_) 18 (some 53) rfl rfl (by kernel_rfl) (by kernel_rfl) (by kernel_rfl) (fun _ _ _ h => h) (by rfl) ?_ hHeld ?_; rotate_left; focus (intro w hSw; go_simp; try with_reducible rfl))
      simp only [Act.put, List.setIfInBounds_toArray, List.set_cons_zero, List.set_cons_succ]
      (refine tk_yes (v := ?_) 19 (some 54) rfl rfl (by kernel_rfl) (by kernel_rfl) (by kernel_rfl) (fun _ _ _ h => h) (by rfl) ?_ hHeld ?_; rotate_left; focus (intro w hSw; go_simp; try with_reducible rfl))
      simp only [Act.put, List.setIfInBounds_toArray, List.set_cons_zero, List.set_cons_succ]
      (refine tk_yes (v := .bool true) 20 (some 55) rfl rfl (by kernel_rfl) (by kernel_rfl) (by kernel_rfl) (fun _ _ _ h => h) (by rfl) ?_ hHeld ?_; focus (intro w hSw; exact (neqq rfl rfl rfl).trans (by rw [HE.out]; rfl)))
      simp only [Act.put, List.setIfInBounds_toArray, List.set_cons_zero, List.set_cons_succ]
      refine wpAnyH_ready (rs := [12]) (by kernel_rfl) (by simp) ?_
      refine AllReadyH.cons rfl (fun K hK => ?_) AllReadyH.nil
      go_simp
      go_at_call 15
      refine (less15 a s' b t' _).mono ?_
      rw [HX.out]
      rintro e v4 ⟨rfl, l⟩
      have M5 := hid (M4.out.below l)
      obtain ⟨c0, c1, -⟩ := M5.out.k1.cells
      obtain ⟨d0, d1, -⟩ := M5.out.k2.cells
      clear l M4
      go_wp2_with fail
      refine hK.out _ _ ⟨c0, c1, d0, d1⟩ (fun hHeld => ?_)
      clear hK K
      try simp only [Act.put, List.setIfInBounds_toArray, List.set_cons_zero, List.set_cons_succ]
      (refine tk_yes (v := ?_) 13 (some 48) rfl rfl (by kernel_rfl) (by kernel_rfl) (by kernel_rfl) (fun _ _ _ h => h) (by rfl) ?_ hHeld ?_; rotate_left; focus (intro w hSw; go_simp; try with_reducible rfl))
      simp only [Act.put, List.setIfInBounds_toArray, List.set_cons_zero, List.set_cons_succ]
      refine tk_no 14 (some 49) rfl rfl (by kernel_rfl) (by kernel_rfl) (by kernel_rfl) (fun _ _ _ h => h) (by rfl) hHeld ?_
      simp only [Act.put, List.setIfInBounds_toArray, List.set_cons_zero, List.set_cons_succ]
      refine tk_no 15 (some 50) rfl rfl (by kernel_rfl) (by kernel_rfl) (by kernel_rfl) (fun _ _ _ h => h) (by rfl) hHeld ?_
      simp only [Act.put, List.setIfInBounds_toArray, List.set_cons_zero, List.set_cons_succ]
      refine tk_no 16 (some 51) rfl rfl (by kernel_rfl) (by kernel_rfl) (by kernel_rfl) (fun _ _ _ h => h) (by rfl) hHeld ?_
      simp only [Act.put, List.setIfInBounds_toArray, List.set_cons_zero, List.set_cons_succ]
      (refine tk_yes (v := ?_) 17 (some 52) rfl rfl (by kernel_rfl) (by kernel_rfl) (by kernel_rfl) (fun _ _ _ h => h) (by rfl) ?_ hHeld ?_; rotate_left; focus (intro w hSw; go_simp; try with_reducible rfl))
      simp only [Act.put, List.setIfInBounds_toArray, List.set_cons_zero, List.set_cons_succ]
      (refine tk_yes (v := .bool true) 21 (some 56) rfl rfl (by kernel_rfl) (by kernel_rfl) (by kernel_rfl) (fun _ _ _ h => h) (by rfl) ?_ hHeld ?_; focus (intro w hSw; go_simp))
      simp only [Act.put, List.setIfInBounds_toArray, List.set_cons_zero, List.set_cons_succ]
      (refine tk_yes (v := ?_) 22 (some 57) rfl rfl (by kernel_rfl) (by kernel_rfl) (by kernel_rfl) (fun _ _ _ h => h) (by rfl) ?_ hHeld ?_; rotate_left; focus (intro w hSw; go_simp; try with_reducible rfl))
      simp only [Act.put, List.setIfInBounds_toArray, List.set_cons_zero, List.set_cons_succ]
      (refine tk_yes (v := ?_) 23 (some 6) rfl rfl (by kernel_rfl) (by kernel_rfl) (by kernel_rfl) (fun _ _ _ h => h) (by rfl) ?_ hHeld ?_; rotate_left; focus (intro w hSw; go_simp; try with_reducible rfl))
      simp only [Act.put, List.setIfInBounds_toArray, List.set_cons_zero, List.set_cons_succ]
      refine wpAnyH_done (by kernel_rfl) ?_ _
      refine NoPanic.normal ?_
      go_wp2
      go_ret
      exact ⟨rfl, M5.out.old⟩
    · have e := HTR.out rfl rfl
      subst e
      clear HTR
      go_upto_region 6 with (first
        | (go_at_call 15; have kill := T3.out; refine (less15 a s' c u' _).mono ?_; rw [HZ.out]; rintro e w5 ⟨rfl, l5⟩; have R5 := hid (R4.out.below l5); obtain ⟨c0, c1, -⟩ := R5.out.k1.cells; obtain ⟨d0, d1, -⟩ := R5.out.k2.cells; obtain ⟨e0, e1, -⟩ := R5.out.k3.cells; have T4 := hid True.intro; clear l5 kill T3)
        | (go_at_call 15; have kill := T2.out; refine (less15 b t' c u' _).mono ?_; rw [HY.out]; rintro e w4 ⟨rfl, l4⟩; have R4 := hid (R3.out.below l4); obtain ⟨c0, c1, -⟩ := R4.out.k1.cells; obtain ⟨d0, d1, -⟩ := R4.out.k2.cells; obtain ⟨e0, e1, -⟩ := R4.out.k3.cells; have T3 := hid True.intro; clear l4 kill T2)
        | (go_at_call 15; have kill := T1.out; refine (less15 a s' b t' _).mono ?_; rw [HX.out]; rintro e w3 ⟨rfl, l3⟩; have R3 := hid (R2.out.below l3); obtain ⟨c0, c1, -⟩ := R3.out.k1.cells; obtain ⟨d0, d1, -⟩ := R3.out.k2.cells; obtain ⟨e0, e1, -⟩ := R3.out.k3.cells; have T2 := hid True.intro; clear l3 kill T1))
      have M0 := hid R5.out
      have M1 : Hid (Tri w w5.drew q (q + 1) (q + 1 + 1) a s' b t' c u') := hid ⟨M0.out.old.drew, M0.out.k1, M0.out.k2, M0.out.k3⟩
      clear M0
      refine wp_region_noPanic ?_
      refine wp_region_held_drew (S := (fun w' : World => w'.cell? ⟨q, 0, none⟩ = some (.int .u16 a) ∧ w'.cell? ⟨q, 1, none⟩ = some (.int .u32 s') ∧ w'.cell? ⟨q + 1, 0, none⟩ = some (.int .u16 b) ∧ w'.cell? ⟨q + 1, 1, none⟩ = some (.int .u32 t'))) (by kernel_rfl) ⟨c0, c1, d0, d1⟩ (fun hHeld => ?_)
      (refine tk_yes (v := ?_) 0 (some 35) rfl rfl (by kernel_rfl) (by kernel_rfl) (by kernel_rfl) (fun _ _ _ h => h) (by rfl) ?_ hHeld ?_; rotate_left; focus (intro w hSw; go_simp; try with_reducible rfl))
      simp only [Act.put, List.setIfInBounds_toArray, List.set_cons_zero, List.set_cons_succ]
      (refine tk_yes (v := ?_) 1 (some 36) rfl rfl (by kernel_rfl) (by kernel_rfl) (by kernel_rfl) (fun _ _ _ h => h) (by rfl) ?_ hHeld ?_; rotate_left; focus (intro w hSw; go_simp; try with_reducible rfl))
      simp only [Act.put, List.setIfInBounds_toArray, List.set_cons_zero, List.set_cons_succ]
      (refine tk_yes (v := ?_) 3 (some 38) rfl rfl (by kernel_rfl) (by kernel_rfl) (by kernel_rfl) (fun _ _ _ h => h) (by rfl) ?_ hHeld ?_; rotate_left; focus (intro w hSw; go_simp; try with_reducible rfl))
      simp only [Act.put, List.setIfInBounds_toArray, List.set_cons_zero, List.set_cons_succ]
      (refine tk_yes (v := ?_) 5 (some 40) rfl rfl (by kernel_rfl) (by kernel_rfl) (by kernel_rfl) (fun _ _ _ h => h) (by rfl) ?_ hHeld ?_; rotate_left; focus (intro w hSw; go_simp; try with_reducible rfl))
      simp only [Act.put, List.setIfInBounds_toArray, List.set_cons_zero, List.set_cons_succ]
      refine wpAnyH_ready (rs := [2]) (by kernel_rfl) (by simp) ?_
      refine AllReadyH.cons rfl (fun K hK => ?_) AllReadyH.nil
      go_simp
      go_at_call 15
      refine (less15 a s' b t' _).mono ?_
      rw [HX.out]
      rintro e v1 ⟨rfl, l⟩
      have M2 := hid (M1.out.below l)
      obtain ⟨c0, c1, -⟩ := M2.out.k1.cells
      obtain ⟨d0, d1, -⟩ := M2.out.k2.cells
      clear l M1
      go_wp2_with fail
      refine hK.out _ _ ⟨c0, c1, d0, d1⟩ (fun hHeld => ?_)
      clear hK K
      try simp only [Act.put, List.setIfInBounds_toArray, List.set_cons_zero, List.set_cons_succ]
      refine wpAnyH_ready (rs := [4]) (by kernel_rfl) (by simp) ?_
      refine AllReadyH.cons rfl (fun K hK => ?_) AllReadyH.nil
      go_simp
      go_at_call 11
      refine (text11 a s' _ ha.1 ha.2 s0 (by omega)).mono ?_
      rw [HT1.out]
      rintro e v2 ⟨rfl, l⟩
      have M3 := hid (M2.out.below l)
      obtain ⟨c0, c1, -⟩ := M3.out.k1.cells
      obtain ⟨d0, d1, -⟩ := M3.out.k2.cells
      clear l M2
      go_wp2_with fail
      refine hK.out _ _ ⟨c0, c1, d0, d1⟩ (fun hHeld => ?_)
      clear hK K
      try simp only [Act.put, List.setIfInBounds_toArray, List.set_cons_zero, List.set_cons_succ]
      refine wpAnyH_ready (rs := [6]) (by kernel_rfl) (by simp) ?_
      refine AllReadyH.cons rfl (fun K hK => ?_) AllReadyH.nil
      go_simp
      go_at_call 11
      refine (text11 b t' _ hb.1 hb.2 t0 (by omega)).mono ?_
      rw [HT2.out]
      rintro e v3 ⟨rfl, l⟩
      have M4 := hid (M3.out.below l)
      obtain ⟨c0, c1, -⟩ := M4.out.k1.cells
      obtain ⟨d0, d1, -⟩ := M4.out.k2.cells
      clear l M3
      go_wp2_with fail
      refine hK.out _ _ ⟨c0, c1, d0, d1⟩ (fun hHeld => ?_)
      clear hK K
      try simp only [Act.put, List.setIfInBounds_toArray, List.set_cons_zero, List.set_cons_succ]
      (refine tk_yes (v := .bool true) 7 (some 42) rfl rfl (by kernel_rfl) (by kernel_rfl) (by kernel_rfl) (fun _ _ _ h => h) (by rfl) ?_ hHeld ?_; focus (intro w hSw; go_simp; try exact HB.out))
      simp only [Act.put, List.setIfInBounds_toArray, List.set_cons_zero, List.set_cons_succ]
      (refine tk_yes (v := .bool true) 8 (some 43) rfl rfl (by kernel_rfl) (by kernel_rfl) (by kernel_rfl) (fun _ _ _ h => h) (by rfl) ?_ hHeld ?_; focus (intro w hSw; go_simp))
      simp only [Act.put, List.setIfInBounds_toArray, List.set_cons_zero, List.set_cons_succ]
      (refine tk_yes (v := ?_) 9 (some 44) rfl rfl (by kernel_rfl) (by kernel_rfl) (by kernel_rfl) (fun _ _ _ h => h) (by rfl) ?_ hHeld ?_; rotate_left; focus (intro w hSw; go_simp; try with_reducible rfl))
      simp only [Act.put, List.setIfInBounds_toArray, List.set_cons_zero, List.set_cons_succ]
      (refine tk_yes (v := ?_) 10 (some 45) rfl rfl (by kernel_rfl) (by kernel_rfl) (by kernel_rfl) (fun _ _ _ h => h) (by rfl) ?_ hHeld ?_; rotate_left; focus (intro w hSw; go_simp; try with_reducible rfl))
      simp only [Act.put, List.setIfInBounds_toArray, List.set_cons_zero, List.set_cons_succ]
      (refine tk_yes (v := ?_) 11 (some 46) rfl rfl (by kernel_rfl) (by kernel_rfl) (by kernel_rfl) (fun _ _ _ h => h) (by rfl) ?_ hHeld ?_; rotate_left; focus (intro w hSw; go_simp; try with_reducible rfl))
      simp only [Act.put, List.setIfInBounds_toArray, List.set_cons_zero, List.set_cons_succ]
      (refine tk_yes (v := ?_) 18 (some 53) rfl rfl (by kernel_rfl) (by kernel_rfl) (by kernel_rfl) (fun _ _ _ h => h) (by rfl) ?_ hHeld ?_; rotate_left; focus (intro w hSw; go_simp; try with_reducible rfl))
      simp only [Act.put, List.setIfInBounds_toArray, List.set_cons_zero, List.set_cons_succ]
      (refine tk_yes (v := ?_) 19 (some 54) rfl rfl (by kernel_rfl) (by kernel_rfl) (by kernel_rfl) (fun _ _ _ h => h) (by rfl) ?_ hHeld ?_; rotate_left; focus (intro w hSw; go_simp; try with_reducible rfl))
      simp only [Act.put, List.setIfInBounds_toArray, List.set_cons_zero, List.set_cons_succ]
      (refine tk_yes (v := .bool true) 20 (some 55) rfl rfl (by kernel_rfl) (by kernel_rfl) (by kernel_rfl) (fun _ _ _ h => h) (by rfl) ?_ hHeld ?_; focus (intro w hSw; exact (neqq rfl rfl rfl).trans (by rw [HE.out]; rfl)))
      simp only [Act.put, List.setIfInBounds_toArray, List.set_cons_zero, List.set_cons_succ]
      refine wpAnyH_ready (rs := [12]) (by kernel_rfl) (by simp) ?_
      refine AllReadyH.cons rfl (fun K hK => ?_) AllReadyH.nil
      go_simp
      go_at_call 15
      refine (less15 a s' b t' _).mono ?_
      rw [HX.out]
      rintro e v4 ⟨rfl, l⟩
      have M5 := hid (M4.out.below l)
      obtain ⟨c0, c1, -⟩ := M5.out.k1.cells
      obtain ⟨d0, d1, -⟩ := M5.out.k2.cells
      clear l M4
      go_wp2_with fail
      refine hK.out _ _ ⟨c0, c1, d0, d1⟩ (fun hHeld => ?_)
      clear hK K
      try simp only [Act.put, List.setIfInBounds_toArray, List.set_cons_zero, List.set_cons_succ]
      (refine tk_yes (v := ?_) 13 (some 48) rfl rfl (by kernel_rfl) (by kernel_rfl) (by kernel_rfl) (fun _ _ _ h => h) (by rfl) ?_ hHeld ?_; rotate_left; focus (intro w hSw; go_simp; try with_reducible rfl))
      simp only [Act.put, List.setIfInBounds_toArray, List.set_cons_zero, List.set_cons_succ]
      refine tk_no 14 (some 49) rfl rfl (by kernel_rfl) (by kernel_rfl) (by kernel_rfl) (fun _ _ _ h => h) (by rfl) hHeld ?_
      simp only [Act.put, List.setIfInBounds_toArray, List.set_cons_zero, List.set_cons_succ]
      refine tk_no 15 (some 50) rfl rfl (by kernel_rfl) (by kernel_rfl) (by kernel_rfl) (fun _ _ _ h => h) (by rfl) hHeld ?_
      simp only [Act.put, List.setIfInBounds_toArray, List.set_cons_zero, List.set_cons_succ]
      refine tk_no 16 (some 51) rfl rfl (by kernel_rfl) (by kernel_rfl) (by kernel_rfl) (fun _ _ _ h => h) (by rfl) hHeld ?_
      simp only [Act.put, List.setIfInBounds_toArray, List.set_cons_zero, List.set_cons_succ]
      (refine tk_yes (v := ?_) 17 (some 52) rfl rfl (by kernel_rfl) (by kernel_rfl) (by kernel_rfl) (fun _ _ _ h => h) (by rfl) ?_ hHeld ?_; rotate_left; focus (intro w hSw; go_simp; try with_reducible rfl))
      simp only [Act.put, List.setIfInBounds_toArray, List.set_cons_zero, List.set_cons_succ]
      (refine tk_yes (v := .bool true) 21 (some 56) rfl rfl (by kernel_rfl) (by kernel_rfl) (by kernel_rfl) (fun _ _ _ h => h) (by rfl) ?_ hHeld ?_; focus (intro w hSw; go_simp))
      simp only [Act.put, List.setIfInBounds_toArray, List.set_cons_zero, List.set_cons_succ]
      (refine tk_yes (v := ?_) 22 (some 57) rfl rfl (by kernel_rfl) (by kernel_rfl) (by kernel_rfl) (fun _ _ _ h => h) (by rfl) ?_ hHeld ?_; rotate_left; focus (intro w hSw; go_simp; try with_reducible rfl))
      simp only [Act.put, List.setIfInBounds_toArray, List.set_cons_zero, List.set_cons_succ]
      (refine tk_yes (v := ?_) 23 (some 6) rfl rfl (by kernel_rfl) (by kernel_rfl) (by kernel_rfl) (fun _ _ _ h => h) (by rfl) ?_ hHeld ?_; rotate_left; focus (intro w hSw; go_simp; try with_reducible rfl))
      simp only [Act.put, List.setIfInBounds_toArray, List.set_cons_zero, List.set_cons_succ]
      refine wpAnyH_done (by kernel_rfl) ?_ _
      refine NoPanic.normal ?_
      go_wp2
      go_ret
      exact ⟨rfl, M5.out.old⟩
theorem stanLine_own : ownKnob Try.prog.godebug = none := by kernel_rfl
theorem stanLine_laid : laidOutB Try.prog = true := by kernel_rfl

set_option maxRecDepth 100000 in
set_option maxHeartbeats 1000000 in
theorem stanLine_lifted (os : Os) (started : os.Started) (H : Type) (enc : TypeId × Value → H) :
    ReturnsInHanded {} Try.checked os 5 .any (Rows.stanLineSpec.pre6 enc Try.prog Try.f5 Rows.stanLineRow.domain false) (Rows.stanLineSpec.post enc Try.prog Try.f5 false true false false) := by
  refine returnsInHanded_of_change (C := Try.checked) stanLine_own started (by kernel_rfl) Try.func5
    (ChangeSpec.witness6 (enc := enc) (C := Try.checked) false ⟨#[], #[.agg #[.int .u16 0, .int .u32 0], .agg #[.int .u16 0, .int .u32 0], .agg #[.int .u16 0, .int .u32 0]], []⟩ 8 (by kernel_rfl) (by kernel_rfl) (by kernel_rfl) (by kernel_rfl)) ?_
  intro W base args ds gs before hval0 hW hcnd _
  have hval : ∀ (j : Nat) t v, Try.f5.params[j]? = some t → args[j]? = some v → Value.okWide Try.prog W .any base t v := hval0
  have hW' := hW
  obtain ⟨p, q, hA0, hV, rfl, hfz, hnd⟩ := hW
  have hA : DataW.TrodAll enc Try.prog W 0 (fun _ => true) true Try.f5.params.toList args.toList ds p := hA0
  rw [Try.params5] at hA hval
  obtain ⟨v0, vs0, d0, ds0, p0, q0, hargs, rfl, rfl, h0, r0⟩ := trodAll_cons hA
  obtain ⟨v1, vs1, d1, ds1, p1, q1, rfl, rfl, rfl, h1, r1⟩ := trodAll_cons r0
  obtain ⟨v2, vs2, d2, ds2, p2, q2, rfl, rfl, rfl, h2, r2⟩ := trodAll_cons r1
  obtain ⟨rfl, rfl, rfl⟩ := trodAll_nil r2
  obtain rfl : args = #[v0, v1, v2] := by cases args; simp_all
  obtain ⟨rfl, rfl⟩ := trodVars_none hV
  have k0 := h0
  have lt0 : ∀ x ∈ p0, x.block < W.heap.size := by obtain ⟨m, hm⟩ := k0; exact DataW.trod_lt m _ _ _ hm
  obtain ⟨ma0, mb0, rfl, wa0, wb0⟩ := open_key (hval 0 33 v0 rfl rfl) h0
  have k1 := h1
  have lt1 : ∀ x ∈ p1, x.block < W.heap.size := by obtain ⟨m, hm⟩ := k1; exact DataW.trod_lt m _ _ _ hm
  obtain ⟨ma1, mb1, rfl, wa1, wb1⟩ := open_key (hval 1 33 v1 rfl rfl) h1
  have k2 := h2
  have lt2 : ∀ x ∈ p2, x.block < W.heap.size := by obtain ⟨m, hm⟩ := k2; exact DataW.trod_lt m _ _ _ hm
  obtain ⟨ma2, mb2, rfl, wa2, wb2⟩ := open_key (hval 2 33 v2 rfl rfl) h2
  clear hA0 hval0
  refine (line5 ma0 mb0 ma1 mb1 ma2 mb2 W wa0 wb0 wa1 wb1 wa2 wb2).mono fun e W' ⟨he, bel⟩ => ?_
  subst he
  exact ⟨_, rfl, _, _, _, [], _, [], hW', trodAll_mk1 (shut_bool Try.underlying4 _), (trodAll_cons_mk (Below.trod stanLine_laid (by kernel_rfl) (of_decide_eq_true (by kernel_rfl)) k0 bel lt0) (trodAll_cons_mk (Below.trod stanLine_laid (by kernel_rfl) (of_decide_eq_true (by kernel_rfl)) k1 bel lt1) (trodAll_cons_mk (Below.trod stanLine_laid (by kernel_rfl) (of_decide_eq_true (by kernel_rfl)) k2 bel lt2) trodAll_mk0))), rfl, bel.frame _, fun h => by cases h⟩

theorem stanLine_over : Rows.stanLineRow.holds Try.pinned (OpenSpec.ofChange Rows.stanLineSpec) :=
  OpenClaim.holds_of_wide 5 Try.f5 rfl rfl rfl rfl rfl rfl rfl ⟨rfl, rfl, rfl, rfl, rfl⟩ rfl rfl rfl rfl rfl (by kernel_rfl) Try.func5 (by kernel_rfl)
    (of_decide_eq_true (by kernel_rfl)) (by unfold Func.isWrapper; first | (rw [if_pos (by decide +kernel)]; kernel_rfl) | (rw [if_neg (by decide +kernel)]; exact ⟨rfl, rfl⟩))
    (fun os started H enc _ => stanLine_lifted os started H enc)

/-- The statement. -/
theorem stanLine_holds : Rows.StanLineSaid := stanLine_over
#print axioms stanLine_holds
end Go.Proofs.Ytahkgbhikkebhaa
