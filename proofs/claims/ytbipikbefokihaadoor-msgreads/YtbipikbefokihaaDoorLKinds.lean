/- MsgKinds: two of the seat's messages have the same bytes just where they are the same. For every input. -/
import Derived.Test.YtbipikbefokihaaDoorLaid
import Derived.Test.YtbipikbefokihaaDoorTie
import Derived.Test.YtbipikbefokihaaDoorCards
import Derived.Test.YtbipikbefokihaaDoorSeatP
import Derived.Test.YtbipikbefokihaaDoorSeatC
import Derived.Test.YtbipikbefokihaaDoorKnownM
namespace Go.Proofs.YtbipikbefokihaaDoor
open Go.ChangeShapes Go.WideShapes Go.ChangeAt Go.RowKit

theorem tk_ms {ops : Array Oper} {Q : Exit → Act → World → Prop} {md : Region.Mode} {S : World → Prop} {oi : Oper} {fuel : Nat} {listed : Array Bool} {a : Act} {w : World} (i : Nat) (d : Option Tmp) (r : Ms)
    (hi : ops[i]? = some oi) (hd : oi.dst = d) (hs : Region.noSelect ops = true) (hf : Region.free md ops listed i = true) (hr : (Region.ready md ops listed).contains i = true)
    (hQ : ∀ c a w, Q (.panic c) (a.put d r.val) w → Q (.panic c) a w) (hw : Region.wanted oi (yielded ops a.tmps) = true)
    (x : Operand) (ho : oi.op = .load 27 x) {b : Nat} (hx : a.eval x = .pointer (some ⟨b, 0, none⟩)) (hc : ∀ w, S w → w.rangeAt b 0 r.cells) (hS : S w)
    (h : wpAnyH Tryd.prog md ops Q S fuel (listed.setIfInBounds i true) (a.put d r.val) w) : wpAnyH Tryd.prog md ops Q S (fuel + 1) listed a w := by
  obtain ⟨t, hu, ht⟩ := row27
  subst hd; exact wpAnyH_take hi hs hf hr hQ (yieldsIf_load_mid hw 27 x ho b 0 hx r.cells t hc hu ht n27) hS h
theorem str_inj {a b : List Int} (ha : Byt a) (hb : Byt b) (h : strOfNums a = strOfNums b) : a = b := by
  rw [← pan_str ha, ← pan_str hb, h]
set_option maxRecDepth 20000 in
set_option maxHeartbeats 16000000 in
theorem kinds_walk (a b k m s t : Int) (W : World) (ha : 0 ≤ a ∧ a < 256) (hb : 0 ≤ b ∧ b < 256) (hk : 0 ≤ k ∧ k < 256) (hm : 0 ≤ m ∧ m < 256) (hs : 0 ≤ s ∧ s < 65536) (ht : 0 ≤ t ∧ t < 65536) (hT : Tab W) :
    Calls Tryd.prog 6 #[.int .u8 a, .int .u8 b, .int .u8 k, .int .u8 m, .int .u16 s, .int .u16 t] W fun e w' => e = .returned (.bool true) ∧ Below W.heap.size W w' := by
  obtain ⟨X, hX⟩ : ∃ X, seatM a k s t = X := ⟨_, rfl⟩
  obtain ⟨Y, hY⟩ : ∃ Y, seatM b m s t = Y := ⟨_, rfl⟩
  have MX : Hid (∀ w, Calls Tryd.prog 8 #[.int .u8 a, .int .u8 k, .int .u16 s, .int .u16 t] w fun e w' => e = .returned X.val ∧ Below w.heap.size w w') := fun w => by
    rw [← hX]; exact msg8 a k s t w ha.1 ha.2 hk.1 hk.2 hs.1 hs.2 ht.1 ht.2
  have MY : Hid (∀ w, Calls Tryd.prog 8 #[.int .u8 b, .int .u8 m, .int .u16 s, .int .u16 t] w fun e w' => e = .returned Y.val ∧ Below w.heap.size w w') := fun w => by
    rw [← hY]; exact msg8 b m s t w hb.1 hb.2 hm.1 hm.2 hs.1 hs.2 ht.1 ht.2
  have XR : Hid (rightL X = true) := by rw [← hX]; exact seat_right hk.1 hk.2 hs.1 hs.2 ht.1 ht.2
  have YR : Hid (rightL Y = true) := by rw [← hY]; exact seat_right hm.1 hm.2 hs.1 hs.2 ht.1 ht.2
  have XO : Hid X.Ok := by rw [← hX]; exact seat_ok
  have YO : Hid Y.Ok := by rw [← hY]; exact seat_ok
  have XP : Hid (X.pan.size ≤ 9223372036854775807) := by rw [← hX]; exact seat_pan
  have YP : Hid (Y.pan.size ≤ 9223372036854775807) := by rw [← hY]; exact seat_pan
  have XE : Hid (putE X = 0) := by unfold Hid putE; rw [if_pos XR.out]
  have YE : Hid (putE Y = 0) := by unfold Hid putE; rw [if_pos YR.out]
  have HT := hid hT
  have K0 := hid True.intro
  have T0 := hid True.intro
  clear hX hY ha hb hk hm hs ht hT
  obtain ⟨LX, hLX⟩ : ∃ l, putL X = l := ⟨_, rfl⟩
  obtain ⟨LY, hLY⟩ : ∃ l, putL Y = l := ⟨_, rfl⟩
  obtain ⟨SX, hSX⟩ : ∃ l, strOfNums LX = l := ⟨_, rfl⟩
  obtain ⟨SY, hSY⟩ : ∃ l, strOfNums LY = l := ⟨_, rfl⟩
  have HSX := hid hSX
  have HSY := hid hSY
  have HLX := hid hLX
  have HLY := hid hLY
  have HNE : Hid (¬ X = Y → ¬ SX = SY) := fun h e => h (put_inj XR.out YR.out (by
    rw [hLX, hLY]; rw [← hSX, ← hSY] at e
    exact str_inj (by rw [← hLX]; exact putL_byt X) (by rw [← hLY]; exact putL_byt Y) e))
  have HEQ : Hid (X = Y → SX = SY) := fun h => by rw [← hSX, ← hSY, ← hLX, ← hLY, h]
  clear hLX hLY hSX hSY
  go_enter Tryd.func6, Tryd.ntmps6
  go_upto_region 6 with (first | (go_at_call 9; have kill := D8.out; refine (put9 Y _ YO.out YP.out (HT.out.below B8.out)).mono ?_; rintro e w9 ⟨a9, n9, c9, rfl, d9⟩; rw [HLY.out] at d9; rw [YE.out]; have D9 := hid d9; have E9 := hid (D8.out.more d9.2); have V9 := hid (V8.out.below d9.2); have U9 := hid (U8.out.below d9.2); have B9 := hid (sq B8.out d9.2); clear d9 kill D8 V8 U8 B8) | (have kill := D8.out; refine ld27 U8.out rfl _ rfl rfl ?_) | (go_at_call 9; have kill := V7.out; refine (put9 X _ XO.out XP.out (HT.out.below B7.out)).mono ?_; rintro e w8 ⟨a8, n8, c8, rfl, d8⟩; rw [HLX.out] at d8; rw [XE.out]; have D8 := hid d8; have V8 := hid (V7.out.below d8.2); have U8 := hid (U7.out.below d8.2); have B8 := hid (sq B7.out d8.2); clear d8 kill V7 U7 B7) | (have kill := V7.out; refine ld27 V7.out rfl _ rfl rfl ?_) | (have kill := V6.out; refine rv_whole U6.out B6.out hb14 Y rfl _ _ rfl rfl rfl ?_; intro w7 v7 l7 k7; have U7 := hid v7; have B7 := hid l7; have V7 := hid (V6.out.kept (k7 _ V6.out.lt NE.out)); clear v7 l7 k7 kill V6 U6 B6) | (have kill := U5.out; refine rv_whole V5.out B5.out hb13 X rfl _ _ rfl rfl rfl ?_; intro w6 v6 l6 k6; have V6 := hid v6; have B6 := hid l6; have U6 := hid (U5.out.kept (k6 _ U5.out.lt (fun e => NE.out e.symm))); clear v6 l6 k6 kill V5 U5 B5) | (refine al27 rfl rfl ?_; have kill := V4.out; intro b14 w5 hx v5 l5; have U5 := hid v5; have V5 := hid (V4.out.below l5); have B5 := hid (sq B4.out l5); have hb14 : W.heap.size ≤ b14 := Nat.le_trans B4.out.size hx; have NE : Hid (¬ b13 = b14) := hid (Nat.ne_of_lt (Nat.lt_of_lt_of_le V4.out.lt hx)); clear v5 l5 hx kill V4 B4) | (refine al27 rfl rfl ?_; have kill := B3.out; intro b13 w4 hx v4 l4; have V4 := hid v4; have B4 := hid (sq B3.out l4); have hb13 : W.heap.size ≤ b13 := Nat.le_trans B3.out.size hx; clear v4 l4 hx kill B3) | (go_at_call 8; have kill := B2.out; refine (MY.out _).mono ?_; rintro e w3 ⟨rfl, l3⟩; have B3 := hid (sq B2.out l3); clear l3 kill B2) | (go_at_call 8; have kill := B1.out; refine (MX.out _).mono ?_; rintro e w2 ⟨rfl, l2⟩; have B2 := hid (sq B1.out l2); clear l2 kill B1) | (go_at_call 7; have kill := K0.out; refine (known7 _ HT.out).mono ?_; rintro e w1 ⟨rfl, b1⟩; have B1 := hid b1; clear b1 kill K0))
  have hcvx := fun w (h : RowAt w a8 LX) => run_str w a8 LX n8 c8 E9.out.1.len h
  have hcvy := fun w (h : RowAt w a9 LY) => run_str w a9 LY n9 c9 D9.out.1.len h
  rw [HSX.out] at hcvx
  rw [HSY.out] at hcvy
  have CX := hid hcvx
  have CY := hid hcvy
  clear hcvx hcvy
  have qg := fun x y w => (eqg27 X Y x y w).1
  by_cases hxy : X = Y
  · have hss := HEQ.out hxy
    have qb : ∀ w, (binOp .eql 27 X.val Y.val).run Tryd.prog w = .ok (.bool true) w := fun w => by
      have h := (gbin X Y w).1; simpa [hxy] using h
    subst hss
    clear hxy HNE HEQ
    refine wp_region_noPanic ?_
    refine wp_region_held_drew (S := (fun w' : World => (w'.rangeAt b13 0 X.cells ∧ w'.rangeAt b14 0 Y.cells) ∧ (RowAt w' a8 LX ∧ RowAt w' a9 LY))) (by kernel_rfl) ⟨⟨V9.out.at0, U9.out.at0⟩, E9.out.1.at, D9.out.1.at⟩ (fun hHeld => ?_)
    (refine tk_yes (v := ?_) 0 (some 41) rfl rfl (by kernel_rfl) (by kernel_rfl) (by kernel_rfl) (fun _ _ _ h => h) (by rfl) ?_ hHeld ?_; rotate_left; focus (intro w hSw; go_simp; try with_reducible rfl))
    simp only [Act.put, List.setIfInBounds_toArray, List.set_cons_zero, List.set_cons_succ]
    (refine tk_yes (v := ?_) 1 (some 42) rfl rfl (by kernel_rfl) (by kernel_rfl) (by kernel_rfl) (fun _ _ _ h => h) (by rfl) ?_ hHeld ?_; rotate_left; focus (intro w hSw; go_simp; try with_reducible rfl))
    simp only [Act.put, List.setIfInBounds_toArray, List.set_cons_zero, List.set_cons_succ]
    (refine tk_yes (v := ?_) 2 (some 43) rfl rfl (by kernel_rfl) (by kernel_rfl) (by kernel_rfl) (fun _ _ _ h => h) (by rfl) ?_ hHeld ?_; rotate_left; focus (intro w hSw; go_simp; try with_reducible rfl))
    simp only [Act.put, List.setIfInBounds_toArray, List.set_cons_zero, List.set_cons_succ]
    (refine tk_yes (v := ?_) 3 (some 44) rfl rfl (by kernel_rfl) (by kernel_rfl) (by kernel_rfl) (fun _ _ _ h => h) (by rfl) ?_ hHeld ?_; rotate_left; focus (intro w hSw; go_simp; try with_reducible rfl))
    simp only [Act.put, List.setIfInBounds_toArray, List.set_cons_zero, List.set_cons_succ]
    (refine tk_yes (v := ?_) 4 (some 45) rfl rfl (by kernel_rfl) (by kernel_rfl) (by kernel_rfl) (fun _ _ _ h => h) (by rfl) ?_ hHeld ?_; rotate_left; focus (intro w hSw; go_simp; try with_reducible rfl))
    simp only [Act.put, List.setIfInBounds_toArray, List.set_cons_zero, List.set_cons_succ]
    (refine tk_yes (v := ?_) 5 (some 46) rfl rfl (by kernel_rfl) (by kernel_rfl) (by kernel_rfl) (fun _ _ _ h => h) (by rfl) ?_ hHeld ?_; rotate_left; focus (intro w hSw; go_simp; try with_reducible rfl))
    simp only [Act.put, List.setIfInBounds_toArray, List.set_cons_zero, List.set_cons_succ]
    (refine tk_yes (v := .string SX) 6 (some 47) rfl rfl (by kernel_rfl) (by kernel_rfl) (by kernel_rfl) (fun _ _ _ h => h) (by rfl) ?_ hHeld ?_; focus (intro w hSw; have hcv := CX.out w hSw.2.1; go_simp; try with_reducible rfl))
    simp only [Act.put, List.setIfInBounds_toArray, List.set_cons_zero, List.set_cons_succ]
    (refine tk_yes (v := ?_) 7 (some 48) rfl rfl (by kernel_rfl) (by kernel_rfl) (by kernel_rfl) (fun _ _ _ h => h) (by rfl) ?_ hHeld ?_; rotate_left; focus (intro w hSw; go_simp; try with_reducible rfl))
    simp only [Act.put, List.setIfInBounds_toArray, List.set_cons_zero, List.set_cons_succ]
    (refine tk_yes (v := .string SX) 8 (some 49) rfl rfl (by kernel_rfl) (by kernel_rfl) (by kernel_rfl) (fun _ _ _ h => h) (by rfl) ?_ hHeld ?_; focus (intro w hSw; have hcv := CY.out w hSw.2.2; go_simp; try with_reducible rfl))
    simp only [Act.put, List.setIfInBounds_toArray, List.set_cons_zero, List.set_cons_succ]
    (refine tk_yes (v := ?_) 9 (some 50) rfl rfl (by kernel_rfl) (by kernel_rfl) (by kernel_rfl) (fun _ _ _ h => h) (by rfl) ?_ hHeld ?_; rotate_left; focus (intro w hSw; go_simp; try with_reducible rfl))
    simp only [Act.put, List.setIfInBounds_toArray, List.set_cons_zero, List.set_cons_succ]
    refine tk_ms 10 (some 51) X rfl rfl (by kernel_rfl) (by kernel_rfl) (by kernel_rfl) (fun _ _ _ h => h) (by rfl) _ rfl rfl (fun w hSw => hSw.1.1) hHeld ?_
    simp only [Act.put, List.setIfInBounds_toArray, List.set_cons_zero, List.set_cons_succ]
    refine tk_ms 11 (some 52) Y rfl rfl (by kernel_rfl) (by kernel_rfl) (by kernel_rfl) (fun _ _ _ h => h) (by rfl) _ rfl rfl (fun w hSw => hSw.1.2) hHeld ?_
    simp only [Act.put, List.setIfInBounds_toArray, List.set_cons_zero, List.set_cons_succ]
    (refine tk_yes (v := .bool true) 12 (some 53) rfl rfl (by kernel_rfl) (by kernel_rfl) (by kernel_rfl) (fun _ _ _ h => h) (by rfl) ?_ hHeld ?_; focus (intro w hSw; go_simp; try with_reducible rfl))
    simp only [Act.put, List.setIfInBounds_toArray, List.set_cons_zero, List.set_cons_succ]
    (refine tk_yes (v := ?_) 13 (some 54) rfl rfl (by kernel_rfl) (by kernel_rfl) (by kernel_rfl) (fun _ _ _ h => h) (by rfl) ?_ hHeld ?_; rotate_left; focus (intro w hSw; go_simp; try with_reducible rfl))
    simp only [Act.put, List.setIfInBounds_toArray, List.set_cons_zero, List.set_cons_succ]
    (refine tk_yes (v := ?_) 14 (some 55) rfl rfl (by kernel_rfl) (by kernel_rfl) (by kernel_rfl) (fun _ _ _ h => h) (by rfl) ?_ hHeld ?_; rotate_left; focus (intro w hSw; go_simp; try with_reducible rfl))
    simp only [Act.put, List.setIfInBounds_toArray, List.set_cons_zero, List.set_cons_succ]
    (refine tk_yes (v := ?_) 15 (some 12) rfl rfl (by kernel_rfl) (by kernel_rfl) (by kernel_rfl) (fun _ _ _ h => h) (by rfl) ?_ hHeld ?_; rotate_left; focus (intro w hSw; go_simp; try with_reducible rfl))
    simp only [Act.put, List.setIfInBounds_toArray, List.set_cons_zero, List.set_cons_succ]
    refine wpAnyH_done (by kernel_rfl) ?_ _
    refine NoPanic.normal ?_
    go_wp2
    go_ret
    exact ⟨rfl, B9.out.drew⟩
  · have hss := ne_bytes (HNE.out hxy)
    have qb : ∀ w, (binOp .eql 27 X.val Y.val).run Tryd.prog w = .ok (.bool false) w := fun w => by
      have h := (gbin X Y w).1; simpa [hxy] using h
    clear hxy HNE HEQ
    refine wp_region_noPanic ?_
    refine wp_region_held_drew (S := (fun w' : World => (w'.rangeAt b13 0 X.cells ∧ w'.rangeAt b14 0 Y.cells) ∧ (RowAt w' a8 LX ∧ RowAt w' a9 LY))) (by kernel_rfl) ⟨⟨V9.out.at0, U9.out.at0⟩, E9.out.1.at, D9.out.1.at⟩ (fun hHeld => ?_)
    (refine tk_yes (v := ?_) 0 (some 41) rfl rfl (by kernel_rfl) (by kernel_rfl) (by kernel_rfl) (fun _ _ _ h => h) (by rfl) ?_ hHeld ?_; rotate_left; focus (intro w hSw; go_simp; try with_reducible rfl))
    simp only [Act.put, List.setIfInBounds_toArray, List.set_cons_zero, List.set_cons_succ]
    (refine tk_yes (v := ?_) 1 (some 42) rfl rfl (by kernel_rfl) (by kernel_rfl) (by kernel_rfl) (fun _ _ _ h => h) (by rfl) ?_ hHeld ?_; rotate_left; focus (intro w hSw; go_simp; try with_reducible rfl))
    simp only [Act.put, List.setIfInBounds_toArray, List.set_cons_zero, List.set_cons_succ]
    (refine tk_yes (v := ?_) 2 (some 43) rfl rfl (by kernel_rfl) (by kernel_rfl) (by kernel_rfl) (fun _ _ _ h => h) (by rfl) ?_ hHeld ?_; rotate_left; focus (intro w hSw; go_simp; try with_reducible rfl))
    simp only [Act.put, List.setIfInBounds_toArray, List.set_cons_zero, List.set_cons_succ]
    (refine tk_yes (v := ?_) 3 (some 44) rfl rfl (by kernel_rfl) (by kernel_rfl) (by kernel_rfl) (fun _ _ _ h => h) (by rfl) ?_ hHeld ?_; rotate_left; focus (intro w hSw; go_simp; try with_reducible rfl))
    simp only [Act.put, List.setIfInBounds_toArray, List.set_cons_zero, List.set_cons_succ]
    (refine tk_yes (v := ?_) 4 (some 45) rfl rfl (by kernel_rfl) (by kernel_rfl) (by kernel_rfl) (fun _ _ _ h => h) (by rfl) ?_ hHeld ?_; rotate_left; focus (intro w hSw; go_simp; try with_reducible rfl))
    simp only [Act.put, List.setIfInBounds_toArray, List.set_cons_zero, List.set_cons_succ]
    (refine tk_yes (v := ?_) 5 (some 46) rfl rfl (by kernel_rfl) (by kernel_rfl) (by kernel_rfl) (fun _ _ _ h => h) (by rfl) ?_ hHeld ?_; rotate_left; focus (intro w hSw; go_simp; try with_reducible rfl))
    simp only [Act.put, List.setIfInBounds_toArray, List.set_cons_zero, List.set_cons_succ]
    (refine tk_yes (v := .string SX) 6 (some 47) rfl rfl (by kernel_rfl) (by kernel_rfl) (by kernel_rfl) (fun _ _ _ h => h) (by rfl) ?_ hHeld ?_; focus (intro w hSw; have hcv := CX.out w hSw.2.1; go_simp; try with_reducible rfl))
    simp only [Act.put, List.setIfInBounds_toArray, List.set_cons_zero, List.set_cons_succ]
    (refine tk_yes (v := ?_) 7 (some 48) rfl rfl (by kernel_rfl) (by kernel_rfl) (by kernel_rfl) (fun _ _ _ h => h) (by rfl) ?_ hHeld ?_; rotate_left; focus (intro w hSw; go_simp; try with_reducible rfl))
    simp only [Act.put, List.setIfInBounds_toArray, List.set_cons_zero, List.set_cons_succ]
    (refine tk_yes (v := .string SY) 8 (some 49) rfl rfl (by kernel_rfl) (by kernel_rfl) (by kernel_rfl) (fun _ _ _ h => h) (by rfl) ?_ hHeld ?_; focus (intro w hSw; have hcv := CY.out w hSw.2.2; go_simp; try with_reducible rfl))
    simp only [Act.put, List.setIfInBounds_toArray, List.set_cons_zero, List.set_cons_succ]
    (refine tk_yes (v := ?_) 9 (some 50) rfl rfl (by kernel_rfl) (by kernel_rfl) (by kernel_rfl) (fun _ _ _ h => h) (by rfl) ?_ hHeld ?_; rotate_left; focus (intro w hSw; go_simp; try with_reducible rfl))
    simp only [Act.put, List.setIfInBounds_toArray, List.set_cons_zero, List.set_cons_succ]
    refine tk_ms 10 (some 51) X rfl rfl (by kernel_rfl) (by kernel_rfl) (by kernel_rfl) (fun _ _ _ h => h) (by rfl) _ rfl rfl (fun w hSw => hSw.1.1) hHeld ?_
    simp only [Act.put, List.setIfInBounds_toArray, List.set_cons_zero, List.set_cons_succ]
    refine tk_ms 11 (some 52) Y rfl rfl (by kernel_rfl) (by kernel_rfl) (by kernel_rfl) (fun _ _ _ h => h) (by rfl) _ rfl rfl (fun w hSw => hSw.1.2) hHeld ?_
    simp only [Act.put, List.setIfInBounds_toArray, List.set_cons_zero, List.set_cons_succ]
    (refine tk_yes (v := .bool false) 12 (some 53) rfl rfl (by kernel_rfl) (by kernel_rfl) (by kernel_rfl) (fun _ _ _ h => h) (by rfl) ?_ hHeld ?_; focus (intro w hSw; go_simp; try with_reducible rfl))
    simp only [Act.put, List.setIfInBounds_toArray, List.set_cons_zero, List.set_cons_succ]
    (refine tk_yes (v := ?_) 13 (some 54) rfl rfl (by kernel_rfl) (by kernel_rfl) (by kernel_rfl) (fun _ _ _ h => h) (by rfl) ?_ hHeld ?_; rotate_left; focus (intro w hSw; go_simp; try with_reducible rfl))
    simp only [Act.put, List.setIfInBounds_toArray, List.set_cons_zero, List.set_cons_succ]
    (refine tk_yes (v := ?_) 14 (some 55) rfl rfl (by kernel_rfl) (by kernel_rfl) (by kernel_rfl) (fun _ _ _ h => h) (by rfl) ?_ hHeld ?_; rotate_left; focus (intro w hSw; go_simp; try with_reducible rfl))
    simp only [Act.put, List.setIfInBounds_toArray, List.set_cons_zero, List.set_cons_succ]
    (refine tk_yes (v := ?_) 15 (some 12) rfl rfl (by kernel_rfl) (by kernel_rfl) (by kernel_rfl) (fun _ _ _ h => h) (by rfl) ?_ hHeld ?_; rotate_left; focus (intro w hSw; go_simp; try with_reducible rfl))
    simp only [Act.put, List.setIfInBounds_toArray, List.set_cons_zero, List.set_cons_succ]
    refine wpAnyH_done (by kernel_rfl) ?_ _
    refine NoPanic.normal ?_
    go_wp2
    go_ret
    exact ⟨rfl, B9.out.drew⟩
set_option maxRecDepth 100000 in
set_option maxHeartbeats 1000000 in
theorem msgKinds_lifted (os : Os) (started : os.Started) (H : Type) (enc : TypeId × Value → H) :
    ReturnsInHanded {} Tryd.checked os 6 .any (fun w args => (Rows.msgKindsSpec.pre enc Tryd.prog Tryd.f6 [] false w args ∧ laidMetH Tryd.prog lst w) ∧ sizedMet enc Tryd.prog Tryd.f6 (OpenSpec.ofChange Rows.msgKindsSpec) false w args)
      (Rows.msgKindsSpec.post enc Tryd.prog Tryd.f6 false true false false) := by
  refine returnsInHanded_of_change_and (C := Tryd.checked) (X := fun w _ => laidMetH Tryd.prog lst w) (fun _ _ _ hh h => h.of_heap hh) laid_own started (by kernel_rfl) Tryd.func6
    (ChangeSpec.witness_shaped (enc := enc) (C := Tryd.checked) (os := os) (X := fun w _ => laidMetH Tryd.prog lst w) false (World.doorLaid Tryd.prog 4000 os) #[.int .u8 0, .int .u8 0, .int .u8 0, .int .u8 0, .int .u16 0, .int .u16 0] 8 rfl (World.shaped_of_RefB (by kernel_rfl) (by kernel_rfl)) (by kernel_rfl) (by kernel_rfl) (by kernel_rfl) (door_met os _)) ?_
  intro W base args ds gs before hval0 hW _ _ hL _
  have hval : ∀ (j : Nat) t v, Tryd.f6.params[j]? = some t → args[j]? = some v → Value.okWide Tryd.prog W .any base t v := hval0
  have hW' := hW
  obtain ⟨p, q, hA0, hV, rfl, hfz, hnd⟩ := hW
  have hA : DataW.TrodAll enc Tryd.prog W 0 (fun _ => true) true Tryd.f6.params.toList args.toList ds p := hA0
  rw [Tryd.params6] at hA hval
  obtain ⟨v0, vs0, d0, ds0, p0, q0, hargs, rfl, rfl, h0, r0⟩ := trodAll_cons hA
  obtain ⟨v1, vs1, d1, ds1, p1, q1, rfl, rfl, rfl, h1, r1⟩ := trodAll_cons r0
  obtain ⟨v2, vs2, d2, ds2, p2, q2, rfl, rfl, rfl, h2, r2⟩ := trodAll_cons r1
  obtain ⟨v3, vs3, d3, ds3, p3, q3, rfl, rfl, rfl, h3, r3⟩ := trodAll_cons r2
  obtain ⟨v4, vs4, d4, ds4, p4, q4, rfl, rfl, rfl, h4, r4⟩ := trodAll_cons r3
  obtain ⟨v5, vs5, d5, ds5, p5, q5, rfl, rfl, rfl, h5, r5⟩ := trodAll_cons r4
  obtain ⟨rfl, rfl, rfl⟩ := trodAll_nil r5
  obtain rfl : args = #[v0, v1, v2, v3, v4, v5] := by cases args; simp_all
  obtain ⟨rfl, rfl⟩ := trodVars_none hV
  obtain ⟨a0, rfl, rfl, rfl, w0⟩ := open_int Tryd.underlying5 (hval 0 5 v0 rfl rfl) h0
  obtain ⟨a1, rfl, rfl, rfl, w1⟩ := open_int Tryd.underlying5 (hval 1 5 v1 rfl rfl) h1
  obtain ⟨a2, rfl, rfl, rfl, w2⟩ := open_int Tryd.underlying5 (hval 2 5 v2 rfl rfl) h2
  obtain ⟨a3, rfl, rfl, rfl, w3⟩ := open_int Tryd.underlying5 (hval 3 5 v3 rfl rfl) h3
  obtain ⟨a4, rfl, rfl, rfl, w4⟩ := open_int Tryd.underlying22 (hval 4 22 v4 rfl rfl) h4
  obtain ⟨a5, rfl, rfl, rfl, w5⟩ := open_int Tryd.underlying22 (hval 5 22 v5 rfl rfl) h5
  clear hA0 hval0
  refine (kinds_walk a0 a1 a2 a3 a4 a5 W (by have := bounds_u8 w0; omega) (by have := bounds_u8 w1; omega) (by have := bounds_u8 w2; omega) (by have := bounds_u8 w3; omega) (by have := bounds_u16 w4; omega) (by have := bounds_u16 w5; omega) (tab_of hL)).mono fun e W' ⟨he, bel⟩ => ?_
  subst he
  exact ⟨_, rfl, _, _, _, [], _, [], hW', trodAll_mk1 (shut_bool Tryd.underlying4 _), (trodAll_cons_mk (shut_int Tryd.underlying5 w0) (trodAll_cons_mk (shut_int Tryd.underlying5 w1) (trodAll_cons_mk (shut_int Tryd.underlying5 w2) (trodAll_cons_mk (shut_int Tryd.underlying5 w3) (trodAll_cons_mk (shut_int Tryd.underlying22 w4) (trodAll_cons_mk (shut_int Tryd.underlying22 w5) trodAll_mk0)))))), rfl, bel.frame _, fun h => by cases h⟩

theorem msgKinds_over : Rows.msgKindsRow.holds Tryd.pinned (OpenSpec.ofChange Rows.msgKindsSpec) :=
  OpenClaim.holds_of_wide 6 Tryd.f6 rfl rfl rfl rfl rfl rfl rfl ⟨rfl, rfl, rfl, rfl, rfl⟩ rfl rfl rfl rfl rfl (by kernel_rfl) Tryd.func6 (by kernel_rfl)
    (of_decide_eq_true (by kernel_rfl)) (by unfold Func.isWrapper; first | (rw [if_pos (by decide +kernel)]; kernel_rfl) | (rw [if_neg (by decide +kernel)]; exact ⟨rfl, rfl⟩))
    (fun os started H enc _ => msgKinds_lifted os started H enc)

/-- The row's statement, tied to the program's text. -/
theorem msgKinds_holds : Rows.MsgKindsCardSaid :=
  Claim7.holds_tied_plain_at .later [] [.data, .data, .data] true (true, "1b93e6649467937dc11d5103653e4cbe1f2a4d61aec414c3f70a521379b88323") false
    msgKinds_over (fun _ h => by cases h) (by kernel_rfl) (fun _ h => by cases h) msgKinds_row_tie rfl ⟨rfl, rfl⟩ (by kernel_rfl) rfl
    (fun f fn hf hfn => by
      obtain rfl : f = 6 := Option.some.inj ((show Tryd.prog.funcNamed Rows.msgKindsRow.func = some 6 by kernel_rfl).symm.trans hf) |>.symm
      obtain rfl : fn = Tryd.f6 := (Option.some.inj (Tryd.func6.symm.trans hfn)).symm
      exact ⟨by kernel_rfl, fun j t ht => by
        rw [Tryd.params6] at ht
        have hm : t ∈ [5, 22] := by have := Array.mem_of_getElem? ht; simp at this ⊢; omega
        have hall : ([5, 22].all fun u => !Tryd.prog.wantsStandIn u) = true := by kernel_rfl
        exact (show Tryd.prog.wantsStandIn t = false by simpa using List.all_eq_true.1 hall t hm)⟩)
    (by kernel_rfl)
#print axioms msgKinds_holds
end Go.Proofs.YtbipikbefokihaaDoor
