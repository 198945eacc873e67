/- FrameRight: just how much each part of a record may be. For every input. -/
import Derived.Test.YtmojndacjngjpaaDigs
namespace Go.Proofs.Ytmojndacjngjpaa
open Go.ChangeShapes Go.WideShapes Go.ChangeAt Go.RowKit

def setN (r : Rc) (i : Nat) (v : Int) : Rc := match i with
  | 0 => { r with n0 := v }
  | 1 => { r with n1 := v }
  | 2 => { r with n2 := v }
  | _ => { r with n3 := v }
def setJ (r : Rc) (i : Nat) (v : Int) : Rc := match i with
  | 0 => { r with j0 := v }
  | 1 => { r with j1 := v }
  | 2 => { r with j2 := v }
  | _ => { r with j3 := v }
def setL (r : Rc) (i : Nat) (v : Int) : Rc := match i with
  | 0 => { r with l0 := v }
  | 1 => { r with l1 := v }
  | 2 => { r with l2 := v }
  | _ => { r with l3 := v }
theorem rv_N {ops : Array Oper} {rest : List Oper} {op : Oper} {a : Act} {w0 w : World} {Q : Exit → Act → World → Prop} {b : Nat} {r : Rc} {v : Int} (i : Nat) (hi : i < 4) (h : RV w b r) (hB : Below w0.heap.size w0 w) (hb : w0.heap.size ≤ b) (hgd : op.guard = none) (x y : Operand) (ho : op.op = .store 3 x y) (hx : a.eval x = .pointer (some ⟨b, 5 + i, none⟩)) (hy : a.eval y = .int .i64 v)
    (hh : ∀ w', RV w' b (setN r i v) → Below w0.heap.size w0 w' → wpList Try.prog ops Q rest (a.put op.dst undef) w') : wpList Try.prog ops Q (op :: rest) a w :=
  rv_store h hB hb 3 (5 + i) [.int .i64 v] (setN r i v) (by simp; omega) (by
    have h4 : i = 0 ∨ i = 1 ∨ i = 2 ∨ i = 3 := by omega
    rcases h4 with rfl | rfl | rfl | rfl <;> rfl) n3 (one1 rfl) hgd x y ho hx hy rfl hh
theorem setN_ok {r : Rc} {i : Nat} {v : Int} (h : r.Ok) : (setN r i v).Ok := by
  unfold setN; split <;> exact h
theorem setN_pan {r : Rc} {i : Nat} {v : Int} : (setN r i v).pan = r.pan := by
  unfold setN; split <;> rfl
theorem setN_right {r : Rc} {i : Nat} {v : Int} (h : rightB r = true) : rightB (setN r i v) = decide (0 ≤ v ∧ v ≤ 10000) := by
  simp only [rightB, Bool.and_eq_true, fewB] at h
  obtain ⟨⟨⟨⟨⟨⟨⟨h1, h2⟩, h3⟩, h4⟩, h5⟩, ⟨⟨n0, n1⟩, n2⟩, n3⟩, ⟨⟨j0, j1⟩, j2⟩, j3⟩, ⟨⟨l0, l1⟩, l2⟩, l3⟩ := h
  unfold setN; split <;> simp only [rightB, fewB, h1, h2, h3, h4, h5, n0, n1, n2, n3, j0, j1, j2, j3, l0, l1, l2, l3, Bool.true_and, Bool.and_true]
theorem rv_J {ops : Array Oper} {rest : List Oper} {op : Oper} {a : Act} {w0 w : World} {Q : Exit → Act → World → Prop} {b : Nat} {r : Rc} {v : Int} (i : Nat) (hi : i < 4) (h : RV w b r) (hB : Below w0.heap.size w0 w) (hb : w0.heap.size ≤ b) (hgd : op.guard = none) (x y : Operand) (ho : op.op = .store 3 x y) (hx : a.eval x = .pointer (some ⟨b, 9 + i, none⟩)) (hy : a.eval y = .int .i64 v)
    (hh : ∀ w', RV w' b (setJ r i v) → Below w0.heap.size w0 w' → wpList Try.prog ops Q rest (a.put op.dst undef) w') : wpList Try.prog ops Q (op :: rest) a w :=
  rv_store h hB hb 3 (9 + i) [.int .i64 v] (setJ r i v) (by simp; omega) (by
    have h4 : i = 0 ∨ i = 1 ∨ i = 2 ∨ i = 3 := by omega
    rcases h4 with rfl | rfl | rfl | rfl <;> rfl) n3 (one1 rfl) hgd x y ho hx hy rfl hh
theorem setJ_ok {r : Rc} {i : Nat} {v : Int} (h : r.Ok) : (setJ r i v).Ok := by
  unfold setJ; split <;> exact h
theorem setJ_pan {r : Rc} {i : Nat} {v : Int} : (setJ r i v).pan = r.pan := by
  unfold setJ; split <;> rfl
theorem setJ_right {r : Rc} {i : Nat} {v : Int} (h : rightB r = true) : rightB (setJ r i v) = decide (0 ≤ v ∧ v ≤ 10000) := by
  simp only [rightB, Bool.and_eq_true, fewB] at h
  obtain ⟨⟨⟨⟨⟨⟨⟨h1, h2⟩, h3⟩, h4⟩, h5⟩, ⟨⟨n0, n1⟩, n2⟩, n3⟩, ⟨⟨j0, j1⟩, j2⟩, j3⟩, ⟨⟨l0, l1⟩, l2⟩, l3⟩ := h
  unfold setJ; split <;> simp only [rightB, fewB, h1, h2, h3, h4, h5, n0, n1, n2, n3, j0, j1, j2, j3, l0, l1, l2, l3, Bool.true_and, Bool.and_true]
theorem rv_L {ops : Array Oper} {rest : List Oper} {op : Oper} {a : Act} {w0 w : World} {Q : Exit → Act → World → Prop} {b : Nat} {r : Rc} {v : Int} (i : Nat) (hi : i < 4) (h : RV w b r) (hB : Below w0.heap.size w0 w) (hb : w0.heap.size ≤ b) (hgd : op.guard = none) (x y : Operand) (ho : op.op = .store 3 x y) (hx : a.eval x = .pointer (some ⟨b, 13 + i, none⟩)) (hy : a.eval y = .int .i64 v)
    (hh : ∀ w', RV w' b (setL r i v) → Below w0.heap.size w0 w' → wpList Try.prog ops Q rest (a.put op.dst undef) w') : wpList Try.prog ops Q (op :: rest) a w :=
  rv_store h hB hb 3 (13 + i) [.int .i64 v] (setL r i v) (by simp; omega) (by
    have h4 : i = 0 ∨ i = 1 ∨ i = 2 ∨ i = 3 := by omega
    rcases h4 with rfl | rfl | rfl | rfl <;> rfl) n3 (one1 rfl) hgd x y ho hx hy rfl hh
theorem setL_ok {r : Rc} {i : Nat} {v : Int} (h : r.Ok) : (setL r i v).Ok := by
  unfold setL; split <;> exact h
theorem setL_pan {r : Rc} {i : Nat} {v : Int} : (setL r i v).pan = r.pan := by
  unfold setL; split <;> rfl
theorem setL_right {r : Rc} {i : Nat} {v : Int} (h : rightB r = true) : rightB (setL r i v) = decide (0 ≤ v ∧ v ≤ 10000) := by
  simp only [rightB, Bool.and_eq_true, fewB] at h
  obtain ⟨⟨⟨⟨⟨⟨⟨h1, h2⟩, h3⟩, h4⟩, h5⟩, ⟨⟨n0, n1⟩, n2⟩, n3⟩, ⟨⟨j0, j1⟩, j2⟩, j3⟩, ⟨⟨l0, l1⟩, l2⟩, l3⟩ := h
  unfold setL; split <;> simp only [rightB, fewB, h1, h2, h3, h4, h5, n0, n1, n2, n3, j0, j1, j2, j3, l0, l1, l2, l3, Bool.true_and, Bool.and_true]
theorem kind_right {r : Rc} {v : Int} (h : rightB r = true) : rightB { r with kind := v } = (decide (0 < v) && decide (v < 10)) := by
  simp only [rightB, Bool.and_eq_true] at h
  obtain ⟨⟨⟨⟨⟨⟨⟨h1, h2⟩, h3⟩, h4⟩, h5⟩, h6⟩, h7⟩, h8⟩ := h
  simp only [rightB, h3, h4, h5, h6, h7, h8, Bool.and_true]
theorem amt_right {r : Rc} {v : Int} (h : rightB r = true) : rightB { r with amt := v } = (decide (0 ≤ v) && decide (v ≤ 1000000)) := by
  simp only [rightB, Bool.and_eq_true] at h
  obtain ⟨⟨⟨⟨⟨⟨⟨h1, h2⟩, h3⟩, h4⟩, h5⟩, h6⟩, h7⟩, h8⟩ := h
  simp only [rightB, h1, h2, h3, h6, h7, h8, Bool.and_true, Bool.true_and]
theorem pan_right {r : Rc} {t : ByteArray} (h : rightB r = true) : rightB { r with pan := t } = panB t := by
  simp only [rightB, Bool.and_eq_true] at h
  obtain ⟨⟨⟨⟨⟨⟨⟨h1, h2⟩, h3⟩, h4⟩, h5⟩, h6⟩, h7⟩, h8⟩ := h
  simp only [rightB, h1, h2, h4, h5, h6, h7, h8, Bool.and_true, Bool.true_and]
theorem put_is (r : Rc) (w : World) (ho : r.Ok) (hs : r.pan.size ≤ 9223372036854775807) (z : Int) (hz : z = if rightB r = true then 0 else 27) :
    Calls Try.prog 10 #[r.val] w fun e w' => ∃ v, e = .returned (.tuple #[v, .int .i64 z]) ∧ Below w.heap.size w w' := by
  cases h : rightB r with
  | true =>
    rw [h] at hz; subst hz
    refine (put_yes r w h ho _ rfl).mono ?_
    rintro e w' ⟨ao, cap, rfl, d⟩
    exact ⟨_, rfl, d.2⟩
  | false =>
    rw [h] at hz; subst hz
    refine (put_no r w hs h).mono ?_
    rintro e w' ⟨rfl, d⟩
    exact ⟨_, rfl, d⟩
set_option maxRecDepth 10000 in
set_option maxHeartbeats 2000000 in
theorem right_k_y (u v : Int) (w : World) (u0 : 0 ≤ u) (_u1 : u < 256) (hc : u % 6 = 0) (h1 : 1 ≤ v) (h2 : v ≤ 9) :
    Calls Try.prog 7 #[.int .u8 u, .int .i64 v] w fun e w' => e = .returned (.bool true) ∧ Below w.heap.size w w' := by
  obtain ⟨r, hr⟩ : ∃ r, seatR 0 1 1 1 = r := ⟨_, rfl⟩
  have HR := hid hr
  have hrt : rightB r = true := by rw [← hr]; exact seat_right (by decide) (by decide) (by decide) (by decide)
  have hro : r.Ok := by rw [← hr]; exact seat_ok
  have hrs := (rt_of hrt).size
  clear hr
  have hq : u.tmod 6 = 0 := by rw [Int.tmod_eq_emod_of_nonneg u0, hc]
  have g1 : v < 10 := by omega
  obtain ⟨r', hr'⟩ : ∃ r', ({ r with kind := v } : Rc) = r' := ⟨_, rfl⟩
  have HR' := hid hr'
  have HT : Hid (rightB r' = true) := by unfold Hid; rw [← hr', kind_right hrt]; simp; omega
  have HO : Hid r'.Ok := by unfold Hid; rw [← hr']; exact hro
  have HS : Hid (r'.pan.size ≤ 9223372036854775807) := by unfold Hid; rw [← hr']; show r.pan.size ≤ _; omega
  clear hr'
  have HZ : Hid ((0 : Int) = if rightB r' = true then 0 else 27) := by unfold Hid; rw [HT.out]; rfl
  clear hrt hro hrs
  go_enter Try.func7, Try.ntmps7
  go_wp2_with (first | (go_at_call 13; refine (rightR_any r' _ HS.out).mono ?_; rintro e w9 ⟨rfl, l9⟩; rw [HT.out]; have L9 := hid (sq L8.out l9); clear l9) | refine ldw29 V8.out _ rfl (by kernel_rfl) rfl ?_ | (go_at_call 12; refine (right_any r' _ HS.out).mono ?_; rintro e w8 ⟨rfl, l8⟩; rw [HT.out]; have V8 := hid (V7.out.below l8); have L8 := hid (sq L7.out l8); clear l8) | refine ld29 V7.out rfl _ rfl rfl ?_ | (go_at_call 10; refine (put_is r' _ HO.out HS.out (0) HZ.out).mono ?_; rintro e w7 ⟨pv, rfl, l7⟩; have V7 := hid (V6.out.below l7); have L7 := hid (sq L6.out l7); clear l7) | refine ld29 V6.out rfl _ rfl rfl ?_ | (refine rv_kind V4.out L4.out hb3 rfl _ _ rfl rfl rfl ?_; intro w6 v6 l6; rw [HR'.out] at v6; have V6 := hid v6; have L6 := hid l6; clear v6 l6) | (go_at_call 9; refine (rec9 0 1 1 1 _ (by decide) (by decide) (by decide) (by decide) (by decide) (by decide) (by decide) (by decide)).mono ?_; rintro e w2 ⟨rfl, l2⟩; rw [HR.out]; have L2 := hid (sq L1.out l2); clear l2) | (refine al29 rfl rfl ?_; intro b3 w3 hb3 v3 l3; have V3 := hid v3; have L3 := hid l3; clear v3 l3) | (refine st29 (r := r) V3.out L3.out hb3 rfl _ _ rfl rfl rfl ?_; intro w4 v4 l4; have V4 := hid v4; have L4 := hid l4; clear v4 l4) | (go_at_call 8; refine (known8 _).mono ?_; rintro e w1 ⟨rfl, l1⟩; have L1 := hid l1; clear l1))
  go_ret
  exact ⟨rfl, by first | exact sq L2.out L9.out | exact L9.out⟩
set_option maxRecDepth 10000 in
set_option maxHeartbeats 2000000 in
theorem right_k_lo (u v : Int) (w : World) (u0 : 0 ≤ u) (_u1 : u < 256) (hc : u % 6 = 0) (h1 : v < 1) :
    Calls Try.prog 7 #[.int .u8 u, .int .i64 v] w fun e w' => e = .returned (.bool true) ∧ Below w.heap.size w w' := by
  obtain ⟨r, hr⟩ : ∃ r, seatR 0 1 1 1 = r := ⟨_, rfl⟩
  have HR := hid hr
  have hrt : rightB r = true := by rw [← hr]; exact seat_right (by decide) (by decide) (by decide) (by decide)
  have hro : r.Ok := by rw [← hr]; exact seat_ok
  have hrs := (rt_of hrt).size
  clear hr
  have hq : u.tmod 6 = 0 := by rw [Int.tmod_eq_emod_of_nonneg u0, hc]
  obtain ⟨r', hr'⟩ : ∃ r', ({ r with kind := v } : Rc) = r' := ⟨_, rfl⟩
  have HR' := hid hr'
  have HT : Hid (rightB r' = false) := by unfold Hid; rw [← hr', kind_right hrt]; simp; omega
  have HO : Hid r'.Ok := by unfold Hid; rw [← hr']; exact hro
  have HS : Hid (r'.pan.size ≤ 9223372036854775807) := by unfold Hid; rw [← hr']; show r.pan.size ≤ _; omega
  clear hr'
  have HZ : Hid ((27 : Int) = if rightB r' = true then 0 else 27) := by unfold Hid; rw [HT.out]; rfl
  clear hrt hro hrs
  go_enter Try.func7, Try.ntmps7
  go_wp2_with (first | (go_at_call 13; refine (rightR_any r' _ HS.out).mono ?_; rintro e w9 ⟨rfl, l9⟩; rw [HT.out]; have L9 := hid (sq L8.out l9); clear l9) | refine ldw29 V8.out _ rfl (by kernel_rfl) rfl ?_ | (go_at_call 12; refine (right_any r' _ HS.out).mono ?_; rintro e w8 ⟨rfl, l8⟩; rw [HT.out]; have V8 := hid (V7.out.below l8); have L8 := hid (sq L7.out l8); clear l8) | refine ld29 V7.out rfl _ rfl rfl ?_ | (go_at_call 10; refine (put_is r' _ HO.out HS.out (27) HZ.out).mono ?_; rintro e w7 ⟨pv, rfl, l7⟩; have V7 := hid (V6.out.below l7); have L7 := hid (sq L6.out l7); clear l7) | refine ld29 V6.out rfl _ rfl rfl ?_ | (refine rv_kind V4.out L4.out hb3 rfl _ _ rfl rfl rfl ?_; intro w6 v6 l6; rw [HR'.out] at v6; have V6 := hid v6; have L6 := hid l6; clear v6 l6) | (go_at_call 9; refine (rec9 0 1 1 1 _ (by decide) (by decide) (by decide) (by decide) (by decide) (by decide) (by decide) (by decide)).mono ?_; rintro e w2 ⟨rfl, l2⟩; rw [HR.out]; have L2 := hid (sq L1.out l2); clear l2) | (refine al29 rfl rfl ?_; intro b3 w3 hb3 v3 l3; have V3 := hid v3; have L3 := hid l3; clear v3 l3) | (refine st29 (r := r) V3.out L3.out hb3 rfl _ _ rfl rfl rfl ?_; intro w4 v4 l4; have V4 := hid v4; have L4 := hid l4; clear v4 l4) | (go_at_call 8; refine (known8 _).mono ?_; rintro e w1 ⟨rfl, l1⟩; have L1 := hid l1; clear l1))
  go_ret
  exact ⟨rfl, by first | exact sq L2.out L9.out | exact L9.out⟩
set_option maxRecDepth 10000 in
set_option maxHeartbeats 2000000 in
theorem right_k_hi (u v : Int) (w : World) (u0 : 0 ≤ u) (_u1 : u < 256) (hc : u % 6 = 0) (h1 : 9 < v) :
    Calls Try.prog 7 #[.int .u8 u, .int .i64 v] w fun e w' => e = .returned (.bool true) ∧ Below w.heap.size w w' := by
  obtain ⟨r, hr⟩ : ∃ r, seatR 0 1 1 1 = r := ⟨_, rfl⟩
  have HR := hid hr
  have hrt : rightB r = true := by rw [← hr]; exact seat_right (by decide) (by decide) (by decide) (by decide)
  have hro : r.Ok := by rw [← hr]; exact seat_ok
  have hrs := (rt_of hrt).size
  clear hr
  have hq : u.tmod 6 = 0 := by rw [Int.tmod_eq_emod_of_nonneg u0, hc]
  have g1 : 10 ≤ v := by omega
  have g2 : 1 ≤ v := by omega
  have g3 : decide (v < 10) = false := by simp; omega
  obtain ⟨r', hr'⟩ : ∃ r', ({ r with kind := v } : Rc) = r' := ⟨_, rfl⟩
  have HR' := hid hr'
  have HT : Hid (rightB r' = false) := by unfold Hid; rw [← hr', kind_right hrt]; simp; omega
  have HO : Hid r'.Ok := by unfold Hid; rw [← hr']; exact hro
  have HS : Hid (r'.pan.size ≤ 9223372036854775807) := by unfold Hid; rw [← hr']; show r.pan.size ≤ _; omega
  clear hr'
  have HZ : Hid ((27 : Int) = if rightB r' = true then 0 else 27) := by unfold Hid; rw [HT.out]; rfl
  clear hrt hro hrs
  go_enter Try.func7, Try.ntmps7
  go_wp2_with (first | (go_at_call 13; refine (rightR_any r' _ HS.out).mono ?_; rintro e w9 ⟨rfl, l9⟩; rw [HT.out]; have L9 := hid (sq L8.out l9); clear l9) | refine ldw29 V8.out _ rfl (by kernel_rfl) rfl ?_ | (go_at_call 12; refine (right_any r' _ HS.out).mono ?_; rintro e w8 ⟨rfl, l8⟩; rw [HT.out]; have V8 := hid (V7.out.below l8); have L8 := hid (sq L7.out l8); clear l8) | refine ld29 V7.out rfl _ rfl rfl ?_ | (go_at_call 10; refine (put_is r' _ HO.out HS.out (27) HZ.out).mono ?_; rintro e w7 ⟨pv, rfl, l7⟩; have V7 := hid (V6.out.below l7); have L7 := hid (sq L6.out l7); clear l7) | refine ld29 V6.out rfl _ rfl rfl ?_ | (refine rv_kind V4.out L4.out hb3 rfl _ _ rfl rfl rfl ?_; intro w6 v6 l6; rw [HR'.out] at v6; have V6 := hid v6; have L6 := hid l6; clear v6 l6) | (go_at_call 9; refine (rec9 0 1 1 1 _ (by decide) (by decide) (by decide) (by decide) (by decide) (by decide) (by decide) (by decide)).mono ?_; rintro e w2 ⟨rfl, l2⟩; rw [HR.out]; have L2 := hid (sq L1.out l2); clear l2) | (refine al29 rfl rfl ?_; intro b3 w3 hb3 v3 l3; have V3 := hid v3; have L3 := hid l3; clear v3 l3) | (refine st29 (r := r) V3.out L3.out hb3 rfl _ _ rfl rfl rfl ?_; intro w4 v4 l4; have V4 := hid v4; have L4 := hid l4; clear v4 l4) | (go_at_call 8; refine (known8 _).mono ?_; rintro e w1 ⟨rfl, l1⟩; have L1 := hid l1; clear l1))
  go_ret
  exact ⟨rfl, by first | exact sq L2.out L9.out | exact L9.out⟩
set_option maxRecDepth 10000 in
set_option maxHeartbeats 2000000 in
theorem right_a_y (u v : Int) (w : World) (u0 : 0 ≤ u) (_u1 : u < 256) (hc : u % 6 = 1) (h1 : 0 ≤ v) (h2 : v ≤ 1000000) :
    Calls Try.prog 7 #[.int .u8 u, .int .i64 v] w fun e w' => e = .returned (.bool true) ∧ Below w.heap.size w w' := by
  obtain ⟨r, hr⟩ : ∃ r, seatR 0 1 1 1 = r := ⟨_, rfl⟩
  have HR := hid hr
  have hrt : rightB r = true := by rw [← hr]; exact seat_right (by decide) (by decide) (by decide) (by decide)
  have hro : r.Ok := by rw [← hr]; exact seat_ok
  have hrs := (rt_of hrt).size
  clear hr
  have hq : u.tmod 6 = 1 := by rw [Int.tmod_eq_emod_of_nonneg u0, hc]
  obtain ⟨r', hr'⟩ : ∃ r', ({ r with amt := v } : Rc) = r' := ⟨_, rfl⟩
  have HR' := hid hr'
  have HT : Hid (rightB r' = true) := by unfold Hid; rw [← hr', amt_right hrt]; simp; omega
  have HO : Hid r'.Ok := by unfold Hid; rw [← hr']; exact hro
  have HS : Hid (r'.pan.size ≤ 9223372036854775807) := by unfold Hid; rw [← hr']; show r.pan.size ≤ _; omega
  clear hr'
  have HZ : Hid ((0 : Int) = if rightB r' = true then 0 else 27) := by unfold Hid; rw [HT.out]; rfl
  clear hrt hro hrs
  go_enter Try.func7, Try.ntmps7
  go_wp2_with (first | (go_at_call 13; refine (rightR_any r' _ HS.out).mono ?_; rintro e w9 ⟨rfl, l9⟩; rw [HT.out]; have L9 := hid (sq L8.out l9); clear l9) | refine ldw29 V8.out _ rfl (by kernel_rfl) rfl ?_ | (go_at_call 12; refine (right_any r' _ HS.out).mono ?_; rintro e w8 ⟨rfl, l8⟩; rw [HT.out]; have V8 := hid (V7.out.below l8); have L8 := hid (sq L7.out l8); clear l8) | refine ld29 V7.out rfl _ rfl rfl ?_ | (go_at_call 10; refine (put_is r' _ HO.out HS.out (0) HZ.out).mono ?_; rintro e w7 ⟨pv, rfl, l7⟩; have V7 := hid (V6.out.below l7); have L7 := hid (sq L6.out l7); clear l7) | refine ld29 V6.out rfl _ rfl rfl ?_ | (refine rv_amt V4.out L4.out hb3 rfl _ _ rfl rfl rfl ?_; intro w6 v6 l6; rw [HR'.out] at v6; have V6 := hid v6; have L6 := hid l6; clear v6 l6) | (go_at_call 9; refine (rec9 0 1 1 1 _ (by decide) (by decide) (by decide) (by decide) (by decide) (by decide) (by decide) (by decide)).mono ?_; rintro e w2 ⟨rfl, l2⟩; rw [HR.out]; have L2 := hid (sq L1.out l2); clear l2) | (refine al29 rfl rfl ?_; intro b3 w3 hb3 v3 l3; have V3 := hid v3; have L3 := hid l3; clear v3 l3) | (refine st29 (r := r) V3.out L3.out hb3 rfl _ _ rfl rfl rfl ?_; intro w4 v4 l4; have V4 := hid v4; have L4 := hid l4; clear v4 l4) | (go_at_call 8; refine (known8 _).mono ?_; rintro e w1 ⟨rfl, l1⟩; have L1 := hid l1; clear l1))
  go_ret
  exact ⟨rfl, by first | exact sq L2.out L9.out | exact L9.out⟩
set_option maxRecDepth 10000 in
set_option maxHeartbeats 2000000 in
theorem right_a_lo (u v : Int) (w : World) (u0 : 0 ≤ u) (_u1 : u < 256) (hc : u % 6 = 1) (h1 : v < 0) :
    Calls Try.prog 7 #[.int .u8 u, .int .i64 v] w fun e w' => e = .returned (.bool true) ∧ Below w.heap.size w w' := by
  obtain ⟨r, hr⟩ : ∃ r, seatR 0 1 1 1 = r := ⟨_, rfl⟩
  have HR := hid hr
  have hrt : rightB r = true := by rw [← hr]; exact seat_right (by decide) (by decide) (by decide) (by decide)
  have hro : r.Ok := by rw [← hr]; exact seat_ok
  have hrs := (rt_of hrt).size
  clear hr
  have hq : u.tmod 6 = 1 := by rw [Int.tmod_eq_emod_of_nonneg u0, hc]
  obtain ⟨r', hr'⟩ : ∃ r', ({ r with amt := v } : Rc) = r' := ⟨_, rfl⟩
  have HR' := hid hr'
  have HT : Hid (rightB r' = false) := by unfold Hid; rw [← hr', amt_right hrt]; simp; omega
  have HO : Hid r'.Ok := by unfold Hid; rw [← hr']; exact hro
  have HS : Hid (r'.pan.size ≤ 9223372036854775807) := by unfold Hid; rw [← hr']; show r.pan.size ≤ _; omega
  clear hr'
  have HZ : Hid ((27 : Int) = if rightB r' = true then 0 else 27) := by unfold Hid; rw [HT.out]; rfl
  clear hrt hro hrs
  go_enter Try.func7, Try.ntmps7
  go_wp2_with (first | (go_at_call 13; refine (rightR_any r' _ HS.out).mono ?_; rintro e w9 ⟨rfl, l9⟩; rw [HT.out]; have L9 := hid (sq L8.out l9); clear l9) | refine ldw29 V8.out _ rfl (by kernel_rfl) rfl ?_ | (go_at_call 12; refine (right_any r' _ HS.out).mono ?_; rintro e w8 ⟨rfl, l8⟩; rw [HT.out]; have V8 := hid (V7.out.below l8); have L8 := hid (sq L7.out l8); clear l8) | refine ld29 V7.out rfl _ rfl rfl ?_ | (go_at_call 10; refine (put_is r' _ HO.out HS.out (27) HZ.out).mono ?_; rintro e w7 ⟨pv, rfl, l7⟩; have V7 := hid (V6.out.below l7); have L7 := hid (sq L6.out l7); clear l7) | refine ld29 V6.out rfl _ rfl rfl ?_ | (refine rv_amt V4.out L4.out hb3 rfl _ _ rfl rfl rfl ?_; intro w6 v6 l6; rw [HR'.out] at v6; have V6 := hid v6; have L6 := hid l6; clear v6 l6) | (go_at_call 9; refine (rec9 0 1 1 1 _ (by decide) (by decide) (by decide) (by decide) (by decide) (by decide) (by decide) (by decide)).mono ?_; rintro e w2 ⟨rfl, l2⟩; rw [HR.out]; have L2 := hid (sq L1.out l2); clear l2) | (refine al29 rfl rfl ?_; intro b3 w3 hb3 v3 l3; have V3 := hid v3; have L3 := hid l3; clear v3 l3) | (refine st29 (r := r) V3.out L3.out hb3 rfl _ _ rfl rfl rfl ?_; intro w4 v4 l4; have V4 := hid v4; have L4 := hid l4; clear v4 l4) | (go_at_call 8; refine (known8 _).mono ?_; rintro e w1 ⟨rfl, l1⟩; have L1 := hid l1; clear l1))
  go_ret
  exact ⟨rfl, by first | exact sq L2.out L9.out | exact L9.out⟩
set_option maxRecDepth 10000 in
set_option maxHeartbeats 2000000 in
theorem right_a_hi (u v : Int) (w : World) (u0 : 0 ≤ u) (_u1 : u < 256) (hc : u % 6 = 1) (h1 : 1000000 < v) :
    Calls Try.prog 7 #[.int .u8 u, .int .i64 v] w fun e w' => e = .returned (.bool true) ∧ Below w.heap.size w w' := by
  obtain ⟨r, hr⟩ : ∃ r, seatR 0 1 1 1 = r := ⟨_, rfl⟩
  have HR := hid hr
  have hrt : rightB r = true := by rw [← hr]; exact seat_right (by decide) (by decide) (by decide) (by decide)
  have hro : r.Ok := by rw [← hr]; exact seat_ok
  have hrs := (rt_of hrt).size
  clear hr
  have hq : u.tmod 6 = 1 := by rw [Int.tmod_eq_emod_of_nonneg u0, hc]
  have g2 : 0 ≤ v := by omega
  have g3 : decide (v ≤ 1000000) = false := by simp; omega
  obtain ⟨r', hr'⟩ : ∃ r', ({ r with amt := v } : Rc) = r' := ⟨_, rfl⟩
  have HR' := hid hr'
  have HT : Hid (rightB r' = false) := by unfold Hid; rw [← hr', amt_right hrt]; simp; omega
  have HO : Hid r'.Ok := by unfold Hid; rw [← hr']; exact hro
  have HS : Hid (r'.pan.size ≤ 9223372036854775807) := by unfold Hid; rw [← hr']; show r.pan.size ≤ _; omega
  clear hr'
  have HZ : Hid ((27 : Int) = if rightB r' = true then 0 else 27) := by unfold Hid; rw [HT.out]; rfl
  clear hrt hro hrs
  go_enter Try.func7, Try.ntmps7
  go_wp2_with (first | (go_at_call 13; refine (rightR_any r' _ HS.out).mono ?_; rintro e w9 ⟨rfl, l9⟩; rw [HT.out]; have L9 := hid (sq L8.out l9); clear l9) | refine ldw29 V8.out _ rfl (by kernel_rfl) rfl ?_ | (go_at_call 12; refine (right_any r' _ HS.out).mono ?_; rintro e w8 ⟨rfl, l8⟩; rw [HT.out]; have V8 := hid (V7.out.below l8); have L8 := hid (sq L7.out l8); clear l8) | refine ld29 V7.out rfl _ rfl rfl ?_ | (go_at_call 10; refine (put_is r' _ HO.out HS.out (27) HZ.out).mono ?_; rintro e w7 ⟨pv, rfl, l7⟩; have V7 := hid (V6.out.below l7); have L7 := hid (sq L6.out l7); clear l7) | refine ld29 V6.out rfl _ rfl rfl ?_ | (refine rv_amt V4.out L4.out hb3 rfl _ _ rfl rfl rfl ?_; intro w6 v6 l6; rw [HR'.out] at v6; have V6 := hid v6; have L6 := hid l6; clear v6 l6) | (go_at_call 9; refine (rec9 0 1 1 1 _ (by decide) (by decide) (by decide) (by decide) (by decide) (by decide) (by decide) (by decide)).mono ?_; rintro e w2 ⟨rfl, l2⟩; rw [HR.out]; have L2 := hid (sq L1.out l2); clear l2) | (refine al29 rfl rfl ?_; intro b3 w3 hb3 v3 l3; have V3 := hid v3; have L3 := hid l3; clear v3 l3) | (refine st29 (r := r) V3.out L3.out hb3 rfl _ _ rfl rfl rfl ?_; intro w4 v4 l4; have V4 := hid v4; have L4 := hid l4; clear v4 l4) | (go_at_call 8; refine (known8 _).mono ?_; rintro e w1 ⟨rfl, l1⟩; have L1 := hid l1; clear l1))
  go_ret
  exact ⟨rfl, by first | exact sq L2.out L9.out | exact L9.out⟩
set_option maxRecDepth 10000 in
set_option maxHeartbeats 2000000 in
theorem right_N_y (u v : Int) (w : World) (u0 : 0 ≤ u) (u1 : u < 256) (hc : u % 6 = 2) (h1 : 0 ≤ v) (h2 : v ≤ 10000) :
    Calls Try.prog 7 #[.int .u8 u, .int .i64 v] w fun e w' => e = .returned (.bool true) ∧ Below w.heap.size w w' := by
  obtain ⟨r, hr⟩ : ∃ r, seatR 0 1 1 1 = r := ⟨_, rfl⟩
  have HR := hid hr
  have hrt : rightB r = true := by rw [← hr]; exact seat_right (by decide) (by decide) (by decide) (by decide)
  have hro : r.Ok := by rw [← hr]; exact seat_ok
  have hrs := (rt_of hrt).size
  clear hr
  have hq : u.tmod 6 = 2 := by rw [Int.tmod_eq_emod_of_nonneg u0, hc]
  obtain ⟨q, hq1, q0, q1⟩ : ∃ q, u / 6 = q ∧ 0 ≤ q ∧ q < 43 := ⟨_, rfl, by omega, by omega⟩
  have hq2 : u.tdiv 6 = q := by rw [Int.tdiv_eq_ediv_of_nonneg u0, hq1]
  have hq3 : IntKind.u8.wrap q = q := by rw [IntKind.wrap_u8]; omega
  obtain ⟨i, hi⟩ : ∃ i : Nat, q % 4 = (i : Int) := ⟨(q % 4).toNat, by omega⟩
  have hi4 : i < 4 := by omega
  have hi5 : q.tmod 4 = (i : Int) := by rw [Int.tmod_eq_emod_of_nonneg q0, hi]
  have hi6 : (0 : Int) ≤ (i : Int) := by omega
  have hi7 : (i : Int) < 4 := by omega
  obtain ⟨r', hr'⟩ : ∃ r', setN r i v = r' := ⟨_, rfl⟩
  have HR' := hid hr'
  have HT : Hid (rightB r' = true) := by unfold Hid; rw [← hr', setN_right hrt]; simp; omega
  have HO : Hid r'.Ok := by unfold Hid; rw [← hr']; exact setN_ok hro
  have HS : Hid (r'.pan.size ≤ 9223372036854775807) := by unfold Hid; rw [← hr']; rw [setN_pan]; omega
  clear hr'
  have HZ : Hid ((0 : Int) = if rightB r' = true then 0 else 27) := by unfold Hid; rw [HT.out]; rfl
  clear hrt hro hrs
  go_enter Try.func7, Try.ntmps7
  go_wp2_with (first | (go_at_call 13; refine (rightR_any r' _ HS.out).mono ?_; rintro e w9 ⟨rfl, l9⟩; rw [HT.out]; have L9 := hid (sq L8.out l9); clear l9) | refine ldw29 V8.out _ rfl (by kernel_rfl) rfl ?_ | (go_at_call 12; refine (right_any r' _ HS.out).mono ?_; rintro e w8 ⟨rfl, l8⟩; rw [HT.out]; have V8 := hid (V7.out.below l8); have L8 := hid (sq L7.out l8); clear l8) | refine ld29 V7.out rfl _ rfl rfl ?_ | (go_at_call 10; refine (put_is r' _ HO.out HS.out (0) HZ.out).mono ?_; rintro e w7 ⟨pv, rfl, l7⟩; have V7 := hid (V6.out.below l7); have L7 := hid (sq L6.out l7); clear l7) | refine ld29 V6.out rfl _ rfl rfl ?_ | (refine rv_N i hi4 V4.out L4.out hb3 rfl _ _ rfl rfl rfl ?_; intro w6 v6 l6; rw [HR'.out] at v6; have V6 := hid v6; have L6 := hid l6; clear v6 l6) | (go_at_call 9; refine (rec9 0 1 1 1 _ (by decide) (by decide) (by decide) (by decide) (by decide) (by decide) (by decide) (by decide)).mono ?_; rintro e w2 ⟨rfl, l2⟩; rw [HR.out]; have L2 := hid (sq L1.out l2); clear l2) | (refine al29 rfl rfl ?_; intro b3 w3 hb3 v3 l3; have V3 := hid v3; have L3 := hid l3; clear v3 l3) | (refine st29 (r := r) V3.out L3.out hb3 rfl _ _ rfl rfl rfl ?_; intro w4 v4 l4; have V4 := hid v4; have L4 := hid l4; clear v4 l4) | (go_at_call 8; refine (known8 _).mono ?_; rintro e w1 ⟨rfl, l1⟩; have L1 := hid l1; clear l1))
  go_ret
  exact ⟨rfl, by first | exact sq L2.out L9.out | exact L9.out⟩
set_option maxRecDepth 10000 in
set_option maxHeartbeats 2000000 in
theorem right_N_lo (u v : Int) (w : World) (u0 : 0 ≤ u) (u1 : u < 256) (hc : u % 6 = 2) (h1 : v < 0) :
    Calls Try.prog 7 #[.int .u8 u, .int .i64 v] w fun e w' => e = .returned (.bool true) ∧ Below w.heap.size w w' := by
  obtain ⟨r, hr⟩ : ∃ r, seatR 0 1 1 1 = r := ⟨_, rfl⟩
  have HR := hid hr
  have hrt : rightB r = true := by rw [← hr]; exact seat_right (by decide) (by decide) (by decide) (by decide)
  have hro : r.Ok := by rw [← hr]; exact seat_ok
  have hrs := (rt_of hrt).size
  clear hr
  have hq : u.tmod 6 = 2 := by rw [Int.tmod_eq_emod_of_nonneg u0, hc]
  obtain ⟨q, hq1, q0, q1⟩ : ∃ q, u / 6 = q ∧ 0 ≤ q ∧ q < 43 := ⟨_, rfl, by omega, by omega⟩
  have hq2 : u.tdiv 6 = q := by rw [Int.tdiv_eq_ediv_of_nonneg u0, hq1]
  have hq3 : IntKind.u8.wrap q = q := by rw [IntKind.wrap_u8]; omega
  obtain ⟨i, hi⟩ : ∃ i : Nat, q % 4 = (i : Int) := ⟨(q % 4).toNat, by omega⟩
  have hi4 : i < 4 := by omega
  have hi5 : q.tmod 4 = (i : Int) := by rw [Int.tmod_eq_emod_of_nonneg q0, hi]
  have hi6 : (0 : Int) ≤ (i : Int) := by omega
  have hi7 : (i : Int) < 4 := by omega
  obtain ⟨r', hr'⟩ : ∃ r', setN r i v = r' := ⟨_, rfl⟩
  have HR' := hid hr'
  have HT : Hid (rightB r' = false) := by unfold Hid; rw [← hr', setN_right hrt]; simp; omega
  have HO : Hid r'.Ok := by unfold Hid; rw [← hr']; exact setN_ok hro
  have HS : Hid (r'.pan.size ≤ 9223372036854775807) := by unfold Hid; rw [← hr']; rw [setN_pan]; omega
  clear hr'
  have HZ : Hid ((27 : Int) = if rightB r' = true then 0 else 27) := by unfold Hid; rw [HT.out]; rfl
  clear hrt hro hrs
  go_enter Try.func7, Try.ntmps7
  go_wp2_with (first | (go_at_call 13; refine (rightR_any r' _ HS.out).mono ?_; rintro e w9 ⟨rfl, l9⟩; rw [HT.out]; have L9 := hid (sq L8.out l9); clear l9) | refine ldw29 V8.out _ rfl (by kernel_rfl) rfl ?_ | (go_at_call 12; refine (right_any r' _ HS.out).mono ?_; rintro e w8 ⟨rfl, l8⟩; rw [HT.out]; have V8 := hid (V7.out.below l8); have L8 := hid (sq L7.out l8); clear l8) | refine ld29 V7.out rfl _ rfl rfl ?_ | (go_at_call 10; refine (put_is r' _ HO.out HS.out (27) HZ.out).mono ?_; rintro e w7 ⟨pv, rfl, l7⟩; have V7 := hid (V6.out.below l7); have L7 := hid (sq L6.out l7); clear l7) | refine ld29 V6.out rfl _ rfl rfl ?_ | (refine rv_N i hi4 V4.out L4.out hb3 rfl _ _ rfl rfl rfl ?_; intro w6 v6 l6; rw [HR'.out] at v6; have V6 := hid v6; have L6 := hid l6; clear v6 l6) | (go_at_call 9; refine (rec9 0 1 1 1 _ (by decide) (by decide) (by decide) (by decide) (by decide) (by decide) (by decide) (by decide)).mono ?_; rintro e w2 ⟨rfl, l2⟩; rw [HR.out]; have L2 := hid (sq L1.out l2); clear l2) | (refine al29 rfl rfl ?_; intro b3 w3 hb3 v3 l3; have V3 := hid v3; have L3 := hid l3; clear v3 l3) | (refine st29 (r := r) V3.out L3.out hb3 rfl _ _ rfl rfl rfl ?_; intro w4 v4 l4; have V4 := hid v4; have L4 := hid l4; clear v4 l4) | (go_at_call 8; refine (known8 _).mono ?_; rintro e w1 ⟨rfl, l1⟩; have L1 := hid l1; clear l1))
  go_ret
  exact ⟨rfl, by first | exact sq L2.out L9.out | exact L9.out⟩
set_option maxRecDepth 10000 in
set_option maxHeartbeats 2000000 in
theorem right_N_hi (u v : Int) (w : World) (u0 : 0 ≤ u) (u1 : u < 256) (hc : u % 6 = 2) (h1 : 10000 < v) :
    Calls Try.prog 7 #[.int .u8 u, .int .i64 v] w fun e w' => e = .returned (.bool true) ∧ Below w.heap.size w w' := by
  obtain ⟨r, hr⟩ : ∃ r, seatR 0 1 1 1 = r := ⟨_, rfl⟩
  have HR := hid hr
  have hrt : rightB r = true := by rw [← hr]; exact seat_right (by decide) (by decide) (by decide) (by decide)
  have hro : r.Ok := by rw [← hr]; exact seat_ok
  have hrs := (rt_of hrt).size
  clear hr
  have hq : u.tmod 6 = 2 := by rw [Int.tmod_eq_emod_of_nonneg u0, hc]
  obtain ⟨q, hq1, q0, q1⟩ : ∃ q, u / 6 = q ∧ 0 ≤ q ∧ q < 43 := ⟨_, rfl, by omega, by omega⟩
  have hq2 : u.tdiv 6 = q := by rw [Int.tdiv_eq_ediv_of_nonneg u0, hq1]
  have hq3 : IntKind.u8.wrap q = q := by rw [IntKind.wrap_u8]; omega
  obtain ⟨i, hi⟩ : ∃ i : Nat, q % 4 = (i : Int) := ⟨(q % 4).toNat, by omega⟩
  have hi4 : i < 4 := by omega
  have hi5 : q.tmod 4 = (i : Int) := by rw [Int.tmod_eq_emod_of_nonneg q0, hi]
  have hi6 : (0 : Int) ≤ (i : Int) := by omega
  have hi7 : (i : Int) < 4 := by omega
  have g2 : 0 ≤ v := by omega
  have g3 : decide (v ≤ 10000) = false := by simp; omega
  obtain ⟨r', hr'⟩ : ∃ r', setN r i v = r' := ⟨_, rfl⟩
  have HR' := hid hr'
  have HT : Hid (rightB r' = false) := by unfold Hid; rw [← hr', setN_right hrt]; simp; omega
  have HO : Hid r'.Ok := by unfold Hid; rw [← hr']; exact setN_ok hro
  have HS : Hid (r'.pan.size ≤ 9223372036854775807) := by unfold Hid; rw [← hr']; rw [setN_pan]; omega
  clear hr'
  have HZ : Hid ((27 : Int) = if rightB r' = true then 0 else 27) := by unfold Hid; rw [HT.out]; rfl
  clear hrt hro hrs
  go_enter Try.func7, Try.ntmps7
  go_wp2_with (first | (go_at_call 13; refine (rightR_any r' _ HS.out).mono ?_; rintro e w9 ⟨rfl, l9⟩; rw [HT.out]; have L9 := hid (sq L8.out l9); clear l9) | refine ldw29 V8.out _ rfl (by kernel_rfl) rfl ?_ | (go_at_call 12; refine (right_any r' _ HS.out).mono ?_; rintro e w8 ⟨rfl, l8⟩; rw [HT.out]; have V8 := hid (V7.out.below l8); have L8 := hid (sq L7.out l8); clear l8) | refine ld29 V7.out rfl _ rfl rfl ?_ | (go_at_call 10; refine (put_is r' _ HO.out HS.out (27) HZ.out).mono ?_; rintro e w7 ⟨pv, rfl, l7⟩; have V7 := hid (V6.out.below l7); have L7 := hid (sq L6.out l7); clear l7) | refine ld29 V6.out rfl _ rfl rfl ?_ | (refine rv_N i hi4 V4.out L4.out hb3 rfl _ _ rfl rfl rfl ?_; intro w6 v6 l6; rw [HR'.out] at v6; have V6 := hid v6; have L6 := hid l6; clear v6 l6) | (go_at_call 9; refine (rec9 0 1 1 1 _ (by decide) (by decide) (by decide) (by decide) (by decide) (by decide) (by decide) (by decide)).mono ?_; rintro e w2 ⟨rfl, l2⟩; rw [HR.out]; have L2 := hid (sq L1.out l2); clear l2) | (refine al29 rfl rfl ?_; intro b3 w3 hb3 v3 l3; have V3 := hid v3; have L3 := hid l3; clear v3 l3) | (refine st29 (r := r) V3.out L3.out hb3 rfl _ _ rfl rfl rfl ?_; intro w4 v4 l4; have V4 := hid v4; have L4 := hid l4; clear v4 l4) | (go_at_call 8; refine (known8 _).mono ?_; rintro e w1 ⟨rfl, l1⟩; have L1 := hid l1; clear l1))
  go_ret
  exact ⟨rfl, by first | exact sq L2.out L9.out | exact L9.out⟩
set_option maxRecDepth 10000 in
set_option maxHeartbeats 2000000 in
theorem right_J_y (u v : Int) (w : World) (u0 : 0 ≤ u) (u1 : u < 256) (hc : u % 6 = 3) (h1 : 0 ≤ v) (h2 : v ≤ 10000) :
    Calls Try.prog 7 #[.int .u8 u, .int .i64 v] w fun e w' => e = .returned (.bool true) ∧ Below w.heap.size w w' := by
  obtain ⟨r, hr⟩ : ∃ r, seatR 0 1 1 1 = r := ⟨_, rfl⟩
  have HR := hid hr
  have hrt : rightB r = true := by rw [← hr]; exact seat_right (by decide) (by decide) (by decide) (by decide)
  have hro : r.Ok := by rw [← hr]; exact seat_ok
  have hrs := (rt_of hrt).size
  clear hr
  have hq : u.tmod 6 = 3 := by rw [Int.tmod_eq_emod_of_nonneg u0, hc]
  obtain ⟨q, hq1, q0, q1⟩ : ∃ q, u / 6 = q ∧ 0 ≤ q ∧ q < 43 := ⟨_, rfl, by omega, by omega⟩
  have hq2 : u.tdiv 6 = q := by rw [Int.tdiv_eq_ediv_of_nonneg u0, hq1]
  have hq3 : IntKind.u8.wrap q = q := by rw [IntKind.wrap_u8]; omega
  obtain ⟨i, hi⟩ : ∃ i : Nat, q % 4 = (i : Int) := ⟨(q % 4).toNat, by omega⟩
  have hi4 : i < 4 := by omega
  have hi5 : q.tmod 4 = (i : Int) := by rw [Int.tmod_eq_emod_of_nonneg q0, hi]
  have hi6 : (0 : Int) ≤ (i : Int) := by omega
  have hi7 : (i : Int) < 4 := by omega
  obtain ⟨r', hr'⟩ : ∃ r', setJ r i v = r' := ⟨_, rfl⟩
  have HR' := hid hr'
  have HT : Hid (rightB r' = true) := by unfold Hid; rw [← hr', setJ_right hrt]; simp; omega
  have HO : Hid r'.Ok := by unfold Hid; rw [← hr']; exact setJ_ok hro
  have HS : Hid (r'.pan.size ≤ 9223372036854775807) := by unfold Hid; rw [← hr']; rw [setJ_pan]; omega
  clear hr'
  have HZ : Hid ((0 : Int) = if rightB r' = true then 0 else 27) := by unfold Hid; rw [HT.out]; rfl
  clear hrt hro hrs
  go_enter Try.func7, Try.ntmps7
  go_wp2_with (first | (go_at_call 13; refine (rightR_any r' _ HS.out).mono ?_; rintro e w9 ⟨rfl, l9⟩; rw [HT.out]; have L9 := hid (sq L8.out l9); clear l9) | refine ldw29 V8.out _ rfl (by kernel_rfl) rfl ?_ | (go_at_call 12; refine (right_any r' _ HS.out).mono ?_; rintro e w8 ⟨rfl, l8⟩; rw [HT.out]; have V8 := hid (V7.out.below l8); have L8 := hid (sq L7.out l8); clear l8) | refine ld29 V7.out rfl _ rfl rfl ?_ | (go_at_call 10; refine (put_is r' _ HO.out HS.out (0) HZ.out).mono ?_; rintro e w7 ⟨pv, rfl, l7⟩; have V7 := hid (V6.out.below l7); have L7 := hid (sq L6.out l7); clear l7) | refine ld29 V6.out rfl _ rfl rfl ?_ | (refine rv_J i hi4 V4.out L4.out hb3 rfl _ _ rfl rfl rfl ?_; intro w6 v6 l6; rw [HR'.out] at v6; have V6 := hid v6; have L6 := hid l6; clear v6 l6) | (go_at_call 9; refine (rec9 0 1 1 1 _ (by decide) (by decide) (by decide) (by decide) (by decide) (by decide) (by decide) (by decide)).mono ?_; rintro e w2 ⟨rfl, l2⟩; rw [HR.out]; have L2 := hid (sq L1.out l2); clear l2) | (refine al29 rfl rfl ?_; intro b3 w3 hb3 v3 l3; have V3 := hid v3; have L3 := hid l3; clear v3 l3) | (refine st29 (r := r) V3.out L3.out hb3 rfl _ _ rfl rfl rfl ?_; intro w4 v4 l4; have V4 := hid v4; have L4 := hid l4; clear v4 l4) | (go_at_call 8; refine (known8 _).mono ?_; rintro e w1 ⟨rfl, l1⟩; have L1 := hid l1; clear l1))
  go_ret
  exact ⟨rfl, by first | exact sq L2.out L9.out | exact L9.out⟩
set_option maxRecDepth 10000 in
set_option maxHeartbeats 2000000 in
theorem right_J_lo (u v : Int) (w : World) (u0 : 0 ≤ u) (u1 : u < 256) (hc : u % 6 = 3) (h1 : v < 0) :
    Calls Try.prog 7 #[.int .u8 u, .int .i64 v] w fun e w' => e = .returned (.bool true) ∧ Below w.heap.size w w' := by
  obtain ⟨r, hr⟩ : ∃ r, seatR 0 1 1 1 = r := ⟨_, rfl⟩
  have HR := hid hr
  have hrt : rightB r = true := by rw [← hr]; exact seat_right (by decide) (by decide) (by decide) (by decide)
  have hro : r.Ok := by rw [← hr]; exact seat_ok
  have hrs := (rt_of hrt).size
  clear hr
  have hq : u.tmod 6 = 3 := by rw [Int.tmod_eq_emod_of_nonneg u0, hc]
  obtain ⟨q, hq1, q0, q1⟩ : ∃ q, u / 6 = q ∧ 0 ≤ q ∧ q < 43 := ⟨_, rfl, by omega, by omega⟩
  have hq2 : u.tdiv 6 = q := by rw [Int.tdiv_eq_ediv_of_nonneg u0, hq1]
  have hq3 : IntKind.u8.wrap q = q := by rw [IntKind.wrap_u8]; omega
  obtain ⟨i, hi⟩ : ∃ i : Nat, q % 4 = (i : Int) := ⟨(q % 4).toNat, by omega⟩
  have hi4 : i < 4 := by omega
  have hi5 : q.tmod 4 = (i : Int) := by rw [Int.tmod_eq_emod_of_nonneg q0, hi]
  have hi6 : (0 : Int) ≤ (i : Int) := by omega
  have hi7 : (i : Int) < 4 := by omega
  obtain ⟨r', hr'⟩ : ∃ r', setJ r i v = r' := ⟨_, rfl⟩
  have HR' := hid hr'
  have HT : Hid (rightB r' = false) := by unfold Hid; rw [← hr', setJ_right hrt]; simp; omega
  have HO : Hid r'.Ok := by unfold Hid; rw [← hr']; exact setJ_ok hro
  have HS : Hid (r'.pan.size ≤ 9223372036854775807) := by unfold Hid; rw [← hr']; rw [setJ_pan]; omega
  clear hr'
  have HZ : Hid ((27 : Int) = if rightB r' = true then 0 else 27) := by unfold Hid; rw [HT.out]; rfl
  clear hrt hro hrs
  go_enter Try.func7, Try.ntmps7
  go_wp2_with (first | (go_at_call 13; refine (rightR_any r' _ HS.out).mono ?_; rintro e w9 ⟨rfl, l9⟩; rw [HT.out]; have L9 := hid (sq L8.out l9); clear l9) | refine ldw29 V8.out _ rfl (by kernel_rfl) rfl ?_ | (go_at_call 12; refine (right_any r' _ HS.out).mono ?_; rintro e w8 ⟨rfl, l8⟩; rw [HT.out]; have V8 := hid (V7.out.below l8); have L8 := hid (sq L7.out l8); clear l8) | refine ld29 V7.out rfl _ rfl rfl ?_ | (go_at_call 10; refine (put_is r' _ HO.out HS.out (27) HZ.out).mono ?_; rintro e w7 ⟨pv, rfl, l7⟩; have V7 := hid (V6.out.below l7); have L7 := hid (sq L6.out l7); clear l7) | refine ld29 V6.out rfl _ rfl rfl ?_ | (refine rv_J i hi4 V4.out L4.out hb3 rfl _ _ rfl rfl rfl ?_; intro w6 v6 l6; rw [HR'.out] at v6; have V6 := hid v6; have L6 := hid l6; clear v6 l6) | (go_at_call 9; refine (rec9 0 1 1 1 _ (by decide) (by decide) (by decide) (by decide) (by decide) (by decide) (by decide) (by decide)).mono ?_; rintro e w2 ⟨rfl, l2⟩; rw [HR.out]; have L2 := hid (sq L1.out l2); clear l2) | (refine al29 rfl rfl ?_; intro b3 w3 hb3 v3 l3; have V3 := hid v3; have L3 := hid l3; clear v3 l3) | (refine st29 (r := r) V3.out L3.out hb3 rfl _ _ rfl rfl rfl ?_; intro w4 v4 l4; have V4 := hid v4; have L4 := hid l4; clear v4 l4) | (go_at_call 8; refine (known8 _).mono ?_; rintro e w1 ⟨rfl, l1⟩; have L1 := hid l1; clear l1))
  go_ret
  exact ⟨rfl, by first | exact sq L2.out L9.out | exact L9.out⟩
set_option maxRecDepth 10000 in
set_option maxHeartbeats 2000000 in
theorem right_J_hi (u v : Int) (w : World) (u0 : 0 ≤ u) (u1 : u < 256) (hc : u % 6 = 3) (h1 : 10000 < v) :
    Calls Try.prog 7 #[.int .u8 u, .int .i64 v] w fun e w' => e = .returned (.bool true) ∧ Below w.heap.size w w' := by
  obtain ⟨r, hr⟩ : ∃ r, seatR 0 1 1 1 = r := ⟨_, rfl⟩
  have HR := hid hr
  have hrt : rightB r = true := by rw [← hr]; exact seat_right (by decide) (by decide) (by decide) (by decide)
  have hro : r.Ok := by rw [← hr]; exact seat_ok
  have hrs := (rt_of hrt).size
  clear hr
  have hq : u.tmod 6 = 3 := by rw [Int.tmod_eq_emod_of_nonneg u0, hc]
  obtain ⟨q, hq1, q0, q1⟩ : ∃ q, u / 6 = q ∧ 0 ≤ q ∧ q < 43 := ⟨_, rfl, by omega, by omega⟩
  have hq2 : u.tdiv 6 = q := by rw [Int.tdiv_eq_ediv_of_nonneg u0, hq1]
  have hq3 : IntKind.u8.wrap q = q := by rw [IntKind.wrap_u8]; omega
  obtain ⟨i, hi⟩ : ∃ i : Nat, q % 4 = (i : Int) := ⟨(q % 4).toNat, by omega⟩
  have hi4 : i < 4 := by omega
  have hi5 : q.tmod 4 = (i : Int) := by rw [Int.tmod_eq_emod_of_nonneg q0, hi]
  have hi6 : (0 : Int) ≤ (i : Int) := by omega
  have hi7 : (i : Int) < 4 := by omega
  have g2 : 0 ≤ v := by omega
  have g3 : decide (v ≤ 10000) = false := by simp; omega
  obtain ⟨r', hr'⟩ : ∃ r', setJ r i v = r' := ⟨_, rfl⟩
  have HR' := hid hr'
  have HT : Hid (rightB r' = false) := by unfold Hid; rw [← hr', setJ_right hrt]; simp; omega
  have HO : Hid r'.Ok := by unfold Hid; rw [← hr']; exact setJ_ok hro
  have HS : Hid (r'.pan.size ≤ 9223372036854775807) := by unfold Hid; rw [← hr']; rw [setJ_pan]; omega
  clear hr'
  have HZ : Hid ((27 : Int) = if rightB r' = true then 0 else 27) := by unfold Hid; rw [HT.out]; rfl
  clear hrt hro hrs
  go_enter Try.func7, Try.ntmps7
  go_wp2_with (first | (go_at_call 13; refine (rightR_any r' _ HS.out).mono ?_; rintro e w9 ⟨rfl, l9⟩; rw [HT.out]; have L9 := hid (sq L8.out l9); clear l9) | refine ldw29 V8.out _ rfl (by kernel_rfl) rfl ?_ | (go_at_call 12; refine (right_any r' _ HS.out).mono ?_; rintro e w8 ⟨rfl, l8⟩; rw [HT.out]; have V8 := hid (V7.out.below l8); have L8 := hid (sq L7.out l8); clear l8) | refine ld29 V7.out rfl _ rfl rfl ?_ | (go_at_call 10; refine (put_is r' _ HO.out HS.out (27) HZ.out).mono ?_; rintro e w7 ⟨pv, rfl, l7⟩; have V7 := hid (V6.out.below l7); have L7 := hid (sq L6.out l7); clear l7) | refine ld29 V6.out rfl _ rfl rfl ?_ | (refine rv_J i hi4 V4.out L4.out hb3 rfl _ _ rfl rfl rfl ?_; intro w6 v6 l6; rw [HR'.out] at v6; have V6 := hid v6; have L6 := hid l6; clear v6 l6) | (go_at_call 9; refine (rec9 0 1 1 1 _ (by decide) (by decide) (by decide) (by decide) (by decide) (by decide) (by decide) (by decide)).mono ?_; rintro e w2 ⟨rfl, l2⟩; rw [HR.out]; have L2 := hid (sq L1.out l2); clear l2) | (refine al29 rfl rfl ?_; intro b3 w3 hb3 v3 l3; have V3 := hid v3; have L3 := hid l3; clear v3 l3) | (refine st29 (r := r) V3.out L3.out hb3 rfl _ _ rfl rfl rfl ?_; intro w4 v4 l4; have V4 := hid v4; have L4 := hid l4; clear v4 l4) | (go_at_call 8; refine (known8 _).mono ?_; rintro e w1 ⟨rfl, l1⟩; have L1 := hid l1; clear l1))
  go_ret
  exact ⟨rfl, by first | exact sq L2.out L9.out | exact L9.out⟩
set_option maxRecDepth 10000 in
set_option maxHeartbeats 2000000 in
theorem right_L_y (u v : Int) (w : World) (u0 : 0 ≤ u) (u1 : u < 256) (hc : u % 6 = 4) (h1 : 0 ≤ v) (h2 : v ≤ 10000) :
    Calls Try.prog 7 #[.int .u8 u, .int .i64 v] w fun e w' => e = .returned (.bool true) ∧ Below w.heap.size w w' := by
  obtain ⟨r, hr⟩ : ∃ r, seatR 0 1 1 1 = r := ⟨_, rfl⟩
  have HR := hid hr
  have hrt : rightB r = true := by rw [← hr]; exact seat_right (by decide) (by decide) (by decide) (by decide)
  have hro : r.Ok := by rw [← hr]; exact seat_ok
  have hrs := (rt_of hrt).size
  clear hr
  have hq : u.tmod 6 = 4 := by rw [Int.tmod_eq_emod_of_nonneg u0, hc]
  obtain ⟨q, hq1, q0, q1⟩ : ∃ q, u / 6 = q ∧ 0 ≤ q ∧ q < 43 := ⟨_, rfl, by omega, by omega⟩
  have hq2 : u.tdiv 6 = q := by rw [Int.tdiv_eq_ediv_of_nonneg u0, hq1]
  have hq3 : IntKind.u8.wrap q = q := by rw [IntKind.wrap_u8]; omega
  obtain ⟨i, hi⟩ : ∃ i : Nat, q % 4 = (i : Int) := ⟨(q % 4).toNat, by omega⟩
  have hi4 : i < 4 := by omega
  have hi5 : q.tmod 4 = (i : Int) := by rw [Int.tmod_eq_emod_of_nonneg q0, hi]
  have hi6 : (0 : Int) ≤ (i : Int) := by omega
  have hi7 : (i : Int) < 4 := by omega
  obtain ⟨r', hr'⟩ : ∃ r', setL r i v = r' := ⟨_, rfl⟩
  have HR' := hid hr'
  have HT : Hid (rightB r' = true) := by unfold Hid; rw [← hr', setL_right hrt]; simp; omega
  have HO : Hid r'.Ok := by unfold Hid; rw [← hr']; exact setL_ok hro
  have HS : Hid (r'.pan.size ≤ 9223372036854775807) := by unfold Hid; rw [← hr']; rw [setL_pan]; omega
  clear hr'
  have HZ : Hid ((0 : Int) = if rightB r' = true then 0 else 27) := by unfold Hid; rw [HT.out]; rfl
  clear hrt hro hrs
  go_enter Try.func7, Try.ntmps7
  go_wp2_with (first | (go_at_call 13; refine (rightR_any r' _ HS.out).mono ?_; rintro e w9 ⟨rfl, l9⟩; rw [HT.out]; have L9 := hid (sq L8.out l9); clear l9) | refine ldw29 V8.out _ rfl (by kernel_rfl) rfl ?_ | (go_at_call 12; refine (right_any r' _ HS.out).mono ?_; rintro e w8 ⟨rfl, l8⟩; rw [HT.out]; have V8 := hid (V7.out.below l8); have L8 := hid (sq L7.out l8); clear l8) | refine ld29 V7.out rfl _ rfl rfl ?_ | (go_at_call 10; refine (put_is r' _ HO.out HS.out (0) HZ.out).mono ?_; rintro e w7 ⟨pv, rfl, l7⟩; have V7 := hid (V6.out.below l7); have L7 := hid (sq L6.out l7); clear l7) | refine ld29 V6.out rfl _ rfl rfl ?_ | (refine rv_L i hi4 V4.out L4.out hb3 rfl _ _ rfl rfl rfl ?_; intro w6 v6 l6; rw [HR'.out] at v6; have V6 := hid v6; have L6 := hid l6; clear v6 l6) | (go_at_call 9; refine (rec9 0 1 1 1 _ (by decide) (by decide) (by decide) (by decide) (by decide) (by decide) (by decide) (by decide)).mono ?_; rintro e w2 ⟨rfl, l2⟩; rw [HR.out]; have L2 := hid (sq L1.out l2); clear l2) | (refine al29 rfl rfl ?_; intro b3 w3 hb3 v3 l3; have V3 := hid v3; have L3 := hid l3; clear v3 l3) | (refine st29 (r := r) V3.out L3.out hb3 rfl _ _ rfl rfl rfl ?_; intro w4 v4 l4; have V4 := hid v4; have L4 := hid l4; clear v4 l4) | (go_at_call 8; refine (known8 _).mono ?_; rintro e w1 ⟨rfl, l1⟩; have L1 := hid l1; clear l1))
  go_ret
  exact ⟨rfl, by first | exact sq L2.out L9.out | exact L9.out⟩
set_option maxRecDepth 10000 in
set_option maxHeartbeats 2000000 in
theorem right_L_lo (u v : Int) (w : World) (u0 : 0 ≤ u) (u1 : u < 256) (hc : u % 6 = 4) (h1 : v < 0) :
    Calls Try.prog 7 #[.int .u8 u, .int .i64 v] w fun e w' => e = .returned (.bool true) ∧ Below w.heap.size w w' := by
  obtain ⟨r, hr⟩ : ∃ r, seatR 0 1 1 1 = r := ⟨_, rfl⟩
  have HR := hid hr
  have hrt : rightB r = true := by rw [← hr]; exact seat_right (by decide) (by decide) (by decide) (by decide)
  have hro : r.Ok := by rw [← hr]; exact seat_ok
  have hrs := (rt_of hrt).size
  clear hr
  have hq : u.tmod 6 = 4 := by rw [Int.tmod_eq_emod_of_nonneg u0, hc]
  obtain ⟨q, hq1, q0, q1⟩ : ∃ q, u / 6 = q ∧ 0 ≤ q ∧ q < 43 := ⟨_, rfl, by omega, by omega⟩
  have hq2 : u.tdiv 6 = q := by rw [Int.tdiv_eq_ediv_of_nonneg u0, hq1]
  have hq3 : IntKind.u8.wrap q = q := by rw [IntKind.wrap_u8]; omega
  obtain ⟨i, hi⟩ : ∃ i : Nat, q % 4 = (i : Int) := ⟨(q % 4).toNat, by omega⟩
  have hi4 : i < 4 := by omega
  have hi5 : q.tmod 4 = (i : Int) := by rw [Int.tmod_eq_emod_of_nonneg q0, hi]
  have hi6 : (0 : Int) ≤ (i : Int) := by omega
  have hi7 : (i : Int) < 4 := by omega
  obtain ⟨r', hr'⟩ : ∃ r', setL r i v = r' := ⟨_, rfl⟩
  have HR' := hid hr'
  have HT : Hid (rightB r' = false) := by unfold Hid; rw [← hr', setL_right hrt]; simp; omega
  have HO : Hid r'.Ok := by unfold Hid; rw [← hr']; exact setL_ok hro
  have HS : Hid (r'.pan.size ≤ 9223372036854775807) := by unfold Hid; rw [← hr']; rw [setL_pan]; omega
  clear hr'
  have HZ : Hid ((27 : Int) = if rightB r' = true then 0 else 27) := by unfold Hid; rw [HT.out]; rfl
  clear hrt hro hrs
  go_enter Try.func7, Try.ntmps7
  go_wp2_with (first | (go_at_call 13; refine (rightR_any r' _ HS.out).mono ?_; rintro e w9 ⟨rfl, l9⟩; rw [HT.out]; have L9 := hid (sq L8.out l9); clear l9) | refine ldw29 V8.out _ rfl (by kernel_rfl) rfl ?_ | (go_at_call 12; refine (right_any r' _ HS.out).mono ?_; rintro e w8 ⟨rfl, l8⟩; rw [HT.out]; have V8 := hid (V7.out.below l8); have L8 := hid (sq L7.out l8); clear l8) | refine ld29 V7.out rfl _ rfl rfl ?_ | (go_at_call 10; refine (put_is r' _ HO.out HS.out (27) HZ.out).mono ?_; rintro e w7 ⟨pv, rfl, l7⟩; have V7 := hid (V6.out.below l7); have L7 := hid (sq L6.out l7); clear l7) | refine ld29 V6.out rfl _ rfl rfl ?_ | (refine rv_L i hi4 V4.out L4.out hb3 rfl _ _ rfl rfl rfl ?_; intro w6 v6 l6; rw [HR'.out] at v6; have V6 := hid v6; have L6 := hid l6; clear v6 l6) | (go_at_call 9; refine (rec9 0 1 1 1 _ (by decide) (by decide) (by decide) (by decide) (by decide) (by decide) (by decide) (by decide)).mono ?_; rintro e w2 ⟨rfl, l2⟩; rw [HR.out]; have L2 := hid (sq L1.out l2); clear l2) | (refine al29 rfl rfl ?_; intro b3 w3 hb3 v3 l3; have V3 := hid v3; have L3 := hid l3; clear v3 l3) | (refine st29 (r := r) V3.out L3.out hb3 rfl _ _ rfl rfl rfl ?_; intro w4 v4 l4; have V4 := hid v4; have L4 := hid l4; clear v4 l4) | (go_at_call 8; refine (known8 _).mono ?_; rintro e w1 ⟨rfl, l1⟩; have L1 := hid l1; clear l1))
  go_ret
  exact ⟨rfl, by first | exact sq L2.out L9.out | exact L9.out⟩
set_option maxRecDepth 10000 in
set_option maxHeartbeats 2000000 in
theorem right_L_hi (u v : Int) (w : World) (u0 : 0 ≤ u) (u1 : u < 256) (hc : u % 6 = 4) (h1 : 10000 < v) :
    Calls Try.prog 7 #[.int .u8 u, .int .i64 v] w fun e w' => e = .returned (.bool true) ∧ Below w.heap.size w w' := by
  obtain ⟨r, hr⟩ : ∃ r, seatR 0 1 1 1 = r := ⟨_, rfl⟩
  have HR := hid hr
  have hrt : rightB r = true := by rw [← hr]; exact seat_right (by decide) (by decide) (by decide) (by decide)
  have hro : r.Ok := by rw [← hr]; exact seat_ok
  have hrs := (rt_of hrt).size
  clear hr
  have hq : u.tmod 6 = 4 := by rw [Int.tmod_eq_emod_of_nonneg u0, hc]
  obtain ⟨q, hq1, q0, q1⟩ : ∃ q, u / 6 = q ∧ 0 ≤ q ∧ q < 43 := ⟨_, rfl, by omega, by omega⟩
  have hq2 : u.tdiv 6 = q := by rw [Int.tdiv_eq_ediv_of_nonneg u0, hq1]
  have hq3 : IntKind.u8.wrap q = q := by rw [IntKind.wrap_u8]; omega
  obtain ⟨i, hi⟩ : ∃ i : Nat, q % 4 = (i : Int) := ⟨(q % 4).toNat, by omega⟩
  have hi4 : i < 4 := by omega
  have hi5 : q.tmod 4 = (i : Int) := by rw [Int.tmod_eq_emod_of_nonneg q0, hi]
  have hi6 : (0 : Int) ≤ (i : Int) := by omega
  have hi7 : (i : Int) < 4 := by omega
  have g2 : 0 ≤ v := by omega
  have g3 : decide (v ≤ 10000) = false := by simp; omega
  obtain ⟨r', hr'⟩ : ∃ r', setL r i v = r' := ⟨_, rfl⟩
  have HR' := hid hr'
  have HT : Hid (rightB r' = false) := by unfold Hid; rw [← hr', setL_right hrt]; simp; omega
  have HO : Hid r'.Ok := by unfold Hid; rw [← hr']; exact setL_ok hro
  have HS : Hid (r'.pan.size ≤ 9223372036854775807) := by unfold Hid; rw [← hr']; rw [setL_pan]; omega
  clear hr'
  have HZ : Hid ((27 : Int) = if rightB r' = true then 0 else 27) := by unfold Hid; rw [HT.out]; rfl
  clear hrt hro hrs
  go_enter Try.func7, Try.ntmps7
  go_wp2_with (first | (go_at_call 13; refine (rightR_any r' _ HS.out).mono ?_; rintro e w9 ⟨rfl, l9⟩; rw [HT.out]; have L9 := hid (sq L8.out l9); clear l9) | refine ldw29 V8.out _ rfl (by kernel_rfl) rfl ?_ | (go_at_call 12; refine (right_any r' _ HS.out).mono ?_; rintro e w8 ⟨rfl, l8⟩; rw [HT.out]; have V8 := hid (V7.out.below l8); have L8 := hid (sq L7.out l8); clear l8) | refine ld29 V7.out rfl _ rfl rfl ?_ | (go_at_call 10; refine (put_is r' _ HO.out HS.out (27) HZ.out).mono ?_; rintro e w7 ⟨pv, rfl, l7⟩; have V7 := hid (V6.out.below l7); have L7 := hid (sq L6.out l7); clear l7) | refine ld29 V6.out rfl _ rfl rfl ?_ | (refine rv_L i hi4 V4.out L4.out hb3 rfl _ _ rfl rfl rfl ?_; intro w6 v6 l6; rw [HR'.out] at v6; have V6 := hid v6; have L6 := hid l6; clear v6 l6) | (go_at_call 9; refine (rec9 0 1 1 1 _ (by decide) (by decide) (by decide) (by decide) (by decide) (by decide) (by decide) (by decide)).mono ?_; rintro e w2 ⟨rfl, l2⟩; rw [HR.out]; have L2 := hid (sq L1.out l2); clear l2) | (refine al29 rfl rfl ?_; intro b3 w3 hb3 v3 l3; have V3 := hid v3; have L3 := hid l3; clear v3 l3) | (refine st29 (r := r) V3.out L3.out hb3 rfl _ _ rfl rfl rfl ?_; intro w4 v4 l4; have V4 := hid v4; have L4 := hid l4; clear v4 l4) | (go_at_call 8; refine (known8 _).mono ?_; rintro e w1 ⟨rfl, l1⟩; have L1 := hid l1; clear l1))
  go_ret
  exact ⟨rfl, by first | exact sq L2.out L9.out | exact L9.out⟩
set_option maxRecDepth 10000 in
set_option maxHeartbeats 2000000 in
theorem right_P_y (u v : Int) (w : World) (u0 : 0 ≤ u) (u1 : u < 256) (hc : u % 6 = 5) (hK : u / 6 ≤ 19) :
    Calls Try.prog 7 #[.int .u8 u, .int .i64 v] w fun e w' => e = .returned (.bool true) ∧ Below w.heap.size w w' := by
  obtain ⟨r, hr⟩ : ∃ r, seatR 0 1 1 1 = r := ⟨_, rfl⟩
  have HR := hid hr
  have hrt : rightB r = true := by rw [← hr]; exact seat_right (by decide) (by decide) (by decide) (by decide)
  have hro : r.Ok := by rw [← hr]; exact seat_ok
  have hrs := (rt_of hrt).size
  clear hr
  have hq : u.tmod 6 = 5 := by rw [Int.tmod_eq_emod_of_nonneg u0, hc]
  obtain ⟨K, hq1⟩ : ∃ K : Nat, u / 6 = (K : Int) := ⟨(u / 6).toNat, by omega⟩
  have k43 : K < 43 := by omega
  have hq2 : u.tdiv 6 = (K : Int) := by rw [Int.tdiv_eq_ediv_of_nonneg u0, hq1]
  have hq3 : IntKind.u8.wrap (K : Int) = (K : Int) := by rw [IntKind.wrap_u8]; omega
  obtain ⟨x, hx, x0, x1⟩ : ∃ x, IntKind.u64.wrap v = x ∧ 0 ≤ x ∧ x < 18446744073709551616 := ⟨_, rfl, by rw [IntKind.wrap_u64]; omega, by rw [IntKind.wrap_u64]; omega⟩
  have g1 : (K : Int) ≤ 19 := by omega
  have g2 : decide ((K : Int) ≤ 19) = true := by simp; omega
  have HRT := hid hrt
  have HRO := hid hro
  clear hrt hro hrs
  go_enter Try.func7, Try.ntmps7
  go_wp2_with (first | (go_at_call 13; refine (rightR_any r' _ HS.out).mono ?_; rintro e w9 ⟨rfl, l9⟩; rw [HT.out]; have L9 := hid (sq L8.out l9); clear l9) | refine ldw29 V8.out _ rfl (by kernel_rfl) rfl ?_ | (go_at_call 12; refine (right_any r' _ HS.out).mono ?_; rintro e w8 ⟨rfl, l8⟩; rw [HT.out]; have V8 := hid (V7.out.below l8); have L8 := hid (sq L7.out l8); clear l8) | refine ld29 V7.out rfl _ rfl rfl ?_ | (go_at_call 10; refine (put_is r' _ HO.out HS.out (0) HZ.out).mono ?_; rintro e w7 ⟨pv, rfl, l7⟩; have V7 := hid (V6.out.below l7); have L7 := hid (sq L6.out l7); clear l7) | refine ld29 V6.out rfl _ rfl rfl ?_ | (refine rv_pan V4.out L4.out hb3 rfl _ _ rfl rfl rfl ?_; intro w6 v6 l6; rw [HR'.out] at v6; have V6 := hid v6; have L6 := hid l6; clear v6 l6) | (go_at_call 18; refine (digits18 x K _ x0 x1 (by omega)).mono ?_; rintro e w5 ⟨t5, rfl, s5, d5, rfl⟩; obtain ⟨r', hr'⟩ : ∃ r', ({ r with pan := t5 } : Rc) = r' := ⟨_, rfl⟩; have HR' := hid hr'; have HT : Hid (rightB r' = true) := (by unfold Hid; rw [← hr', pan_right HRT.out]; simp [panB, d5, s5]; omega); have HO : Hid r'.Ok := (by unfold Hid; rw [← hr']; exact HRO.out); have HS : Hid (r'.pan.size ≤ 9223372036854775807) := (by unfold Hid; rw [← hr']; show t5.size ≤ _; omega); have HZ : Hid ((0 : Int) = if rightB r' = true then 0 else 27) := (by unfold Hid; rw [HT.out]; rfl); clear hr' s5 d5) | (go_at_call 9; refine (rec9 0 1 1 1 _ (by decide) (by decide) (by decide) (by decide) (by decide) (by decide) (by decide) (by decide)).mono ?_; rintro e w2 ⟨rfl, l2⟩; rw [HR.out]; have L2 := hid (sq L1.out l2); clear l2) | (refine al29 rfl rfl ?_; intro b3 w3 hb3 v3 l3; have V3 := hid v3; have L3 := hid l3; clear v3 l3) | (refine st29 (r := r) V3.out L3.out hb3 rfl _ _ rfl rfl rfl ?_; intro w4 v4 l4; have V4 := hid v4; have L4 := hid l4; clear v4 l4) | (go_at_call 8; refine (known8 _).mono ?_; rintro e w1 ⟨rfl, l1⟩; have L1 := hid l1; clear l1))
  go_ret
  exact ⟨rfl, by first | exact sq L2.out L9.out | exact L9.out⟩
set_option maxRecDepth 10000 in
set_option maxHeartbeats 2000000 in
theorem right_P_hi (u v : Int) (w : World) (u0 : 0 ≤ u) (u1 : u < 256) (hc : u % 6 = 5) (hK : 19 < u / 6) :
    Calls Try.prog 7 #[.int .u8 u, .int .i64 v] w fun e w' => e = .returned (.bool true) ∧ Below w.heap.size w w' := by
  obtain ⟨r, hr⟩ : ∃ r, seatR 0 1 1 1 = r := ⟨_, rfl⟩
  have HR := hid hr
  have hrt : rightB r = true := by rw [← hr]; exact seat_right (by decide) (by decide) (by decide) (by decide)
  have hro : r.Ok := by rw [← hr]; exact seat_ok
  have hrs := (rt_of hrt).size
  clear hr
  have hq : u.tmod 6 = 5 := by rw [Int.tmod_eq_emod_of_nonneg u0, hc]
  obtain ⟨K, hq1⟩ : ∃ K : Nat, u / 6 = (K : Int) := ⟨(u / 6).toNat, by omega⟩
  have k43 : K < 43 := by omega
  have hq2 : u.tdiv 6 = (K : Int) := by rw [Int.tdiv_eq_ediv_of_nonneg u0, hq1]
  have hq3 : IntKind.u8.wrap (K : Int) = (K : Int) := by rw [IntKind.wrap_u8]; omega
  obtain ⟨x, hx, x0, x1⟩ : ∃ x, IntKind.u64.wrap v = x ∧ 0 ≤ x ∧ x < 18446744073709551616 := ⟨_, rfl, by rw [IntKind.wrap_u64]; omega, by rw [IntKind.wrap_u64]; omega⟩
  have g1 : ¬ (K : Int) ≤ 19 := by omega
  have g2 : decide ((K : Int) ≤ 19) = false := by simp; omega
  have HRT := hid hrt
  have HRO := hid hro
  clear hrt hro hrs
  go_enter Try.func7, Try.ntmps7
  go_wp2_with (first | (go_at_call 13; refine (rightR_any r' _ HS.out).mono ?_; rintro e w9 ⟨rfl, l9⟩; rw [HT.out]; have L9 := hid (sq L8.out l9); clear l9) | refine ldw29 V8.out _ rfl (by kernel_rfl) rfl ?_ | (go_at_call 12; refine (right_any r' _ HS.out).mono ?_; rintro e w8 ⟨rfl, l8⟩; rw [HT.out]; have V8 := hid (V7.out.below l8); have L8 := hid (sq L7.out l8); clear l8) | refine ld29 V7.out rfl _ rfl rfl ?_ | (go_at_call 10; refine (put_is r' _ HO.out HS.out (27) HZ.out).mono ?_; rintro e w7 ⟨pv, rfl, l7⟩; have V7 := hid (V6.out.below l7); have L7 := hid (sq L6.out l7); clear l7) | refine ld29 V6.out rfl _ rfl rfl ?_ | (refine rv_pan V4.out L4.out hb3 rfl _ _ rfl rfl rfl ?_; intro w6 v6 l6; rw [HR'.out] at v6; have V6 := hid v6; have L6 := hid l6; clear v6 l6) | (go_at_call 18; refine (digits18 x K _ x0 x1 (by omega)).mono ?_; rintro e w5 ⟨t5, rfl, s5, d5, rfl⟩; obtain ⟨r', hr'⟩ : ∃ r', ({ r with pan := t5 } : Rc) = r' := ⟨_, rfl⟩; have HR' := hid hr'; have HT : Hid (rightB r' = false) := (by unfold Hid; rw [← hr', pan_right HRT.out]; simp [panB, d5, s5]; omega); have HO : Hid r'.Ok := (by unfold Hid; rw [← hr']; exact HRO.out); have HS : Hid (r'.pan.size ≤ 9223372036854775807) := (by unfold Hid; rw [← hr']; show t5.size ≤ _; omega); have HZ : Hid ((27 : Int) = if rightB r' = true then 0 else 27) := (by unfold Hid; rw [HT.out]; rfl); clear hr' s5 d5) | (go_at_call 9; refine (rec9 0 1 1 1 _ (by decide) (by decide) (by decide) (by decide) (by decide) (by decide) (by decide) (by decide)).mono ?_; rintro e w2 ⟨rfl, l2⟩; rw [HR.out]; have L2 := hid (sq L1.out l2); clear l2) | (refine al29 rfl rfl ?_; intro b3 w3 hb3 v3 l3; have V3 := hid v3; have L3 := hid l3; clear v3 l3) | (refine st29 (r := r) V3.out L3.out hb3 rfl _ _ rfl rfl rfl ?_; intro w4 v4 l4; have V4 := hid v4; have L4 := hid l4; clear v4 l4) | (go_at_call 8; refine (known8 _).mono ?_; rintro e w1 ⟨rfl, l1⟩; have L1 := hid l1; clear l1))
  go_ret
  exact ⟨rfl, by first | exact sq L2.out L9.out | exact L9.out⟩
theorem right_walk (u v : Int) (w : World) (hu : 0 ≤ u ∧ u < 256) (_hv : -9223372036854775808 ≤ v ∧ v ≤ 9223372036854775807) :
    Calls Try.prog 7 #[.int .u8 u, .int .i64 v] w fun e w' => e = .returned (.bool true) ∧ Below w.heap.size w w' := by
  obtain ⟨u0, u1⟩ := hu
  have h6 : u % 6 = 0 ∨ u % 6 = 1 ∨ u % 6 = 2 ∨ u % 6 = 3 ∨ u % 6 = 4 ∨ u % 6 = 5 := by omega
  rcases h6 with h | h | h | h | h | h
  · by_cases h1 : v < 1
    · exact right_k_lo u v w u0 u1 h h1
    · by_cases h2 : 9 < v
      · exact right_k_hi u v w u0 u1 h h2
      · exact right_k_y u v w u0 u1 h (by omega) (by omega)
  · by_cases h1 : v < 0
    · exact right_a_lo u v w u0 u1 h h1
    · by_cases h2 : 1000000 < v
      · exact right_a_hi u v w u0 u1 h h2
      · exact right_a_y u v w u0 u1 h (by omega) (by omega)
  · by_cases h1 : v < 0
    · exact right_N_lo u v w u0 u1 h h1
    · by_cases h2 : 10000 < v
      · exact right_N_hi u v w u0 u1 h h2
      · exact right_N_y u v w u0 u1 h (by omega) (by omega)
  · by_cases h1 : v < 0
    · exact right_J_lo u v w u0 u1 h h1
    · by_cases h2 : 10000 < v
      · exact right_J_hi u v w u0 u1 h h2
      · exact right_J_y u v w u0 u1 h (by omega) (by omega)
  · by_cases h1 : v < 0
    · exact right_L_lo u v w u0 u1 h h1
    · by_cases h2 : 10000 < v
      · exact right_L_hi u v w u0 u1 h h2
      · exact right_L_y u v w u0 u1 h (by omega) (by omega)
  · by_cases h1 : u / 6 ≤ 19
    · exact right_P_y u v w u0 u1 h h1
    · exact right_P_hi u v w u0 u1 h (by omega)
theorem frameRight_own : ownKnob Try.prog.godebug = none := by kernel_rfl
theorem frameRight_laid : laidOutB Try.prog = true := by kernel_rfl

set_option maxRecDepth 100000 in
theorem frameRight_lifted (os : Os) (started : os.Started) (H : Type) (enc : TypeId × Value → H) :
    ReturnsInHanded {} Try.checked os 7 .any (Rows.frameRightSpec.pre6 enc Try.prog Try.f7 Rows.frameRightRow.domain false) (Rows.frameRightSpec.post enc Try.prog Try.f7 false true false false) := by
  refine returnsInHanded_of_change (C := Try.checked) frameRight_own started (by kernel_rfl) Try.func7
    (ChangeSpec.witness6 (enc := enc) (C := Try.checked) false ⟨#[], #[.int .u8 0, .int .i64 0], []⟩ 8 (by kernel_rfl) (by kernel_rfl) (by kernel_rfl) (by kernel_rfl)) ?_
  intro W base args ds gs before hval0 hW hcnd _
  have hval : ∀ (j : Nat) t v, Try.f7.params[j]? = some t → args[j]? = some v → Value.okWide Try.prog W .any base t v := hval0
  have hW' := hW
  obtain ⟨p, q, hA0, hV, rfl, hfz, hnd⟩ := hW
  have hA : DataW.TrodAll enc Try.prog W 0 (fun _ => true) true Try.f7.params.toList args.toList ds p := hA0
  rw [Try.params7] at hA hval
  obtain ⟨v0, vs0, d0, ds0, p0, q0, hargs, rfl, rfl, h0, r0⟩ := trodAll_cons hA
  obtain ⟨v1, vs1, d1, ds1, p1, q1, rfl, rfl, rfl, h1, r1⟩ := trodAll_cons r0
  obtain ⟨rfl, rfl, rfl⟩ := trodAll_nil r1
  obtain rfl : args = #[v0, v1] := by cases args; simp_all
  obtain ⟨rfl, rfl⟩ := trodVars_none hV
  obtain ⟨a0, rfl, rfl, rfl, w0⟩ := open_int Try.underlying5 (hval 0 5 v0 rfl rfl) h0
  obtain ⟨a1, rfl, rfl, rfl, w1⟩ := open_int Try.underlying2 (hval 1 2 v1 rfl rfl) h1
  clear hA0 hval0
  refine (right_walk a0 a1 W (by have := bounds_u8 w0; omega) (by have := bounds_i64 w1; omega)).mono fun e W' ⟨he, bel⟩ => ?_
  subst he
  exact ⟨_, rfl, _, _, _, [], _, [], hW', trodAll_mk1 (shut_bool Try.underlying4 _), (trodAll_cons_mk (shut_int Try.underlying5 w0) (trodAll_cons_mk (shut_int Try.underlying2 w1) trodAll_mk0)), rfl, bel.frame _, fun h => by cases h⟩

theorem frameRight_over : Rows.frameRightRow.holds Try.pinned (OpenSpec.ofChange Rows.frameRightSpec) :=
  OpenClaim.holds_of_wide 7 Try.f7 rfl rfl rfl rfl rfl rfl rfl ⟨rfl, rfl, rfl, rfl, rfl⟩ rfl rfl rfl rfl rfl (by kernel_rfl) Try.func7 (by kernel_rfl)
    (of_decide_eq_true (by kernel_rfl)) (by unfold Func.isWrapper; first | (rw [if_pos (by decide +kernel)]; kernel_rfl) | (rw [if_neg (by decide +kernel)]; exact ⟨rfl, rfl⟩))
    (fun os started H enc _ => frameRight_lifted os started H enc)

/-- The statement. -/
theorem frameRight_holds : Rows.FrameRightSaid := frameRight_over
#print axioms frameRight_holds
end Go.Proofs.Ytmojndacjngjpaa
