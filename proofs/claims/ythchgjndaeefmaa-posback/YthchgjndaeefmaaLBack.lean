/- PosBack: any request is a frame as the document says, or refused, and read back, with bad bytes ahead. For every input. -/
import Derived.Test.YthchgjndaeefmaaHand
import Derived.Test.YthchgjndaeefmaaWCat
import Derived.Deep.CutRange
namespace Go.Proofs.Ythchgjndaeefmaa
open Go.ChangeShapes Go.WideShapes Go.ChangeAt Go.RowKit

theorem info25 : (Try.prog.info? 25).map (fun i => (i.zero, i.size, i.bytes)) = some (some Ps.zero.val, 4, 32) := by kernel_rfl
theorem lt_msg {w : World} {b o : Nat} {r : Ps} (h : w.rangeAt b o r.cells) : b < w.heap.size := World.block_lt_of_cell? w _ (h 0 _ rfl)
/-- Two requests are laid side by side. -/
theorem bsP2 {ops : Array Oper} {rest : List Oper} {op : Oper} {a : Act} {w : World} {Q : Exit → Act → World → Prop} {r s : Ps} (hgd : op.guard = none) (x y : Operand) (ho : op.op = .buildSlice 29 2 #[(0, x), (1, y)]) (hx : a.eval x = r.val) (hy : a.eval y = s.val)
    (h : ∀ w' g, w'.rangeAt g 0 r.cells → w'.rangeAt g 4 s.cells → Below w.heap.size w w' → wpList Try.prog ops Q rest (a.put op.dst (.slice (some ⟨g, 0, none⟩) 2 2)) w') : wpList Try.prog ops Q (op :: rest) a w :=
  wpList_plain hgd fun K hK => by
  obtain ⟨i, hi, hz0, hz1, hz2⟩ := info_parts info25
  have hn := heap_alloc_new w (.cells (r.cells ++ s.cells).toArray 25)
  have hc : ∀ j, (w.alloc (.cells (r.cells ++ s.cells).toArray 25)).cell? ⟨w.heap.size, j, none⟩ = (r.cells ++ s.cells)[j]? := fun j => by rw [cell_of_head hn]; simp
  have h1 : (w.alloc (.cells (r.cells ++ s.cells).toArray 25)).rangeAt w.heap.size 0 r.cells := fun j v hv => by
    have hl := (List.getElem?_eq_some_iff.1 hv).1
    rw [Nat.zero_add, hc, List.getElem?_append_left hl]; exact hv
  have h2 : (w.alloc (.cells (r.cells ++ s.cells).toArray 25)).rangeAt w.heap.size 4 s.cells := fun j v hv => by
    rw [hc, List.getElem?_append_right (by rw [Ps.len]; omega), Ps.len, Nat.add_sub_cancel_left]; exact hv
  refine wp_buildSlice 29 25 2 _ ho (r.cells ++ s.cells).toArray i _ Try.underlying29 hi hz0 (by rw [hz1]; decide) (by rw [hz1]; decide) ?_ (hK _ _ (h _ _ h1 h2 (bel1 _ _)))
  have := Great.fill_whole (s := 4) (by decide) [r.val, s.val] ((Array.range (2 * i.size)).map (Ps.zero.val.cells[· % Ps.zero.val.cells.size]!))
    (by intro v hv; simp at hv; rcases hv with hv | hv <;> subst hv <;> simp [Ps.val, Value.cells, Ps.len]) (by simp [hz1])
  rw [hz1] at this ⊢
  simpa [hx, hy, Value.cells, Ps.val] using this
/-- Two requests that lie side by side; each may be held. -/
def Two (w : World) (g : Nat) : Prop := ∀ j, j < 2 → ∃ r : Ps, w.rangeAt g (j * 4) r.cells ∧ r.Ok ∧ r.pan.size ≤ 9223372036854775807
theorem Two.below {w w' : World} {g : Nat} (h : Two w g) (hb : Below w.heap.size w w') : Two w' g := fun j hj => by
  obtain ⟨r, h1, h2, h3⟩ := h j hj
  exact ⟨r, range_kept h1 (hb.block g (lt_msg h1)), h2, h3⟩
theorem ldO {ops : Array Oper} {rest : List Oper} {op : Oper} {a : Act} {w : World} {Q : Exit → Act → World → Prop} {b o : Nat} {r : Ps} (hr : w.rangeAt b o r.cells) (hgd : op.guard = none) (y : Operand) (ho : op.op = .load 25 y) (hx : a.eval y = .pointer (some ⟨b, o, none⟩))
    (h : wpList Try.prog ops Q rest (a.put op.dst r.val) w) : wpList Try.prog ops Q (op :: rest) a w := by
  obtain ⟨d, hu, hd⟩ := row25
  exact wpList_load_mid hgd 25 y ho b o hx r.cells d hr hu hd n25 h
set_option maxRecDepth 20000 in
set_option maxHeartbeats 16000000 in
theorem back_walk (raw : Ps) (k m : Int) (x3 : Option Addr) (y3 z3 : Nat) (la : List Int) (W : World) (ro : raw.Ok) (rp : raw.pan.size ≤ maxLen ∧ (-9223372036854775808 ≤ raw.amt ∧ raw.amt ≤ 9223372036854775807)) (hk : 0 ≤ k ∧ k < 256) (hm : 0 ≤ m ∧ m < 4294967296) (h3 : InB W x3 y3 z3 la) :
    Calls Try.prog 3 #[raw.val, .int .u8 k, .int .u32 m, .slice x3 y3 z3] W fun e w' => e = .returned (.bool true) ∧ Below W.heap.size W w' := by
  obtain ⟨rt, rs, pn, ra⟩ := raw
  have ot : 0 ≤ rt ∧ rt < 65536 := ro.term
  have os : 0 ≤ rs ∧ rs < 4294967296 := ro.seq
  obtain ⟨RW, hRW⟩ : ∃ R : Ps, (⟨rt, rs, pn, ra⟩ : Ps) = R := ⟨_, rfl⟩
  obtain ⟨sq6, hsq⟩ : ∃ v, rs % 1000000 = v := ⟨_, rfl⟩
  obtain ⟨mq, hmq⟩ : ∃ v, m % 1000001 = v := ⟨_, rfl⟩
  have es : rs.tmod 1000000 = sq6 := by rw [Int.tmod_eq_emod_of_nonneg os.1]; exact hsq
  have em : m.tmod 1000001 = mq := by rw [Int.tmod_eq_emod_of_nonneg hm.1]; exact hmq
  obtain ⟨PK, hPK⟩ : ∃ p, panK k = p := ⟨_, rfl⟩
  have HPK := hid hPK
  obtain ⟨X, hX⟩ : ∃ X : Ps, (⟨rt, sq6, PK, mq + 1⟩ : Ps) = X := ⟨_, rfl⟩
  have HXE := hid hX
  have XO : Hid X.Ok := by rw [← hX]; exact ⟨⟨by show 0 ≤ rt; omega, by show rt < 65536; omega⟩, by show 0 ≤ sq6; omega, by show sq6 < 4294967296; omega⟩
  have XP : Hid (X.pan.size ≤ 9223372036854775807) := by unfold Hid; rw [← hX]; show PK.size ≤ _; rw [← hPK]; have := panK_size k; omega
  have RO : Hid RW.Ok := by rw [← hRW]; exact ro
  have RP : Hid (RW.pan.size ≤ 9223372036854775807) := by rw [← hRW]; have := rp.1; unfold maxLen at this; exact this
  have HRW := hid hRW
  have K0 := hid True.intro
  have HK0 := hid hk.1
  have H3 := hid h3
  have HLA : Hid (la.length = y3) := h3.giv.leq
  have hz0 := h3.giv.cap1
  have hz1 := h3.giv.cap2
  obtain ⟨t0, t1⟩ := ot
  obtain ⟨s0, s1⟩ := os
  obtain ⟨m0, m1⟩ := hm
  obtain ⟨k0, k1⟩ := hk
  have q0 : 0 ≤ sq6 := by omega
  have q1 : sq6 < 1000000 := by omega
  have p0 : 0 ≤ mq := by omega
  have p1 : mq < 1000001 := by omega
  rw [hRW]
  clear hX hPK hRW hsq hmq ro rp h3
  by_cases h60 : 60 < pn.size
  · clear es em
    go_enter Try.func3, Try.ntmps3
    go_wp2_with (first | (go_at_call 6; have kill := L1.out; refine (known6 _).mono ?_; rintro e w2 ⟨rfl, l2⟩; have V2 := hid (V1.out.below l2); have B2 := hid (sq L1.out l2); have cp : w2.cell? ⟨b1, 2, none⟩ = some (.string pn) := (by have := V2.out; rw [← HRW.out] at this; exact this.cell 2 rfl); clear l2 kill V1 L1) | (refine bx25 (r := RW) rfl _ rfl rfl ?_; intro b1 w1 hb1 v1 l1; have V1 := hid v1; have L1 := hid l1; clear v1 l1))
    go_ret
    exact ⟨rfl, B2.out⟩
  by_cases h61 : 60 < y3
  · clear es em
    go_enter Try.func3, Try.ntmps3
    go_wp2_with (first | (go_at_call 6; have kill := L1.out; refine (known6 _).mono ?_; rintro e w2 ⟨rfl, l2⟩; have V2 := hid (V1.out.below l2); have B2 := hid (sq L1.out l2); have cp : w2.cell? ⟨b1, 2, none⟩ = some (.string pn) := (by have := V2.out; rw [← HRW.out] at this; exact this.cell 2 rfl); clear l2 kill V1 L1) | (refine bx25 (r := RW) rfl _ rfl rfl ?_; intro b1 w1 hb1 v1 l1; have V1 := hid v1; have L1 := hid l1; clear v1 l1))
    go_ret
    exact ⟨rfl, B2.out⟩
  have d60 : decide ((60 : Int) < (pn.size : Int)) = false := decide_eq_false (by omega)
  have d61 : decide ((60 : Int) < (y3 : Int)) = false := decide_eq_false (by omega)
  go_enter Try.func3, Try.ntmps3
  go_upto_region 5 with (first | (go_at_call 6; have kill := L1.out; refine (known6 _).mono ?_; rintro e w2 ⟨rfl, l2⟩; have V2 := hid (V1.out.below l2); have B2 := hid (sq L1.out l2); have cp : w2.cell? ⟨b1, 2, none⟩ = some (.string pn) := (by have := V2.out; rw [← HRW.out] at this; exact this.cell 2 rfl); clear l2 kill V1 L1) | (refine bx25 (r := RW) rfl _ rfl rfl ?_; intro b1 w1 hb1 v1 l1; have V1 := hid v1; have L1 := hid l1; clear v1 l1))
  have cq0 : Hid (w2.cell? ⟨b1, 0, none⟩ = some (.int .u16 rt)) := by have := V2.out; rw [← HRW.out] at this; exact this.cell 0 rfl
  have cq1 : Hid (w2.cell? ⟨b1, 1, none⟩ = some (.int .u32 rs)) := by have := V2.out; rw [← HRW.out] at this; exact this.cell 1 rfl
  have HB1 : Hid (b1 < w2.heap.size) := V2.out.lt
  go_cut [9] from 37 to 48 (fun v wx => ∃ b, v = .pointer (some ⟨b, 0, none⟩) ∧ RV wx b X ∧ RV wx b1 RW ∧ Below W.heap.size W wx)
  case first =>
    have fs : IntKind.u32.wrap sq6 = sq6 := by rw [IntKind.wrap_u32]; omega
    have fm : IntKind.u32.wrap mq = mq := by rw [IntKind.wrap_u32]; omega
    have fm2 : IntKind.i64.wrap mq = mq := by rw [IntKind.wrap_i64]; omega
    have fm3 : IntKind.i64.wrap (mq + 1) = mq + 1 := by rw [IntKind.wrap_i64]; omega
    refine wp_region_noPanic ?_
    refine wp_region_held_drew (S := (fun w' : World => w'.cell? ⟨b1, 0, none⟩ = some (.int .u16 rt) ∧ w'.cell? ⟨b1, 1, none⟩ = some (.int .u32 rs))) (by kernel_rfl) ⟨cq0.out, cq1.out⟩ (fun hHeld => ?_)
    have BD := hid (B2.out.drew)
    have hh0 : (fun w' : World => w'.cell? ⟨b1, 0, none⟩ = some (.int .u16 rt) ∧ w'.cell? ⟨b1, 1, none⟩ = some (.int .u32 rs)) w2.drew := ⟨cellkept cq0.out (Below.refl _ w2).drew, cellkept cq1.out (Below.refl _ w2).drew⟩
    have HH0 := hid hh0
    clear hh0
    have VD : Hid (RV w2.drew b1 RW) := hid (V2.out.below (Below.refl _ w2).drew)
    (refine tk_yes (v := ?_) 0 (some 37) rfl rfl (by kernel_rfl) (by kernel_rfl) (by kernel_rfl) (fun _ _ _ h => h) (by rfl) ?_ hHeld ?_; rotate_left; focus (intro w hSw; go_simp; try with_reducible rfl))
    simp only [Act.put, List.setIfInBounds_toArray, List.set_cons_zero, List.set_cons_succ]
    (refine tk_yes (v := ?_) 2 (some 39) rfl rfl (by kernel_rfl) (by kernel_rfl) (by kernel_rfl) (fun _ _ _ h => h) (by rfl) ?_ hHeld ?_; rotate_left; focus (intro w hSw; go_simp; try with_reducible rfl))
    simp only [Act.put, List.setIfInBounds_toArray, List.set_cons_zero, List.set_cons_succ]
    (refine tk_yes (v := ?_) 5 (some 42) rfl rfl (by kernel_rfl) (by kernel_rfl) (by kernel_rfl) (fun _ _ _ h => h) (by rfl) ?_ hHeld ?_; rotate_left; focus (intro w hSw; go_simp; try with_reducible rfl))
    simp only [Act.put, List.setIfInBounds_toArray, List.set_cons_zero, List.set_cons_succ]
    (refine tk_yes (v := ?_) 7 (some 44) rfl rfl (by kernel_rfl) (by kernel_rfl) (by kernel_rfl) (fun _ _ _ h => h) (by rfl) ?_ hHeld ?_; rotate_left; focus (intro w hSw; go_simp; try with_reducible rfl))
    simp only [Act.put, List.setIfInBounds_toArray, List.set_cons_zero, List.set_cons_succ]
    (refine tk_yes (v := ?_) 8 (some 45) rfl rfl (by kernel_rfl) (by kernel_rfl) (by kernel_rfl) (fun _ _ _ h => h) (by rfl) ?_ hHeld ?_; rotate_left; focus (intro w hSw; go_simp; try with_reducible rfl))
    simp only [Act.put, List.setIfInBounds_toArray, List.set_cons_zero, List.set_cons_succ]
    (refine tk_yes (v := ?_) 9 (some 46) rfl rfl (by kernel_rfl) (by kernel_rfl) (by kernel_rfl) (fun _ _ _ h => h) (by rfl) ?_ hHeld ?_; rotate_left; focus (intro w hSw; go_simp; try with_reducible rfl))
    simp only [Act.put, List.setIfInBounds_toArray, List.set_cons_zero, List.set_cons_succ]
    (refine tk_yes (v := ?_) 10 (some 47) rfl rfl (by kernel_rfl) (by kernel_rfl) (by kernel_rfl) (fun _ _ _ h => h) (by rfl) ?_ hHeld ?_; rotate_left; focus (intro w hSw; go_simp; try with_reducible rfl))
    simp only [Act.put, List.setIfInBounds_toArray, List.set_cons_zero, List.set_cons_succ]
    (refine tk_yes (v := .int .u16 rt) 1 (some 38) rfl rfl (by kernel_rfl) (by kernel_rfl) (by kernel_rfl) (fun _ _ _ h => h) (by rfl) ?_ hHeld ?_; focus (intro w hSw; have h := hSw.1; go_simp; try with_reducible rfl))
    simp only [Act.put, List.setIfInBounds_toArray, List.set_cons_zero, List.set_cons_succ]
    (refine tk_yes (v := .int .u32 rs) 3 (some 40) rfl rfl (by kernel_rfl) (by kernel_rfl) (by kernel_rfl) (fun _ _ _ h => h) (by rfl) ?_ hHeld ?_; focus (intro w hSw; have h := hSw.2; go_simp; try with_reducible rfl))
    simp only [Act.put, List.setIfInBounds_toArray, List.set_cons_zero, List.set_cons_succ]
    (refine tk_yes (v := ?_) 4 (some 41) rfl rfl (by kernel_rfl) (by kernel_rfl) (by kernel_rfl) (fun _ _ _ h => h) (by rfl) ?_ hHeld ?_; rotate_left; focus (intro w hSw; go_simp; try with_reducible rfl))
    simp only [Act.put, List.setIfInBounds_toArray, List.set_cons_zero, List.set_cons_succ]
    refine wpAnyH_ready (rs := [6, 12]) (by kernel_rfl) (by simp) ?_
    refine AllReadyH.cons rfl (fun K hK => ?_) (AllReadyH.cons rfl (fun K hK => ?_) AllReadyH.nil)
    · go_simp
      go_at_call 7
      refine (pan7 k _ HK0.out).mono ?_
      rintro e wk1 ⟨rfl, l1⟩
      rw [HPK.out]
      have BK := hid (sq BD.out l1)
      have VK := hid (VD.out.below l1)
      have hh1 : (fun w' : World => w'.cell? ⟨b1, 0, none⟩ = some (.int .u16 rt) ∧ w'.cell? ⟨b1, 1, none⟩ = some (.int .u32 rs)) wk1 := ⟨cellkept hHeld.1 l1, cellkept hHeld.2 l1⟩
      have HH1 := hid hh1
      clear hh1
      go_wp2_with fail
      refine hK.out _ _ HH1.out (fun hHeld => ?_)
      clear hK K l1 BD VD
      try simp only [Act.put, List.setIfInBounds_toArray, List.set_cons_zero, List.set_cons_succ]
      (refine tk_yes (v := X.val) 11 (some 48) rfl rfl (by kernel_rfl) (by kernel_rfl) (by kernel_rfl) (fun _ _ _ h => h) (by rfl) ?_ hHeld ?_; focus (intro w hSw; exact run_bd25 (r := X) _ _ _ _ rfl (by rw [← HXE.out]; rfl) (by rw [← HXE.out]; rfl) (by rw [← HXE.out]; rfl) (by rw [← HXE.out]; rfl) w))
      simp only [Act.put, List.setIfInBounds_toArray, List.set_cons_zero, List.set_cons_succ]
      refine wpAnyH_ready (rs := [12]) (by kernel_rfl) (by simp) ?_
      refine AllReadyH.cons rfl (fun K hK => ?_) AllReadyH.nil
      refine step_of (o := { dst := some 9, op := _, type := _, pos := _, after := _, guard := none }) rfl (al25w rfl ?_)
      intro b9 wz hb9 v9 l9
      have VZ := hid v9
      have LZ := hid l9
      have BA := hid (sq BK.out l9)
      have VA := hid (VK.out.below l9)
      have hh2 : (fun w' : World => w'.cell? ⟨b1, 0, none⟩ = some (.int .u16 rt) ∧ w'.cell? ⟨b1, 1, none⟩ = some (.int .u32 rs)) wz := ⟨cellkept hHeld.1 l9, cellkept hHeld.2 l9⟩
      have HH2 := hid hh2
      clear hh2
      refine hK.out _ _ HH2.out (fun hHeld => ?_)
      clear hK K v9 l9
      try simp only [Act.put, List.setIfInBounds_toArray, List.set_cons_zero, List.set_cons_succ]
      refine wpAnyH_ready (rs := [13]) (by kernel_rfl) (by simp) ?_
      refine AllReadyH.cons rfl (fun K hK => ?_) AllReadyH.nil
      refine step_of (o := { dst := none, op := _, type := _, pos := _, after := _, guard := none }) rfl (st25w (r := X) VZ.out LZ.out hb9 _ _ rfl rfl rfl ?_)
      intro ws vs ls
      have XS := hid vs
      have VS := hid (VK.out.below ls)
      have BS := hid (sq BK.out ls)
      have hh3 : (fun w' : World => w'.cell? ⟨b1, 0, none⟩ = some (.int .u16 rt) ∧ w'.cell? ⟨b1, 1, none⟩ = some (.int .u32 rs)) ws := ⟨cellkept HH1.out.1 ls, cellkept HH1.out.2 ls⟩
      have HH3 := hid hh3
      clear hh3
      refine hK.out _ _ HH3.out (fun hHeld => ?_)
      clear hK K vs ls
      refine wpAnyH_done (by kernel_rfl) ?_ _
      refine NoPanic.normal ?_
      go_wp2_with fail
      go_meet
      case rel => exact ⟨b9, rfl, XS.out, VS.out, BS.out⟩
    · refine step_of (o := { dst := some 9, op := _, type := _, pos := _, after := _, guard := none }) rfl (al25w rfl ?_)
      intro b9 wz hb9 v9 l9
      have VZ := hid v9
      have LZ := hid l9
      have BA := hid (sq BD.out l9)
      have VA := hid (VD.out.below l9)
      have hh2 : (fun w' : World => w'.cell? ⟨b1, 0, none⟩ = some (.int .u16 rt) ∧ w'.cell? ⟨b1, 1, none⟩ = some (.int .u32 rs)) wz := ⟨cellkept hHeld.1 l9, cellkept hHeld.2 l9⟩
      have HH2 := hid hh2
      clear hh2
      refine hK.out _ _ HH2.out (fun hHeld => ?_)
      clear hK K v9 l9
      try simp only [Act.put, List.setIfInBounds_toArray, List.set_cons_zero, List.set_cons_succ]
      refine wpAnyH_ready (rs := [6]) (by kernel_rfl) (by simp) ?_
      refine AllReadyH.cons rfl (fun K hK => ?_) AllReadyH.nil
      go_simp
      go_at_call 7
      refine (pan7 k _ HK0.out).mono ?_
      rintro e wk1 ⟨rfl, l1⟩
      rw [HPK.out]
      have VZ1 := hid (VZ.out.below l1)
      have LZ1 := hid (sq LZ.out l1)
      have hh1 : (fun w' : World => w'.cell? ⟨b1, 0, none⟩ = some (.int .u16 rt) ∧ w'.cell? ⟨b1, 1, none⟩ = some (.int .u32 rs)) wk1 := ⟨cellkept hHeld.1 l1, cellkept hHeld.2 l1⟩
      have HH1 := hid hh1
      clear hh1
      go_wp2_with fail
      refine hK.out _ _ HH1.out (fun hHeld => ?_)
      clear hK K l1
      try simp only [Act.put, List.setIfInBounds_toArray, List.set_cons_zero, List.set_cons_succ]
      (refine tk_yes (v := X.val) 11 (some 48) rfl rfl (by kernel_rfl) (by kernel_rfl) (by kernel_rfl) (fun _ _ _ h => h) (by rfl) ?_ hHeld ?_; focus (intro w hSw; exact run_bd25 (r := X) _ _ _ _ rfl (by rw [← HXE.out]; rfl) (by rw [← HXE.out]; rfl) (by rw [← HXE.out]; rfl) (by rw [← HXE.out]; rfl) w))
      simp only [Act.put, List.setIfInBounds_toArray, List.set_cons_zero, List.set_cons_succ]
      refine wpAnyH_ready (rs := [13]) (by kernel_rfl) (by simp) ?_
      refine AllReadyH.cons rfl (fun K hK => ?_) AllReadyH.nil
      have hq1 := HH0.out.1
      have hq2 := HH0.out.2
      refine step_of (o := { dst := none, op := _, type := _, pos := _, after := _, guard := none }) rfl (st25w (r := X) VZ1.out LZ1.out hb9 _ _ rfl rfl rfl ?_)
      intro ws vs ls
      have XS := hid vs
      have VS := hid (VD.out.below ls)
      have BS := hid (sq BD.out ls)
      have hh3 : (fun w' : World => w'.cell? ⟨b1, 0, none⟩ = some (.int .u16 rt) ∧ w'.cell? ⟨b1, 1, none⟩ = some (.int .u32 rs)) ws := ⟨cellkept hq1 ls, cellkept hq2 ls⟩
      have HH3 := hid hh3
      clear hh3
      refine hK.out _ _ HH3.out (fun hHeld => ?_)
      clear hK K vs ls
      refine wpAnyH_done (by kernel_rfl) ?_ _
      refine NoPanic.normal ?_
      go_wp2_with fail
      go_meet
      case rel => exact ⟨b9, rfl, XS.out, VS.out, BS.out⟩
  case rest =>
    obtain ⟨b9, rfl, x9, r9, l9⟩ := hcut
    have X9 := hid x9
    have R9 := hid r9
    have B9 := hid l9
    clear x9 r9 l9 V2 B2 cp cq0 cq1 HB1 es em
    go_upto_region 7 with (first | (refine bsP2 (r := RW) (s := X) rfl _ _ rfl rfl rfl ?_; intro wt g hr0 hr1 lt; have HR0 := hid hr0; have HR1 := hid hr1; have BT := hid (sq B9.out lt); clear hr0 hr1 lt) | (have kill := X9.out; refine ld25 X9.out rfl _ rfl rfl ?_) | (have kill := R9.out; refine ld25 R9.out rfl _ rfl rfl ?_))
    have TW : Hid (Two wt g) := fun j hj => by
      have h01 : j = 0 ∨ j = 1 := by omega
      rcases h01 with rfl | rfl
      · exact ⟨RW, HR0.out, RO.out, RP.out⟩
      · exact ⟨X, HR1.out, XO.out, XP.out⟩
    clear HR0 HR1 X9 R9 B9
    go_loopw [53] (fun i wr => ∃ j : Nat, j ≤ 2 ∧ i = .int .i64 (j : Int) ∧ Two wr g ∧ Below W.heap.size W wr) (fun i _ => 2 - (intOf i).toNat)
    case atStart => exact ⟨0, by omega, rfl, TW.out, BT.out⟩
    case round =>
      obtain ⟨j, hj, rfl, htw, hbr⟩ := hrel
      have T2 := hid htw
      have BR := hid hbr
      clear htw hbr TW BT
      have h012 : j = 0 ∨ j = 1 ∨ j = 2 := by omega
      rcases h012 with rfl | rfl | rfl
      · obtain ⟨r, hr, ro, rp⟩ := T2.out 0 (by omega)
        have HRR : Hid (wr.rangeAt g 0 r.cells) := hr
        have RO1 := hid ro
        have RP1 := hid rp
        clear hr ro rp
        obtain ⟨PL, hPL⟩ : ∃ l, putL r = l := ⟨_, rfl⟩
        obtain ⟨PE, hPE⟩ : ∃ l, putE r = l := ⟨_, rfl⟩
        obtain ⟨RL, hRL⟩ : ∃ l, rightL r = l := ⟨_, rfl⟩
        obtain ⟨S, hS⟩ : ∃ l, strOfNums PL = l := ⟨_, rfl⟩
        have HPL := hid hPL
        have HPE := hid hPE
        have HRL := hid hRL
        have HS := hid hS
        clear hPL hPE hRL hS
        go_upto_region 11 with (first | (go_at_call 9; have kill := D5.out; refine (put9 r _ RO1.out RP1.out).mono ?_; rintro e w6 ⟨a6, n6, c6, rfl, d6⟩; rw [HPL.out] at d6; rw [HPE.out]; have D6 := hid d6; have E6 := hid (D5.out.more d6.2); have R6 := hid (R5.out.below d6.2); have T6 := hid (T5.out.below d6.2); have B6 := hid (sq B5.out d6.2); clear d6 kill D5 R5 B5 T5) | (have kill := D5.out; refine ld25 R5.out rfl _ rfl rfl ?_) | (go_at_call 8; have kill := B4.out; refine (put8 r _ RO1.out RP1.out).mono ?_; rintro e w5 ⟨a5, n5, c5, rfl, d5⟩; rw [HPL.out] at d5; rw [HPE.out]; have D5 := hid d5; have R5 := hid (R4.out.below d5.2); have T5 := hid (T4.out.below d5.2); have B5 := hid (sq B4.out d5.2); clear d5 kill B4 R4 T4) | (have kill := R4.out; refine ld25 R4.out rfl _ rfl rfl ?_) | (have kill := R3.out; refine st25 (r := r) R3.out L3.out hb12 rfl _ _ rfl rfl rfl ?_; intro w4 v4 l4; have R4 := hid v4; have B4 := hid (sq BR.out l4); have T4 := hid (T2.out.below l4); clear v4 l4 kill R3 L3 BR T2) | (refine al25 rfl rfl ?_; intro b12 w3 hb12 v3 l3; have R3 := hid v3; have L3 := hid l3; clear v3 l3) | (have kill := HRR.out; refine ldO HRR.out rfl _ rfl rfl ?_))
        have CX := hid (fun w (h : RowAt w a5 PL) => run_str w a5 PL n5 c5 E6.out.1.len h)
        have CY := hid (fun w (h : RowAt w a6 PL) => run_str w a6 PL n6 c6 D6.out.1.len h)
        rw [HS.out] at CX CY
        refine wp_region_noPanic ?_
        refine wp_region_held_drew (S := (fun w' : World => w'.rangeAt b12 0 r.cells ∧ (RowAt w' a5 PL ∧ RowAt w' a6 PL))) (by kernel_rfl) ⟨R6.out.at0, E6.out.1.at, D6.out.1.at⟩ (fun hHeld => ?_)
        have QZ : Hid (Below w6.heap.size w6 w6.drew) := (Below.refl _ w6).drew
        (refine tk_yes (v := ?_) 0 (some 67) rfl rfl (by kernel_rfl) (by kernel_rfl) (by kernel_rfl) (fun _ _ _ h => h) (by rfl) ?_ hHeld ?_; rotate_left; focus (intro w hSw; go_simp; try with_reducible rfl))
        simp only [Act.put, List.setIfInBounds_toArray, List.set_cons_zero, List.set_cons_succ]
        (refine tk_yes (v := .string S) 1 (some 68) rfl rfl (by kernel_rfl) (by kernel_rfl) (by kernel_rfl) (fun _ _ _ h => h) (by rfl) ?_ hHeld ?_; focus (intro w hSw; have hcv := CX.out w hSw.2.1; go_simp; try with_reducible rfl))
        simp only [Act.put, List.setIfInBounds_toArray, List.set_cons_zero, List.set_cons_succ]
        (refine tk_yes (v := ?_) 2 (some 69) rfl rfl (by kernel_rfl) (by kernel_rfl) (by kernel_rfl) (fun _ _ _ h => h) (by rfl) ?_ hHeld ?_; rotate_left; focus (intro w hSw; go_simp; try with_reducible rfl))
        simp only [Act.put, List.setIfInBounds_toArray, List.set_cons_zero, List.set_cons_succ]
        (refine tk_yes (v := .string S) 3 (some 70) rfl rfl (by kernel_rfl) (by kernel_rfl) (by kernel_rfl) (fun _ _ _ h => h) (by rfl) ?_ hHeld ?_; focus (intro w hSw; have hcv := CY.out w hSw.2.2; go_simp; try with_reducible rfl))
        simp only [Act.put, List.setIfInBounds_toArray, List.set_cons_zero, List.set_cons_succ]
        (refine tk_yes (v := ?_) 4 (some 71) rfl rfl (by kernel_rfl) (by kernel_rfl) (by kernel_rfl) (fun _ _ _ h => h) (by rfl) ?_ hHeld ?_; rotate_left; focus (intro w hSw; go_simp; try with_reducible rfl))
        simp only [Act.put, List.setIfInBounds_toArray, List.set_cons_zero, List.set_cons_succ]
        (refine tk_yes (v := ?_) 5 (some 72) rfl rfl (by kernel_rfl) (by kernel_rfl) (by kernel_rfl) (fun _ _ _ h => h) (by rfl) ?_ hHeld ?_; rotate_left; focus (intro w hSw; go_simp; try with_reducible rfl))
        simp only [Act.put, List.setIfInBounds_toArray, List.set_cons_zero, List.set_cons_succ]
        (refine tk_yes (v := ?_) 6 (some 73) rfl rfl (by kernel_rfl) (by kernel_rfl) (by kernel_rfl) (fun _ _ _ h => h) (by rfl) ?_ hHeld ?_; rotate_left; focus (intro w hSw; go_simp; try with_reducible rfl))
        simp only [Act.put, List.setIfInBounds_toArray, List.set_cons_zero, List.set_cons_succ]
        (refine tk_yes (v := ?_) 7 (some 74) rfl rfl (by kernel_rfl) (by kernel_rfl) (by kernel_rfl) (fun _ _ _ h => h) (by rfl) ?_ hHeld ?_; rotate_left; focus (intro w hSw; go_simp; try with_reducible rfl))
        simp only [Act.put, List.setIfInBounds_toArray, List.set_cons_zero, List.set_cons_succ]
        (refine tk_yes (v := ?_) 8 (some 75) rfl rfl (by kernel_rfl) (by kernel_rfl) (by kernel_rfl) (fun _ _ _ h => h) (by rfl) ?_ hHeld ?_; rotate_left; focus (intro w hSw; go_simp; try with_reducible rfl))
        simp only [Act.put, List.setIfInBounds_toArray, List.set_cons_zero, List.set_cons_succ]
        (refine tk_yes (v := ?_) 9 (some 76) rfl rfl (by kernel_rfl) (by kernel_rfl) (by kernel_rfl) (fun _ _ _ h => h) (by rfl) ?_ hHeld ?_; rotate_left; focus (intro w hSw; go_simp; try with_reducible rfl))
        simp only [Act.put, List.setIfInBounds_toArray, List.set_cons_zero, List.set_cons_succ]
        (refine tk_yes (v := ?_) 10 (some 77) rfl rfl (by kernel_rfl) (by kernel_rfl) (by kernel_rfl) (fun _ _ _ h => h) (by rfl) ?_ hHeld ?_; rotate_left; focus (intro w hSw; go_simp; try with_reducible rfl))
        simp only [Act.put, List.setIfInBounds_toArray, List.set_cons_zero, List.set_cons_succ]
        refine tk_ps 11 (some 78) r rfl rfl (by kernel_rfl) (by kernel_rfl) (by kernel_rfl) (fun _ _ _ h => h) (by rfl) _ rfl rfl (fun w hSw => hSw.1) hHeld ?_
        simp only [Act.put, List.setIfInBounds_toArray, List.set_cons_zero, List.set_cons_succ]
        refine tk_ps 13 (some 80) r rfl rfl (by kernel_rfl) (by kernel_rfl) (by kernel_rfl) (fun _ _ _ h => h) (by rfl) _ rfl rfl (fun w hSw => hSw.1) hHeld ?_
        simp only [Act.put, List.setIfInBounds_toArray, List.set_cons_zero, List.set_cons_succ]
        refine wpAnyH_ready (rs := [12]) (by kernel_rfl) (by simp) ?_
        refine AllReadyH.cons rfl (fun K hK => ?_) AllReadyH.nil
        go_simp
        go_at_call 10
        refine (right10 r _ RP1.out).mono ?_
        rintro e wk1 ⟨rfl, l1⟩
        rw [HRL.out]
        have QB1 := hid (sq QZ.out l1)
        have HH1 : Hid (wk1.rangeAt b12 0 r.cells ∧ (RowAt wk1 a5 PL ∧ RowAt wk1 a6 PL)) := ⟨range_kept hHeld.1 (l1.block _ (lt_msg hHeld.1)), row_mono l1 hHeld.2.1, row_mono l1 hHeld.2.2⟩
        go_wp2_with fail
        refine hK.out _ _ HH1.out (fun hHeld => ?_)
        clear hK K l1
        try simp only [Act.put, List.setIfInBounds_toArray, List.set_cons_zero, List.set_cons_succ]
        refine wpAnyH_ready (rs := [14]) (by kernel_rfl) (by simp) ?_
        refine AllReadyH.cons rfl (fun K hK => ?_) AllReadyH.nil
        go_simp
        go_at_call 11
        refine (right11 r _ RP1.out).mono ?_
        rintro e wk2 ⟨rfl, l2⟩
        rw [HRL.out]
        have QB2 := hid (sq QB1.out l2)
        have HH2 : Hid (wk2.rangeAt b12 0 r.cells ∧ (RowAt wk2 a5 PL ∧ RowAt wk2 a6 PL)) := ⟨range_kept hHeld.1 (l2.block _ (lt_msg hHeld.1)), row_mono l2 hHeld.2.1, row_mono l2 hHeld.2.2⟩
        go_wp2_with fail
        refine hK.out _ _ HH2.out (fun hHeld => ?_)
        clear hK K l2
        try simp only [Act.put, List.setIfInBounds_toArray, List.set_cons_zero, List.set_cons_succ]
        (refine tk_yes (v := ?_) 15 (some 82) rfl rfl (by kernel_rfl) (by kernel_rfl) (by kernel_rfl) (fun _ _ _ h => h) (by rfl) ?_ hHeld ?_; rotate_left; focus (intro w hSw; go_simp; try with_reducible rfl))
        simp only [Act.put, List.setIfInBounds_toArray, List.set_cons_zero, List.set_cons_succ]
        (refine tk_yes (v := ?_) 16 (some 83) rfl rfl (by kernel_rfl) (by kernel_rfl) (by kernel_rfl) (fun _ _ _ h => h) (by rfl) ?_ hHeld ?_; rotate_left; focus (intro w hSw; go_simp; try with_reducible rfl))
        simp only [Act.put, List.setIfInBounds_toArray, List.set_cons_zero, List.set_cons_succ]
        refine wpAnyH_done (by kernel_rfl) ?_ _
        refine NoPanic.normal ?_
        have R7 := hid (R6.out.below QB2.out)
        have T7 := hid (T6.out.below QB2.out)
        have B7 := hid (sq B6.out QB2.out)
        have E7 := hid (E6.out.more QB2.out)
        clear R6 T6 B6 E6 D6 CX CY QZ QB1 QB2 HH1 HH2 hHeld
        cases RL
        · have e27 : PE = 27 := by rw [← HPE.out]; exact putE_no HRL.out
          subst e27
          go_wp2
          go_roundw
          case rel => exact ⟨0 + 1, by omega, by go_num, T7.out, B7.out⟩
          case measure => simp [intOf]
        · have e0 : PE = 0 := by rw [← HPE.out]; exact putE_yes HRL.out
          subst e0
          have HPLN : Hid (PL.length = n5) := E7.out.1.len
          have HRD : Hid (rdP PL = r ∧ ufN PL = n5 ∧ rdE PL = 0) := by
            have h := read_back RO1.out HRL.out
            rw [HPL.out] at h
            exact ⟨h.1, h.2.2.trans HPLN.out, h.2.1⟩
          have HPB : Hid (Byt PL) := by rw [← HPL.out]; exact putL_byt r
          have HPN2 : Hid (PL.length ≤ 46) := by unfold Hid; rw [← HPL.out, putL_len HRL.out]; have := (right_parts HRL.out).p2; omega
          have HAB : Hid (Byt (la ++ PL)) := hid (byt_app H3.out.giv.byt HPB.out)
          obtain ⟨RA, hRA⟩ : ∃ v, rdP (la ++ PL) = v := ⟨_, rfl⟩
          obtain ⟨NA, hNA⟩ : ∃ v, ufN (la ++ PL) = v := ⟨_, rfl⟩
          obtain ⟨EA, hEA⟩ : ∃ v, rdE (la ++ PL) = v := ⟨_, rfl⟩
          have HRA := hid (And.intro hRA (And.intro hNA hEA))
          clear hRA hNA hEA
          have qg := fun x y w => (eqg25 r r x y w).2
          have qb : ∀ w, (binOp .neq 25 r.val r.val).run Try.prog w = .ok (.bool false) w := fun w => by
            have h := (gbin r r w).2; simpa using h
          have qg2 := fun x y w => (eqg25 RA RA x y w).2
          have qb2 : ∀ w, (binOp .neq 25 RA.val RA.val).run Try.prog w = .ok (.bool false) w := fun w => by
            have h := (gbin RA RA w).2; simpa using h
          go_wp2_with (first | (have kill := Y15.out; refine ld25 X15.out rfl _ rfl rfl ?_) | (have kill := Y15.out; refine ld25 Y15.out rfl _ rfl rfl ?_) | (have kill := Y14.out; refine st25 (r := RA) Y14.out Z14.out hb23 rfl _ _ rfl rfl rfl ?_; intro w15 v15 l15; have Y15 := hid v15; have X15 := hid (X14.out.below l15); have T15 := hid (T14.out.below l15); have B15 := hid (sq B14.out l15); clear v15 l15 kill Y14 Z14 X14 T14 B14) | (have kill := X14.out; refine al25 rfl rfl ?_; intro b23 w14' hb23 v14 l14; have Y14 := hid v14; have Z14 := hid l14; clear v14 l14 kill) | (go_at_call 13; have kill := X13.out; refine (read13 _ _ _ (la ++ PL) _ (M13.out.given HAB.out) (by have h1 := HPN2.out; have h2 := HLA.out; have h3 := HPLN.out; omega)).mono ?_; rintro e w14 ⟨rfl, l14⟩; rw [HRA.out.1, HRA.out.2.1, HRA.out.2.2]; have X14 := hid (X13.out.below l14); have T14 := hid (T13.out.below l14); have B14 := hid (sq B13.out l14); clear l14 kill X13 T13 B13 M13) | (have kill := Y12.out; refine st25 (r := RA) Y12.out Z12.out hb20 rfl _ _ rfl rfl rfl ?_; intro w13 v13 l13; have X13 := hid v13; have M13 := hid (M12.out.more l13); have T13 := hid (T12.out.below l13); have B13 := hid (sq B12.out l13); clear v13 l13 kill Y12 Z12 M12 T12 B12) | (have kill := M12.out; refine al25 rfl rfl ?_; intro b20 w12' hb20 v12 l12; have Y12 := hid v12; have Z12 := hid l12; clear v12 l12 kill) | (go_at_call 12; have kill := M11.out; refine (read12 _ _ _ (la ++ PL) _ (M11.out.given HAB.out) (by have h1 := HPN2.out; have h2 := HLA.out; have h3 := HPLN.out; omega)).mono ?_; rintro e w12 ⟨rfl, l12⟩; rw [HRA.out.1, HRA.out.2.1, HRA.out.2.2]; have M12 := hid (M11.out.more l12); have T12 := hid (T11.out.below l12); have B12 := hid (sq B11.out l12); clear l12 kill M11 T11 B11) | (at_builtin; have kill := M10.out; refine app_row (l2 := PL) M10.out.1 E10.out.1.at HPLN.out E10.out.1.caps.1 M10.out.2.size (by have h1 := HPN2.out; have h2 := HLA.out; have h3 := HPLN.out; omega) rfl _ _ rfl rfl rfl ?_; intro a11 c11 w11 r11 t11; have M11 := hid (M10.out.next r11 t11); have T11 := hid (T9.out.below M11.out.2); have B11 := hid (sq B9.out M11.out.2); clear r11 t11 kill M10 E10 T9 B9) | (at_builtin; have kill := E9.out; refine app_none (H3.out.giv.below B9.out).row HLA.out H3.out.nil (by omega) rfl _ _ rfl rfl rfl ?_; intro a10 c10 w10 m10; have M10 := hid m10; have E10 := hid (E9.out.more m10.2); clear m10 kill E9) | (have kill := X9.out; refine ld25 X9.out rfl _ rfl rfl ?_) | (have kill := R9.out; refine ld25 R9.out rfl _ rfl rfl ?_) | (have kill := X8.out; refine st25 (r := r) X8.out L8.out hb17 rfl _ _ rfl rfl rfl ?_; intro w9 v9 l9; have X9 := hid v9; have R9 := hid (R8.out.below l9); have T9 := hid (T8.out.below l9); have B9 := hid (sq B8.out l9); have E9 := hid (E8.out.more l9); clear v9 l9 kill X8 L8 R8 T8 B8 E8) | (refine al25 rfl rfl ?_; have kill := R8.out; intro b17 w8' hb17 v8 l8; have X8 := hid v8; have L8 := hid l8; clear v8 l8 kill) | (go_at_call 12; have kill := E7.out; refine (read12 _ _ _ PL _ (E7.out.given HPB.out) (by have h1 := HPN2.out; have h2 := HPLN.out; omega)).mono ?_; rintro e w8 ⟨rfl, l8⟩; rw [HRD.out.1, HRD.out.2.1, HRD.out.2.2]; have R8 := hid (R7.out.below l8); have T8 := hid (T7.out.below l8); have B8 := hid (sq B7.out l8); have E8 := hid (E7.out.more l8); clear l8 kill E7 R7 T7 B7))
          go_roundw
          case rel => exact ⟨0 + 1, by omega, by go_num, T15.out, B15.out⟩
          case measure => simp [intOf]
      · obtain ⟨r, hr, ro, rp⟩ := T2.out 1 (by omega)
        have HRR : Hid (wr.rangeAt g 4 r.cells) := hr
        have RO1 := hid ro
        have RP1 := hid rp
        clear hr ro rp
        obtain ⟨PL, hPL⟩ : ∃ l, putL r = l := ⟨_, rfl⟩
        obtain ⟨PE, hPE⟩ : ∃ l, putE r = l := ⟨_, rfl⟩
        obtain ⟨RL, hRL⟩ : ∃ l, rightL r = l := ⟨_, rfl⟩
        obtain ⟨S, hS⟩ : ∃ l, strOfNums PL = l := ⟨_, rfl⟩
        have HPL := hid hPL
        have HPE := hid hPE
        have HRL := hid hRL
        have HS := hid hS
        clear hPL hPE hRL hS
        go_upto_region 11 with (first | (go_at_call 9; have kill := D5.out; refine (put9 r _ RO1.out RP1.out).mono ?_; rintro e w6 ⟨a6, n6, c6, rfl, d6⟩; rw [HPL.out] at d6; rw [HPE.out]; have D6 := hid d6; have E6 := hid (D5.out.more d6.2); have R6 := hid (R5.out.below d6.2); have T6 := hid (T5.out.below d6.2); have B6 := hid (sq B5.out d6.2); clear d6 kill D5 R5 B5 T5) | (have kill := D5.out; refine ld25 R5.out rfl _ rfl rfl ?_) | (go_at_call 8; have kill := B4.out; refine (put8 r _ RO1.out RP1.out).mono ?_; rintro e w5 ⟨a5, n5, c5, rfl, d5⟩; rw [HPL.out] at d5; rw [HPE.out]; have D5 := hid d5; have R5 := hid (R4.out.below d5.2); have T5 := hid (T4.out.below d5.2); have B5 := hid (sq B4.out d5.2); clear d5 kill B4 R4 T4) | (have kill := R4.out; refine ld25 R4.out rfl _ rfl rfl ?_) | (have kill := R3.out; refine st25 (r := r) R3.out L3.out hb12 rfl _ _ rfl rfl rfl ?_; intro w4 v4 l4; have R4 := hid v4; have B4 := hid (sq BR.out l4); have T4 := hid (T2.out.below l4); clear v4 l4 kill R3 L3 BR T2) | (refine al25 rfl rfl ?_; intro b12 w3 hb12 v3 l3; have R3 := hid v3; have L3 := hid l3; clear v3 l3) | (have kill := HRR.out; refine ldO HRR.out rfl _ rfl rfl ?_))
        have CX := hid (fun w (h : RowAt w a5 PL) => run_str w a5 PL n5 c5 E6.out.1.len h)
        have CY := hid (fun w (h : RowAt w a6 PL) => run_str w a6 PL n6 c6 D6.out.1.len h)
        rw [HS.out] at CX CY
        refine wp_region_noPanic ?_
        refine wp_region_held_drew (S := (fun w' : World => w'.rangeAt b12 0 r.cells ∧ (RowAt w' a5 PL ∧ RowAt w' a6 PL))) (by kernel_rfl) ⟨R6.out.at0, E6.out.1.at, D6.out.1.at⟩ (fun hHeld => ?_)
        have QZ : Hid (Below w6.heap.size w6 w6.drew) := (Below.refl _ w6).drew
        (refine tk_yes (v := ?_) 0 (some 67) rfl rfl (by kernel_rfl) (by kernel_rfl) (by kernel_rfl) (fun _ _ _ h => h) (by rfl) ?_ hHeld ?_; rotate_left; focus (intro w hSw; go_simp; try with_reducible rfl))
        simp only [Act.put, List.setIfInBounds_toArray, List.set_cons_zero, List.set_cons_succ]
        (refine tk_yes (v := .string S) 1 (some 68) rfl rfl (by kernel_rfl) (by kernel_rfl) (by kernel_rfl) (fun _ _ _ h => h) (by rfl) ?_ hHeld ?_; focus (intro w hSw; have hcv := CX.out w hSw.2.1; go_simp; try with_reducible rfl))
        simp only [Act.put, List.setIfInBounds_toArray, List.set_cons_zero, List.set_cons_succ]
        (refine tk_yes (v := ?_) 2 (some 69) rfl rfl (by kernel_rfl) (by kernel_rfl) (by kernel_rfl) (fun _ _ _ h => h) (by rfl) ?_ hHeld ?_; rotate_left; focus (intro w hSw; go_simp; try with_reducible rfl))
        simp only [Act.put, List.setIfInBounds_toArray, List.set_cons_zero, List.set_cons_succ]
        (refine tk_yes (v := .string S) 3 (some 70) rfl rfl (by kernel_rfl) (by kernel_rfl) (by kernel_rfl) (fun _ _ _ h => h) (by rfl) ?_ hHeld ?_; focus (intro w hSw; have hcv := CY.out w hSw.2.2; go_simp; try with_reducible rfl))
        simp only [Act.put, List.setIfInBounds_toArray, List.set_cons_zero, List.set_cons_succ]
        (refine tk_yes (v := ?_) 4 (some 71) rfl rfl (by kernel_rfl) (by kernel_rfl) (by kernel_rfl) (fun _ _ _ h => h) (by rfl) ?_ hHeld ?_; rotate_left; focus (intro w hSw; go_simp; try with_reducible rfl))
        simp only [Act.put, List.setIfInBounds_toArray, List.set_cons_zero, List.set_cons_succ]
        (refine tk_yes (v := ?_) 5 (some 72) rfl rfl (by kernel_rfl) (by kernel_rfl) (by kernel_rfl) (fun _ _ _ h => h) (by rfl) ?_ hHeld ?_; rotate_left; focus (intro w hSw; go_simp; try with_reducible rfl))
        simp only [Act.put, List.setIfInBounds_toArray, List.set_cons_zero, List.set_cons_succ]
        (refine tk_yes (v := ?_) 6 (some 73) rfl rfl (by kernel_rfl) (by kernel_rfl) (by kernel_rfl) (fun _ _ _ h => h) (by rfl) ?_ hHeld ?_; rotate_left; focus (intro w hSw; go_simp; try with_reducible rfl))
        simp only [Act.put, List.setIfInBounds_toArray, List.set_cons_zero, List.set_cons_succ]
        (refine tk_yes (v := ?_) 7 (some 74) rfl rfl (by kernel_rfl) (by kernel_rfl) (by kernel_rfl) (fun _ _ _ h => h) (by rfl) ?_ hHeld ?_; rotate_left; focus (intro w hSw; go_simp; try with_reducible rfl))
        simp only [Act.put, List.setIfInBounds_toArray, List.set_cons_zero, List.set_cons_succ]
        (refine tk_yes (v := ?_) 8 (some 75) rfl rfl (by kernel_rfl) (by kernel_rfl) (by kernel_rfl) (fun _ _ _ h => h) (by rfl) ?_ hHeld ?_; rotate_left; focus (intro w hSw; go_simp; try with_reducible rfl))
        simp only [Act.put, List.setIfInBounds_toArray, List.set_cons_zero, List.set_cons_succ]
        (refine tk_yes (v := ?_) 9 (some 76) rfl rfl (by kernel_rfl) (by kernel_rfl) (by kernel_rfl) (fun _ _ _ h => h) (by rfl) ?_ hHeld ?_; rotate_left; focus (intro w hSw; go_simp; try with_reducible rfl))
        simp only [Act.put, List.setIfInBounds_toArray, List.set_cons_zero, List.set_cons_succ]
        (refine tk_yes (v := ?_) 10 (some 77) rfl rfl (by kernel_rfl) (by kernel_rfl) (by kernel_rfl) (fun _ _ _ h => h) (by rfl) ?_ hHeld ?_; rotate_left; focus (intro w hSw; go_simp; try with_reducible rfl))
        simp only [Act.put, List.setIfInBounds_toArray, List.set_cons_zero, List.set_cons_succ]
        refine tk_ps 11 (some 78) r rfl rfl (by kernel_rfl) (by kernel_rfl) (by kernel_rfl) (fun _ _ _ h => h) (by rfl) _ rfl rfl (fun w hSw => hSw.1) hHeld ?_
        simp only [Act.put, List.setIfInBounds_toArray, List.set_cons_zero, List.set_cons_succ]
        refine tk_ps 13 (some 80) r rfl rfl (by kernel_rfl) (by kernel_rfl) (by kernel_rfl) (fun _ _ _ h => h) (by rfl) _ rfl rfl (fun w hSw => hSw.1) hHeld ?_
        simp only [Act.put, List.setIfInBounds_toArray, List.set_cons_zero, List.set_cons_succ]
        refine wpAnyH_ready (rs := [12]) (by kernel_rfl) (by simp) ?_
        refine AllReadyH.cons rfl (fun K hK => ?_) AllReadyH.nil
        go_simp
        go_at_call 10
        refine (right10 r _ RP1.out).mono ?_
        rintro e wk1 ⟨rfl, l1⟩
        rw [HRL.out]
        have QB1 := hid (sq QZ.out l1)
        have HH1 : Hid (wk1.rangeAt b12 0 r.cells ∧ (RowAt wk1 a5 PL ∧ RowAt wk1 a6 PL)) := ⟨range_kept hHeld.1 (l1.block _ (lt_msg hHeld.1)), row_mono l1 hHeld.2.1, row_mono l1 hHeld.2.2⟩
        go_wp2_with fail
        refine hK.out _ _ HH1.out (fun hHeld => ?_)
        clear hK K l1
        try simp only [Act.put, List.setIfInBounds_toArray, List.set_cons_zero, List.set_cons_succ]
        refine wpAnyH_ready (rs := [14]) (by kernel_rfl) (by simp) ?_
        refine AllReadyH.cons rfl (fun K hK => ?_) AllReadyH.nil
        go_simp
        go_at_call 11
        refine (right11 r _ RP1.out).mono ?_
        rintro e wk2 ⟨rfl, l2⟩
        rw [HRL.out]
        have QB2 := hid (sq QB1.out l2)
        have HH2 : Hid (wk2.rangeAt b12 0 r.cells ∧ (RowAt wk2 a5 PL ∧ RowAt wk2 a6 PL)) := ⟨range_kept hHeld.1 (l2.block _ (lt_msg hHeld.1)), row_mono l2 hHeld.2.1, row_mono l2 hHeld.2.2⟩
        go_wp2_with fail
        refine hK.out _ _ HH2.out (fun hHeld => ?_)
        clear hK K l2
        try simp only [Act.put, List.setIfInBounds_toArray, List.set_cons_zero, List.set_cons_succ]
        (refine tk_yes (v := ?_) 15 (some 82) rfl rfl (by kernel_rfl) (by kernel_rfl) (by kernel_rfl) (fun _ _ _ h => h) (by rfl) ?_ hHeld ?_; rotate_left; focus (intro w hSw; go_simp; try with_reducible rfl))
        simp only [Act.put, List.setIfInBounds_toArray, List.set_cons_zero, List.set_cons_succ]
        (refine tk_yes (v := ?_) 16 (some 83) rfl rfl (by kernel_rfl) (by kernel_rfl) (by kernel_rfl) (fun _ _ _ h => h) (by rfl) ?_ hHeld ?_; rotate_left; focus (intro w hSw; go_simp; try with_reducible rfl))
        simp only [Act.put, List.setIfInBounds_toArray, List.set_cons_zero, List.set_cons_succ]
        refine wpAnyH_done (by kernel_rfl) ?_ _
        refine NoPanic.normal ?_
        have R7 := hid (R6.out.below QB2.out)
        have T7 := hid (T6.out.below QB2.out)
        have B7 := hid (sq B6.out QB2.out)
        have E7 := hid (E6.out.more QB2.out)
        clear R6 T6 B6 E6 D6 CX CY QZ QB1 QB2 HH1 HH2 hHeld
        cases RL
        · have e27 : PE = 27 := by rw [← HPE.out]; exact putE_no HRL.out
          subst e27
          go_wp2
          go_roundw
          case rel => exact ⟨1 + 1, by omega, by go_num, T7.out, B7.out⟩
          case measure => simp [intOf]
        · have e0 : PE = 0 := by rw [← HPE.out]; exact putE_yes HRL.out
          subst e0
          have HPLN : Hid (PL.length = n5) := E7.out.1.len
          have HRD : Hid (rdP PL = r ∧ ufN PL = n5 ∧ rdE PL = 0) := by
            have h := read_back RO1.out HRL.out
            rw [HPL.out] at h
            exact ⟨h.1, h.2.2.trans HPLN.out, h.2.1⟩
          have HPB : Hid (Byt PL) := by rw [← HPL.out]; exact putL_byt r
          have HPN2 : Hid (PL.length ≤ 46) := by unfold Hid; rw [← HPL.out, putL_len HRL.out]; have := (right_parts HRL.out).p2; omega
          have HAB : Hid (Byt (la ++ PL)) := hid (byt_app H3.out.giv.byt HPB.out)
          obtain ⟨RA, hRA⟩ : ∃ v, rdP (la ++ PL) = v := ⟨_, rfl⟩
          obtain ⟨NA, hNA⟩ : ∃ v, ufN (la ++ PL) = v := ⟨_, rfl⟩
          obtain ⟨EA, hEA⟩ : ∃ v, rdE (la ++ PL) = v := ⟨_, rfl⟩
          have HRA := hid (And.intro hRA (And.intro hNA hEA))
          clear hRA hNA hEA
          have qg := fun x y w => (eqg25 r r x y w).2
          have qb : ∀ w, (binOp .neq 25 r.val r.val).run Try.prog w = .ok (.bool false) w := fun w => by
            have h := (gbin r r w).2; simpa using h
          have qg2 := fun x y w => (eqg25 RA RA x y w).2
          have qb2 : ∀ w, (binOp .neq 25 RA.val RA.val).run Try.prog w = .ok (.bool false) w := fun w => by
            have h := (gbin RA RA w).2; simpa using h
          go_wp2_with (first | (have kill := Y15.out; refine ld25 X15.out rfl _ rfl rfl ?_) | (have kill := Y15.out; refine ld25 Y15.out rfl _ rfl rfl ?_) | (have kill := Y14.out; refine st25 (r := RA) Y14.out Z14.out hb23 rfl _ _ rfl rfl rfl ?_; intro w15 v15 l15; have Y15 := hid v15; have X15 := hid (X14.out.below l15); have T15 := hid (T14.out.below l15); have B15 := hid (sq B14.out l15); clear v15 l15 kill Y14 Z14 X14 T14 B14) | (have kill := X14.out; refine al25 rfl rfl ?_; intro b23 w14' hb23 v14 l14; have Y14 := hid v14; have Z14 := hid l14; clear v14 l14 kill) | (go_at_call 13; have kill := X13.out; refine (read13 _ _ _ (la ++ PL) _ (M13.out.given HAB.out) (by have h1 := HPN2.out; have h2 := HLA.out; have h3 := HPLN.out; omega)).mono ?_; rintro e w14 ⟨rfl, l14⟩; rw [HRA.out.1, HRA.out.2.1, HRA.out.2.2]; have X14 := hid (X13.out.below l14); have T14 := hid (T13.out.below l14); have B14 := hid (sq B13.out l14); clear l14 kill X13 T13 B13 M13) | (have kill := Y12.out; refine st25 (r := RA) Y12.out Z12.out hb20 rfl _ _ rfl rfl rfl ?_; intro w13 v13 l13; have X13 := hid v13; have M13 := hid (M12.out.more l13); have T13 := hid (T12.out.below l13); have B13 := hid (sq B12.out l13); clear v13 l13 kill Y12 Z12 M12 T12 B12) | (have kill := M12.out; refine al25 rfl rfl ?_; intro b20 w12' hb20 v12 l12; have Y12 := hid v12; have Z12 := hid l12; clear v12 l12 kill) | (go_at_call 12; have kill := M11.out; refine (read12 _ _ _ (la ++ PL) _ (M11.out.given HAB.out) (by have h1 := HPN2.out; have h2 := HLA.out; have h3 := HPLN.out; omega)).mono ?_; rintro e w12 ⟨rfl, l12⟩; rw [HRA.out.1, HRA.out.2.1, HRA.out.2.2]; have M12 := hid (M11.out.more l12); have T12 := hid (T11.out.below l12); have B12 := hid (sq B11.out l12); clear l12 kill M11 T11 B11) | (at_builtin; have kill := M10.out; refine app_row (l2 := PL) M10.out.1 E10.out.1.at HPLN.out E10.out.1.caps.1 M10.out.2.size (by have h1 := HPN2.out; have h2 := HLA.out; have h3 := HPLN.out; omega) rfl _ _ rfl rfl rfl ?_; intro a11 c11 w11 r11 t11; have M11 := hid (M10.out.next r11 t11); have T11 := hid (T9.out.below M11.out.2); have B11 := hid (sq B9.out M11.out.2); clear r11 t11 kill M10 E10 T9 B9) | (at_builtin; have kill := E9.out; refine app_none (H3.out.giv.below B9.out).row HLA.out H3.out.nil (by omega) rfl _ _ rfl rfl rfl ?_; intro a10 c10 w10 m10; have M10 := hid m10; have E10 := hid (E9.out.more m10.2); clear m10 kill E9) | (have kill := X9.out; refine ld25 X9.out rfl _ rfl rfl ?_) | (have kill := R9.out; refine ld25 R9.out rfl _ rfl rfl ?_) | (have kill := X8.out; refine st25 (r := r) X8.out L8.out hb17 rfl _ _ rfl rfl rfl ?_; intro w9 v9 l9; have X9 := hid v9; have R9 := hid (R8.out.below l9); have T9 := hid (T8.out.below l9); have B9 := hid (sq B8.out l9); have E9 := hid (E8.out.more l9); clear v9 l9 kill X8 L8 R8 T8 B8 E8) | (refine al25 rfl rfl ?_; have kill := R8.out; intro b17 w8' hb17 v8 l8; have X8 := hid v8; have L8 := hid l8; clear v8 l8 kill) | (go_at_call 12; have kill := E7.out; refine (read12 _ _ _ PL _ (E7.out.given HPB.out) (by have h1 := HPN2.out; have h2 := HPLN.out; omega)).mono ?_; rintro e w8 ⟨rfl, l8⟩; rw [HRD.out.1, HRD.out.2.1, HRD.out.2.2]; have R8 := hid (R7.out.below l8); have T8 := hid (T7.out.below l8); have B8 := hid (sq B7.out l8); have E8 := hid (E7.out.more l8); clear l8 kill E7 R7 T7 B7))
          go_roundw
          case rel => exact ⟨1 + 1, by omega, by go_num, T15.out, B15.out⟩
          case measure => simp [intOf]
      · go_wp2
        go_ret
        exact ⟨rfl, BR.out⟩
theorem posBack_own : ownKnob Try.prog.godebug = none := by kernel_rfl
theorem posBack_laid : laidOutB Try.prog = true := by kernel_rfl

set_option maxRecDepth 100000 in
set_option maxHeartbeats 1000000 in
theorem posBack_lifted (os : Os) (started : os.Started) (H : Type) (enc : TypeId × Value → H) :
    ReturnsInHanded {} Try.checked os 3 .any (Rows.posBackSpec.pre6 enc Try.prog Try.f3 Rows.posBackRow.domain false) (Rows.posBackSpec.post enc Try.prog Try.f3 false true false false) := by
  refine returnsInHanded_of_change (C := Try.checked) posBack_own started (by kernel_rfl) Try.func3
    (ChangeSpec.witness6 (enc := enc) (C := Try.checked) false ⟨#[], #[Ps.zero.val, .int .u8 0, .int .u32 0, .slice none 0 0], []⟩ 8 (by kernel_rfl) (by kernel_rfl) (by kernel_rfl) (by kernel_rfl)) ?_
  intro W base args ds gs before hval0 hW hcnd _
  have hval : ∀ (j : Nat) t v, Try.f3.params[j]? = some t → args[j]? = some v → Value.okWide Try.prog W .any base t v := hval0
  have hW' := hW
  obtain ⟨p, q, hA0, hV, rfl, hfz, hnd⟩ := hW
  have hA : DataW.TrodAll enc Try.prog W 0 (fun _ => true) true Try.f3.params.toList args.toList ds p := hA0
  rw [Try.params3] at hA hval
  obtain ⟨v0, vs0, d0, ds0, p0, q0, hargs, rfl, rfl, h0, r0⟩ := trodAll_cons hA
  obtain ⟨v1, vs1, d1, ds1, p1, q1, rfl, rfl, rfl, h1, r1⟩ := trodAll_cons r0
  obtain ⟨v2, vs2, d2, ds2, p2, q2, rfl, rfl, rfl, h2, r2⟩ := trodAll_cons r1
  obtain ⟨v3, vs3, d3, ds3, p3, q3, rfl, rfl, rfl, h3, r3⟩ := trodAll_cons r2
  obtain ⟨rfl, rfl, rfl⟩ := trodAll_nil r3
  obtain rfl : args = #[v0, v1, v2, v3] := by cases args; simp_all
  obtain ⟨rfl, rfl⟩ := trodVars_none hV
  have k0 := h0
  have lt0 : ∀ x ∈ p0, x.block < W.heap.size := by obtain ⟨m, hm⟩ := k0; exact DataW.trod_lt m _ _ _ hm
  obtain ⟨rc0, rfl, ok0, sz0⟩ := open_rec (hval 0 25 v0 rfl rfl) h0
  obtain ⟨a1, rfl, rfl, rfl, w1⟩ := open_int Try.underlying5 (hval 1 5 v1 rfl rfl) h1
  obtain ⟨a2, rfl, rfl, rfl, w2⟩ := open_int Try.underlying23 (hval 2 23 v2 rfl rfl) h2
  obtain ⟨x3, y3, z3, rfl⟩ := okWide_slice Try.underlying26 (hval 3 26 v3 rfl rfl)
  have k3 := h3
  have lt3 : ∀ x ∈ p3, x.block < W.heap.size := by obtain ⟨m, hm⟩ := k3; exact DataW.trod_lt m _ _ _ hm
  obtain ⟨a3, len3, cap3, l3, e3, w3⟩ : ∃ a len cap l, Value.slice x3 y3 z3 = .slice a len cap ∧ InB W a len cap l := by
    obtain ⟨fuel, hf⟩ := h3
    exact open_inB hf
  cases e3
  clear hA0 hval0
  refine (back_walk rc0 a1 a2 x3 y3 z3 l3 W ok0 sz0 (by have := bounds_u8 w1; omega) (by have := bounds_u32 w2; omega) w3).mono fun e W' ⟨he, bel⟩ => ?_
  subst he
  exact ⟨_, rfl, _, _, _, [], _, [], hW', trodAll_mk1 (shut_bool Try.underlying4 _), (trodAll_cons_mk (Below.trod posBack_laid (by kernel_rfl) (of_decide_eq_true (by kernel_rfl)) k0 bel lt0) (trodAll_cons_mk (shut_int Try.underlying5 w1) (trodAll_cons_mk (shut_int Try.underlying23 w2) (trodAll_cons_mk (Below.trod posBack_laid (by kernel_rfl) (of_decide_eq_true (by kernel_rfl)) k3 bel lt3) trodAll_mk0)))), rfl, bel.frame _, fun h => by cases h⟩

theorem posBack_over : Rows.posBackRow.holds Try.pinned (OpenSpec.ofChange Rows.posBackSpec) :=
  OpenClaim.holds_of_wide 3 Try.f3 rfl rfl rfl rfl rfl rfl rfl ⟨rfl, rfl, rfl, rfl, rfl⟩ rfl rfl rfl rfl rfl (by kernel_rfl) Try.func3 (by kernel_rfl)
    (of_decide_eq_true (by kernel_rfl)) (by unfold Func.isWrapper; first | (rw [if_pos (by decide +kernel)]; kernel_rfl) | (rw [if_neg (by decide +kernel)]; exact ⟨rfl, rfl⟩))
    (fun os started H enc _ => posBack_lifted os started H enc)

/-- The statement. -/
theorem posBack_holds : Rows.PosBackSaid := posBack_over
#print axioms posBack_holds
end Go.Proofs.Ythchgjndaeefmaa
