/- Read, by the document: the record. -/
import Derived.Test.YtmojndacjngjpaaReadB
import Derived.Test.YtmojndacjngjpaaSeat
namespace Go.Proofs.Ytmojndacjngjpaa
open Go.ChangeShapes Go.WideShapes Go.ChangeAt Go.RowKit

theorem ex_build29 {a : Act} {oi : Oper} {ki te st am : Int} {p : ByteArray} (x y z u : Operand) (ho : oi.op = .build 29 #[(0, x), (1, y), (3, z), (2, u)]) (hx : a.eval x = .int .i64 ki) (hy : a.eval y = .agg #[.int .u16 te, .int .u32 st]) (hz : a.eval z = .int .i64 am) (hu : a.eval u = .string p) (w : World) :
    (execOp a.eval oi).run Try.prog w = .ok (.value (Rc.val ⟨ki, te, st, p, am, 0, 0, 0, 0, 0, 0, 0, 0, 0, 0, 0, 0⟩)) w := by
  unfold execOp
  simp only [ho, List.map_toArray, List.map_cons, List.map_nil, hx, hy, hz, hu, Sem.run_bind, build29, Result.andThen_ok, Sem.run_pure]
theorem st_csw {op : Oper} {a : Act} {w : World} {K : Act → World → Prop} {Q : Exit → Act → World → Prop} {b o : Nat} (ty : TypeId) (cs : List Value) (ht : w.there b o cs.length) (hi : (Try.prog.info? ty).map (·.size) = some cs.length) (h1 : ∀ c ∈ cs, c.oneCell' = true)
    (x y : Operand) (ho : op.op = .store ty x y) (hx : a.eval x = .pointer (some ⟨b, o, none⟩)) {v : Value} (hy : a.eval y = v) (hv : v.cells = cs.toArray)
    (h : K (a.put op.dst undef) (w.setCells b o cs)) : op.wp Try.prog a w K Q := by
  unfold Oper.wp execOp
  simp only [ho, hx, hy, Instr.storeAt, Instr.sureAddr, Sem.run_bind, Sem.run_pure, Result.andThen_ok, run_storeVar_cs w b o ty v cs hv ht hi h1]
  exact h
set_option maxRecDepth 10000 in
set_option maxHeartbeats 20000000 in
theorem rdC (b o : Nat) (zs : List Int) (len cap n : Nat) (w : World) (h : Given w (some ⟨b, o, none⟩) len cap zs) (hm : zs.getD 0 0 = 165) (h1 : zs.getD 1 0 = (n : Int)) (hb : n < 256) (hlong : n + 6 ≤ len) (h36 : 36 ≤ n) (hC : (bodyX zs).getD 35 0 + 36 = (n : Int)) :
    Calls Try.prog 17 #[.slice (some ⟨b, o, none⟩) len cap] w fun e w' => e = .returned (.tuple #[(recX zs).val, .int .i64 (lenX zs), .int .i64 (errX zs)]) ∧ Below w.heap.size w w' := by
  have hn : 2 ≤ len := by omega
  have eX : bodyX zs = pc zs 2 n := by rw [bodyX, h1, Int.toNat_natCast]
  have hsp : splB zs = true := by unfold splB; rw [h1, h.leq, hm]; simp; omega
  have hc1 := h.cap1
  have hc2 := h.cap2
  obtain ⟨X, hX⟩ : ∃ X, bodyX zs = X := ⟨_, rfl⟩
  have gx : ∀ w', Below w.heap.size w w' → Given w' (some ⟨b, o + 2, none⟩) n (cap - 2) X := fun w' hb => by
    have h' := h.below hb
    rw [← hX, eX]
    exact ⟨pc_len (by rw [h.leq]; omega), byt_pc h.byt _ _, h'.row.piece 2 n (by rw [h.leq]; omega), by omega, by omega⟩
  have GX := hid gx
  have hXl : X.length = n := (gx w (Below.refl _ _)).leq
  have hXb : Byt X := (gx w (Below.refl _ _)).byt
  clear gx
  have c0 : ∀ w', Below w.heap.size w w' → w'.cell? ⟨b, o, none⟩ = some (.int .u8 (zs.getD 0 0)) := fun w' hb => cell_of_row (h.below hb).row 0 (by rw [h.leq]; omega)
  have c1 : ∀ w', Below w.heap.size w w' → w'.cell? ⟨b, o + 1, none⟩ = some (.int .u8 (zs.getD 1 0)) := fun w' hb => cell_of_row (h.below hb).row 1 (by rw [h.leq]; omega)
  have C0 := hid c0
  have C1 := hid c1
  clear c0 c1
  have i1 : ¬ (len : Int) < 2 := by omega
  have i2 : decide ((len : Int) < 2) = false := by simp; omega
  have i3 : (0 : Int) < (len : Int) := by omega
  have i4 : (1 : Int) < (len : Int) := by omega
  have HG0 := hid hm
  have HG1 := hid h1
  have j1 : ¬ (len : Int) < 6 + (n : Int) := by omega
  have j2 : decide ((len : Int) < 6 + (n : Int)) = false := by simp; omega
  have j3 : ¬ (n : Int) < 36 := by omega
  have j4 : decide ((n : Int) < 36) = false := by simp; omega
  have j5 : (2 : Int) ≤ 2 + (n : Int) := by omega
  have j6 : 2 + (n : Int) ≤ (cap : Int) := by omega
  have j7 : ¬ cap = 2 := by omega
  have j8 : (2 + (n : Int) - 2).toNat = n := by omega
  have j9 : (2 + (n : Int)).toNat = 2 + n := by omega
  have j10 : (35 : Int) < (n : Int) := by omega
  obtain ⟨q, hq⟩ : ∃ q, X.getD 35 0 = q := ⟨_, rfl⟩
  have hqb := byt_getD hXb 35
  rw [hq] at hqb
  obtain ⟨q0, q1⟩ := hqb
  rw [hX, hq] at hC
  have k1 : q = (n : Int) - 36 := by omega
  have k2 : (q != (n : Int) - 36) = false := by simp [k1]
  have hk0 : num (pc X 0 1) = X.getD 0 0 := num_pc1 0 (by omega)
  obtain ⟨k, hk⟩ : ∃ k, X.getD 0 0 = k := ⟨_, rfl⟩
  have hkb := byt_getD hXb 0
  rw [hk] at hkb
  obtain ⟨ka, kb⟩ := hkb
  obtain ⟨te, hte, tea, teb⟩ := num_bd' hXb 1 2 65536 rfl (by omega)
  obtain ⟨sn, hsn, sna, snb⟩ := num_bd' hXb 3 4 4294967296 rfl (by omega)
  obtain ⟨am, ham, ama, amb⟩ := num_bd' hXb 7 4 4294967296 rfl (by omega)
  obtain ⟨x0, hx0, x0a, x0b⟩ := num_bd' hXb 11 2 65536 rfl (by omega)
  obtain ⟨x1, hx1, x1a, x1b⟩ := num_bd' hXb 13 2 65536 rfl (by omega)
  obtain ⟨x2, hx2, x2a, x2b⟩ := num_bd' hXb 15 2 65536 rfl (by omega)
  obtain ⟨x3, hx3, x3a, x3b⟩ := num_bd' hXb 17 2 65536 rfl (by omega)
  obtain ⟨y0, hy0, y0a, y0b⟩ := num_bd' hXb 19 2 65536 rfl (by omega)
  obtain ⟨y1, hy1, y1a, y1b⟩ := num_bd' hXb 21 2 65536 rfl (by omega)
  obtain ⟨y2, hy2, y2a, y2b⟩ := num_bd' hXb 23 2 65536 rfl (by omega)
  obtain ⟨y3, hy3, y3a, y3b⟩ := num_bd' hXb 25 2 65536 rfl (by omega)
  obtain ⟨z0, hz0, z0a, z0b⟩ := num_bd' hXb 27 2 65536 rfl (by omega)
  obtain ⟨z1, hz1, z1a, z1b⟩ := num_bd' hXb 29 2 65536 rfl (by omega)
  obtain ⟨z2, hz2, z2a, z2b⟩ := num_bd' hXb 31 2 65536 rfl (by omega)
  obtain ⟨z3, hz3, z3a, z3b⟩ := num_bd' hXb 33 2 65536 rfl (by omega)
  obtain ⟨pan, hpan⟩ : ∃ pan, strOfNums (X.drop 36) = pan := ⟨_, rfl⟩
  have hps : pan.size ≤ 255 := by rw [← hpan]; simp [strOfNums, ByteArray.size]; omega
  have HREC : Hid (recL X = ⟨k, te, sn, pan, am, x0, x1, x2, x3, y0, y1, y2, y3, z0, z1, z2, z3⟩) := by
    unfold Hid; rw [recL, hk0, hk, hte, hsn, ham, hx0, hx1, hx2, hx3, hy0, hy1, hy2, hy3, hz0, hz1, hz2, hz3, hpan]
  have HRB : Hid (recB X = rightB (recL X)) := by
    unfold Hid; unfold recB; rw [hq, hXl, decide_eq_true hC, decide_eq_true h36]; simp
  have u1 : IntKind.u16.wrap te = te := by rw [IntKind.wrap_u16]; omega
  have u3 : IntKind.i64.wrap k = k := by rw [IntKind.wrap_i64]; omega
  have u4 : wrap64 k = k := by unfold wrap64; omega
  have u2 : IntKind.u32.wrap sn = sn := by rw [IntKind.wrap_u32]; omega
  have p3 : (3 : Int) ≤ ((cap - 2 : Nat) : Int) := by omega
  have p7 : (7 : Int) ≤ ((cap - 2 : Nat) : Int) := by omega
  have p11 : (11 : Int) ≤ ((cap - 2 : Nat) : Int) := by omega
  have p36 : (36 : Int) ≤ (n : Int) := by omega
  have p37 : (n : Int) ≤ ((cap - 2 : Nat) : Int) := by omega
  have v1 : ¬ cap - 2 = 1 := by omega
  have v3 : ¬ cap - 2 = 3 := by omega
  have v7 : ¬ cap - 2 = 7 := by omega
  have w36 : ((n : Int) - 36).toNat = n - 36 := by omega
  have n0 : (0 : Int) < (n : Int) := by omega
  have n0' : 0 < n := by omega
  have HXL := hid hXl
  have HXB := hid hXb
  have HQ := hid hq
  have HKK := hid hk
  have HPAN := hid hpan
  have HXX := hid hX
  have HSP := hid hsp
  have HGZ := hid h
  have Hte := hid hte
  have Hsn := hid hsn
  have Ham := hid ham
  have Hx0 := hid hx0
  have Hx1 := hid hx1
  have Hx2 := hid hx2
  have Hx3 := hid hx3
  have Hy0 := hid hy0
  have Hy1 := hid hy1
  have Hy2 := hid hy2
  have Hy3 := hid hy3
  have Hz0 := hid hz0
  have Hz1 := hid hz1
  have Hz2 := hid hz2
  have Hz3 := hid hz3
  clear h hm h1 hXl hq hX eX hC hk0 hk hpan hsp hXb hte hsn ham hx0 hx1 hx2 hx3 hy0 hy1 hy2 hy3 hz0 hz1 hz2 hz3
  go_enter Try.func17, Try.ntmps17
  go_wp2_with (first | (refine al29 rfl rfl ?_; intro b2 w2 hb2 v2 l2; have e0 := C0.out w2 l2; have e1 := C1.out w2 l2; have e35 := cell_of_row (GX.out w2 l2).row 35 (by rw [HXL.out]; omega); rw [HG0.out] at e0; rw [HG1.out] at e1; rw [HQ.out] at e35; have V2 := hid v2; have L2 := hid l2; clear v2 l2))
  have e00 : w2.cell? ⟨b, o + 2, none⟩ = some (.int .u8 k) := by have := cell_of_row (GX.out w2 L2.out).row 0 (by rw [HXL.out]; omega); rwa [HKK.out, Nat.add_zero] at this
  have RX2 := hid (GX.out w2 L2.out).row
  go_cut [7] from 51 to 70 (fun v wx => ∃ b7, v = .pointer (some ⟨b7, 0, none⟩) ∧ w2.heap.size ≤ b7 ∧ RV wx b7 ⟨k, te, sn, pan, am, 0, 0, 0, 0, 0, 0, 0, 0, 0, 0, 0, 0⟩ ∧ Below w2.heap.size w2 wx)
  case first =>
    have hc36 : ¬ cap - 2 = 36 := by omega
    refine wp_region_noPanic ?_
    refine wp_region_held_drew (S := (fun w' => w'.cell? ⟨b, o + 2, none⟩ = some (.int .u8 k) ∧ RowAt w' (some ⟨b, o + 2, none⟩) X)) (by kernel_rfl) (⟨e00, RX2.out⟩) (fun hHeld => ?_)
    (refine tk_yes (v := ?_) 0 (some 51) rfl rfl (by kernel_rfl) (by kernel_rfl) (by kernel_rfl) (fun _ _ _ h => h) (by rfl) ?_ hHeld ?_; rotate_left; focus (intro w hSw; go_simp; try with_reducible rfl))
    simp only [Act.put, List.setIfInBounds_toArray, List.set_cons_zero, List.set_cons_succ]
    (refine tk_yes (v := ?_) 1 (some 52) rfl rfl (by kernel_rfl) (by kernel_rfl) (by kernel_rfl) (fun _ _ _ h => h) (by rfl) ?_ hHeld ?_; rotate_left; focus (intro w hSw; go_simp; try with_reducible rfl))
    simp only [Act.put, List.setIfInBounds_toArray, List.set_cons_zero, List.set_cons_succ]
    (refine tk_yes (v := ?_) 2 (some 53) rfl rfl (by kernel_rfl) (by kernel_rfl) (by kernel_rfl) (fun _ _ _ h => h) (by rfl) ?_ hHeld ?_; rotate_left; focus (intro w hSw; go_simp; try with_reducible rfl))
    simp only [Act.put, List.setIfInBounds_toArray, List.set_cons_zero, List.set_cons_succ]
    (refine tk_yes (v := ?_) 3 (some 54) rfl rfl (by kernel_rfl) (by kernel_rfl) (by kernel_rfl) (fun _ _ _ h => h) (by rfl) ?_ hHeld ?_; rotate_left; focus (intro w hSw; go_simp; try with_reducible rfl))
    simp only [Act.put, List.setIfInBounds_toArray, List.set_cons_zero, List.set_cons_succ]
    (refine tk_yes (v := ?_) 4 (some 55) rfl rfl (by kernel_rfl) (by kernel_rfl) (by kernel_rfl) (fun _ _ _ h => h) (by rfl) ?_ hHeld ?_; rotate_left; focus (intro w hSw; go_simp; try with_reducible rfl))
    simp only [Act.put, List.setIfInBounds_toArray, List.set_cons_zero, List.set_cons_succ]
    (refine tk_yes (v := ?_) 5 (some 56) rfl rfl (by kernel_rfl) (by kernel_rfl) (by kernel_rfl) (fun _ _ _ h => h) (by rfl) ?_ hHeld ?_; rotate_left; focus (intro w hSw; go_simp; try with_reducible rfl))
    simp only [Act.put, List.setIfInBounds_toArray, List.set_cons_zero, List.set_cons_succ]
    (refine tk_yes (v := ?_) 8 (some 59) rfl rfl (by kernel_rfl) (by kernel_rfl) (by kernel_rfl) (fun _ _ _ h => h) (by rfl) ?_ hHeld ?_; rotate_left; focus (intro w hSw; go_simp; try with_reducible rfl))
    simp only [Act.put, List.setIfInBounds_toArray, List.set_cons_zero, List.set_cons_succ]
    (refine tk_yes (v := ?_) 9 (some 60) rfl rfl (by kernel_rfl) (by kernel_rfl) (by kernel_rfl) (fun _ _ _ h => h) (by rfl) ?_ hHeld ?_; rotate_left; focus (intro w hSw; go_simp; try with_reducible rfl))
    simp only [Act.put, List.setIfInBounds_toArray, List.set_cons_zero, List.set_cons_succ]
    (refine tk_yes (v := ?_) 13 (some 64) rfl rfl (by kernel_rfl) (by kernel_rfl) (by kernel_rfl) (fun _ _ _ h => h) (by rfl) ?_ hHeld ?_; rotate_left; focus (intro w hSw; go_simp; try with_reducible rfl))
    simp only [Act.put, List.setIfInBounds_toArray, List.set_cons_zero, List.set_cons_succ]
    (refine tk_yes (v := ?_) 14 (some 65) rfl rfl (by kernel_rfl) (by kernel_rfl) (by kernel_rfl) (fun _ _ _ h => h) (by rfl) ?_ hHeld ?_; rotate_left; focus (intro w hSw; go_simp; try with_reducible rfl))
    simp only [Act.put, List.setIfInBounds_toArray, List.set_cons_zero, List.set_cons_succ]
    (refine tk_yes (v := ?_) 16 (some 67) rfl rfl (by kernel_rfl) (by kernel_rfl) (by kernel_rfl) (fun _ _ _ h => h) (by rfl) ?_ hHeld ?_; rotate_left; focus (intro w hSw; go_simp; try with_reducible rfl))
    simp only [Act.put, List.setIfInBounds_toArray, List.set_cons_zero, List.set_cons_succ]
    (refine tk_yes (v := ?_) 17 (some 68) rfl rfl (by kernel_rfl) (by kernel_rfl) (by kernel_rfl) (fun _ _ _ h => h) (by rfl) ?_ hHeld ?_; rotate_left; focus (intro w hSw; go_simp; try with_reducible rfl))
    simp only [Act.put, List.setIfInBounds_toArray, List.set_cons_zero, List.set_cons_succ]
    (refine tk_yes (v := .string pan) 18 (some 69) rfl rfl (by kernel_rfl) (by kernel_rfl) (by kernel_rfl) (fun _ _ _ h => h) (by rfl) ?_ hHeld ?_; focus (intro w hSw; have hh := run_str w (some ⟨b, o + 2 + 36, none⟩) (X.drop 36) (n - 36) (cap - 2 - 36) (by rw [List.length_drop, HXL.out]) (hSw.2.tail 36); rw [HPAN.out] at hh; go_simp))
    simp only [Act.put, List.setIfInBounds_toArray, List.set_cons_zero, List.set_cons_succ]
    refine wpAnyH_ready (rs := [6, 20]) (by kernel_rfl) (by simp) ?_
    refine AllReadyH.cons rfl (fun K hK => ?_) (AllReadyH.cons (o := { dst := some 7, op := _, type := _, pos := _, after := _, guard := none }) rfl (fun K hK => ?_) AllReadyH.nil)
    · skip
      go_simp
      go_at_call 31
      refine (num_at _ 2 _ (pc X 1 2) _ (pc_len (by rw [HXL.out]; omega)) ((hHeld.2).piece 1 2 (by rw [HXL.out]; omega)) (byt_pc HXB.out _ _) (by omega)).mono ?_
      rintro e w' ⟨rfl, rfl⟩
      rw [Hte.out]
      go_wp2_with fail
      refine hK.out _ _ (hHeld) (fun hHeld => ?_)
      clear hK K
      try simp only [Act.put, List.setIfInBounds_toArray, List.set_cons_zero, List.set_cons_succ]
      (refine tk_yes (v := ?_) 7 (some 58) rfl rfl (by kernel_rfl) (by kernel_rfl) (by kernel_rfl) (fun _ _ _ h => h) (by rfl) ?_ hHeld ?_; rotate_left; focus (intro w hSw; go_simp; try with_reducible rfl))
      simp only [Act.put, List.setIfInBounds_toArray, List.set_cons_zero, List.set_cons_succ]
      refine wpAnyH_ready (rs := [10, 20]) (by kernel_rfl) (by simp) ?_
      refine AllReadyH.cons rfl (fun K hK => ?_) (AllReadyH.cons (o := { dst := some 7, op := _, type := _, pos := _, after := _, guard := none }) rfl (fun K hK => ?_) AllReadyH.nil)
      · skip
        go_simp
        go_at_call 31
        refine (num_at _ 4 _ (pc X 3 4) _ (pc_len (by rw [HXL.out]; omega)) ((hHeld.2).piece 3 4 (by rw [HXL.out]; omega)) (byt_pc HXB.out _ _) (by omega)).mono ?_
        rintro e w' ⟨rfl, rfl⟩
        rw [Hsn.out]
        go_wp2_with fail
        refine hK.out _ _ (hHeld) (fun hHeld => ?_)
        clear hK K
        try simp only [Act.put, List.setIfInBounds_toArray, List.set_cons_zero, List.set_cons_succ]
        (refine tk_yes (v := ?_) 11 (some 62) rfl rfl (by kernel_rfl) (by kernel_rfl) (by kernel_rfl) (fun _ _ _ h => h) (by rfl) ?_ hHeld ?_; rotate_left; focus (intro w hSw; go_simp; try with_reducible rfl))
        simp only [Act.put, List.setIfInBounds_toArray, List.set_cons_zero, List.set_cons_succ]
        (refine tk_yes (v := ?_) 12 (some 63) rfl rfl (by kernel_rfl) (by kernel_rfl) (by kernel_rfl) (fun _ _ _ h => h) (by rfl) ?_ hHeld ?_; rotate_left; focus (intro w hSw; go_simp; try with_reducible rfl))
        simp only [Act.put, List.setIfInBounds_toArray, List.set_cons_zero, List.set_cons_succ]
        refine wpAnyH_ready (rs := [15, 20]) (by kernel_rfl) (by simp) ?_
        refine AllReadyH.cons rfl (fun K hK => ?_) (AllReadyH.cons (o := { dst := some 7, op := _, type := _, pos := _, after := _, guard := none }) rfl (fun K hK => ?_) AllReadyH.nil)
        · skip
          go_simp
          go_at_call 31
          refine (num_at _ 4 _ (pc X 7 4) _ (pc_len (by rw [HXL.out]; omega)) ((hHeld.2).piece 7 4 (by rw [HXL.out]; omega)) (byt_pc HXB.out _ _) (by omega)).mono ?_
          rintro e w' ⟨rfl, rfl⟩
          rw [Ham.out]
          go_wp2_with fail
          refine hK.out _ _ (hHeld) (fun hHeld => ?_)
          clear hK K
          try simp only [Act.put, List.setIfInBounds_toArray, List.set_cons_zero, List.set_cons_succ]
          (refine tk_yes (v := Rc.val ⟨k, te, sn, pan, am, 0, 0, 0, 0, 0, 0, 0, 0, 0, 0, 0, 0⟩) 19 (some 70) rfl rfl (by kernel_rfl) (by kernel_rfl) (by kernel_rfl) (fun _ _ _ h => h) (by rfl) ?_ hHeld ?_; focus (intro w hSw; exact ex_build29 _ _ _ _ rfl rfl rfl rfl rfl w))
          simp only [Act.put, List.setIfInBounds_toArray, List.set_cons_zero, List.set_cons_succ]
          refine wpAnyH_ready (rs := [20]) (by kernel_rfl) (by simp) ?_
          refine AllReadyH.cons (o := { dst := some 7, op := _, type := _, pos := _, after := _, guard := none }) rfl (fun K hK => ?_) AllReadyH.nil
          refine step_of rfl (al29w rfl ?_)
          intro b7 wA hb7' v7 l7
          have hb7 : w2.heap.size ≤ b7 := hb7'
          have V7 := hid v7
          have LA := hid (sq (Below.refl _ w2).drew l7)
          have HLT : Hid (b < w2.heap.size) := hid (World.block_lt_of_cell? w2 _ e00)
          have eA := l7.cell (p := ⟨b, o + 2, none⟩) HLT.out
          have RXA := hid (row_mono LA.out RX2.out)
          clear v7 l7
          refine hK.out _ _ (⟨by rw [eA]; exact e00, RXA.out⟩) (fun hHeld => ?_)
          clear hK K
          try simp only [Act.put, List.setIfInBounds_toArray, List.set_cons_zero, List.set_cons_succ]
          refine wpAnyH_ready (rs := [21]) (by kernel_rfl) (by simp) ?_
          refine AllReadyH.cons rfl (fun K hK => ?_) AllReadyH.nil
          refine step_of rfl (wp_store_mid 29 _ _ rfl b7 0 (Rc.cells ⟨k, te, sn, pan, am, 0, 0, 0, 0, 0, 0, 0, 0, 0, 0, 0, 0⟩).toArray rfl rfl (by simpa [Rc.len] using V7.out.th) (by rw [n29]; simp [Rc.len]) (all_oneCell_toArray (Rc.one _)) ?_)
          have V8 := hid (V7.out.set ⟨k, te, sn, pan, am, 0, 0, 0, 0, 0, 0, 0, 0, 0, 0, 0, 0⟩)
          have L8 := hid (setCells_in (s := Rc.cells ⟨k, te, sn, pan, am, 0, 0, 0, 0, 0, 0, 0, 0, 0, 0, 0, 0⟩) LA.out hb7 0)
          have RX8 := hid (row_mono L8.out RX2.out)
          have e08 := L8.out.cell (p := ⟨b, o + 2, none⟩) HLT.out
          generalize wA.setCells b7 0 (Rc.cells ⟨k, te, sn, pan, am, 0, 0, 0, 0, 0, 0, 0, 0, 0, 0, 0, 0⟩) = w8 at *
          refine hK.out _ _ (⟨by rw [e08]; exact e00, RX8.out⟩) (fun hHeld => ?_)
          clear hK K
          try simp only [Act.put, List.setIfInBounds_toArray]
          refine wpAnyH_done (by kernel_rfl) ?_ _
          refine NoPanic.normal ?_
          go_wp2
          go_meet
          exact ⟨b7, rfl, hb7, V8.out, L8.out⟩
        · skip
          refine step_of rfl (al29w rfl ?_)
          intro b7 wA hb7' v7 l7
          have hb7 : w2.heap.size ≤ b7 := hb7'
          have V7 := hid v7
          have LA := hid (sq (Below.refl _ w2).drew l7)
          have HLT : Hid (b < w2.heap.size) := hid (World.block_lt_of_cell? w2 _ e00)
          have eA := l7.cell (p := ⟨b, o + 2, none⟩) HLT.out
          have RXA := hid (row_mono LA.out RX2.out)
          clear v7 l7
          refine hK.out _ _ (⟨by rw [eA]; exact e00, RXA.out⟩) (fun hHeld => ?_)
          clear hK K
          try simp only [Act.put, List.setIfInBounds_toArray, List.set_cons_zero, List.set_cons_succ]
          refine wpAnyH_ready (rs := [15]) (by kernel_rfl) (by simp) ?_
          refine AllReadyH.cons rfl (fun K hK => ?_) AllReadyH.nil
          go_simp
          go_at_call 31
          refine (num_at _ 4 _ (pc X 7 4) _ (pc_len (by rw [HXL.out]; omega)) ((hHeld.2).piece 7 4 (by rw [HXL.out]; omega)) (byt_pc HXB.out _ _) (by omega)).mono ?_
          rintro e w' ⟨rfl, rfl⟩
          rw [Ham.out]
          go_wp2_with fail
          refine hK.out _ _ (hHeld) (fun hHeld => ?_)
          clear hK K
          try simp only [Act.put, List.setIfInBounds_toArray, List.set_cons_zero, List.set_cons_succ]
          (refine tk_yes (v := Rc.val ⟨k, te, sn, pan, am, 0, 0, 0, 0, 0, 0, 0, 0, 0, 0, 0, 0⟩) 19 (some 70) rfl rfl (by kernel_rfl) (by kernel_rfl) (by kernel_rfl) (fun _ _ _ h => h) (by rfl) ?_ hHeld ?_; focus (intro w hSw; exact ex_build29 _ _ _ _ rfl rfl rfl rfl rfl w))
          simp only [Act.put, List.setIfInBounds_toArray, List.set_cons_zero, List.set_cons_succ]
          refine wpAnyH_ready (rs := [21]) (by kernel_rfl) (by simp) ?_
          refine AllReadyH.cons rfl (fun K hK => ?_) AllReadyH.nil
          refine step_of rfl (wp_store_mid 29 _ _ rfl b7 0 (Rc.cells ⟨k, te, sn, pan, am, 0, 0, 0, 0, 0, 0, 0, 0, 0, 0, 0, 0⟩).toArray rfl rfl (by simpa [Rc.len] using V7.out.th) (by rw [n29]; simp [Rc.len]) (all_oneCell_toArray (Rc.one _)) ?_)
          have V8 := hid (V7.out.set ⟨k, te, sn, pan, am, 0, 0, 0, 0, 0, 0, 0, 0, 0, 0, 0, 0⟩)
          have L8 := hid (setCells_in (s := Rc.cells ⟨k, te, sn, pan, am, 0, 0, 0, 0, 0, 0, 0, 0, 0, 0, 0, 0⟩) LA.out hb7 0)
          have RX8 := hid (row_mono L8.out RX2.out)
          have e08 := L8.out.cell (p := ⟨b, o + 2, none⟩) HLT.out
          generalize wA.setCells b7 0 (Rc.cells ⟨k, te, sn, pan, am, 0, 0, 0, 0, 0, 0, 0, 0, 0, 0, 0, 0⟩) = w8 at *
          refine hK.out _ _ (⟨by rw [e08]; exact e00, RX8.out⟩) (fun hHeld => ?_)
          clear hK K
          try simp only [Act.put, List.setIfInBounds_toArray]
          refine wpAnyH_done (by kernel_rfl) ?_ _
          refine NoPanic.normal ?_
          go_wp2
          go_meet
          exact ⟨b7, rfl, hb7, V8.out, L8.out⟩
      · skip
        refine step_of rfl (al29w rfl ?_)
        intro b7 wA hb7' v7 l7
        have hb7 : w2.heap.size ≤ b7 := hb7'
        have V7 := hid v7
        have LA := hid (sq (Below.refl _ w2).drew l7)
        have HLT : Hid (b < w2.heap.size) := hid (World.block_lt_of_cell? w2 _ e00)
        have eA := l7.cell (p := ⟨b, o + 2, none⟩) HLT.out
        have RXA := hid (row_mono LA.out RX2.out)
        clear v7 l7
        refine hK.out _ _ (⟨by rw [eA]; exact e00, RXA.out⟩) (fun hHeld => ?_)
        clear hK K
        try simp only [Act.put, List.setIfInBounds_toArray, List.set_cons_zero, List.set_cons_succ]
        refine wpAnyH_ready (rs := [10]) (by kernel_rfl) (by simp) ?_
        refine AllReadyH.cons rfl (fun K hK => ?_) AllReadyH.nil
        go_simp
        go_at_call 31
        refine (num_at _ 4 _ (pc X 3 4) _ (pc_len (by rw [HXL.out]; omega)) ((hHeld.2).piece 3 4 (by rw [HXL.out]; omega)) (byt_pc HXB.out _ _) (by omega)).mono ?_
        rintro e w' ⟨rfl, rfl⟩
        rw [Hsn.out]
        go_wp2_with fail
        refine hK.out _ _ (hHeld) (fun hHeld => ?_)
        clear hK K
        try simp only [Act.put, List.setIfInBounds_toArray, List.set_cons_zero, List.set_cons_succ]
        (refine tk_yes (v := ?_) 11 (some 62) rfl rfl (by kernel_rfl) (by kernel_rfl) (by kernel_rfl) (fun _ _ _ h => h) (by rfl) ?_ hHeld ?_; rotate_left; focus (intro w hSw; go_simp; try with_reducible rfl))
        simp only [Act.put, List.setIfInBounds_toArray, List.set_cons_zero, List.set_cons_succ]
        (refine tk_yes (v := ?_) 12 (some 63) rfl rfl (by kernel_rfl) (by kernel_rfl) (by kernel_rfl) (fun _ _ _ h => h) (by rfl) ?_ hHeld ?_; rotate_left; focus (intro w hSw; go_simp; try with_reducible rfl))
        simp only [Act.put, List.setIfInBounds_toArray, List.set_cons_zero, List.set_cons_succ]
        refine wpAnyH_ready (rs := [15]) (by kernel_rfl) (by simp) ?_
        refine AllReadyH.cons rfl (fun K hK => ?_) AllReadyH.nil
        go_simp
        go_at_call 31
        refine (num_at _ 4 _ (pc X 7 4) _ (pc_len (by rw [HXL.out]; omega)) ((hHeld.2).piece 7 4 (by rw [HXL.out]; omega)) (byt_pc HXB.out _ _) (by omega)).mono ?_
        rintro e w' ⟨rfl, rfl⟩
        rw [Ham.out]
        go_wp2_with fail
        refine hK.out _ _ (hHeld) (fun hHeld => ?_)
        clear hK K
        try simp only [Act.put, List.setIfInBounds_toArray, List.set_cons_zero, List.set_cons_succ]
        (refine tk_yes (v := Rc.val ⟨k, te, sn, pan, am, 0, 0, 0, 0, 0, 0, 0, 0, 0, 0, 0, 0⟩) 19 (some 70) rfl rfl (by kernel_rfl) (by kernel_rfl) (by kernel_rfl) (fun _ _ _ h => h) (by rfl) ?_ hHeld ?_; focus (intro w hSw; exact ex_build29 _ _ _ _ rfl rfl rfl rfl rfl w))
        simp only [Act.put, List.setIfInBounds_toArray, List.set_cons_zero, List.set_cons_succ]
        refine wpAnyH_ready (rs := [21]) (by kernel_rfl) (by simp) ?_
        refine AllReadyH.cons rfl (fun K hK => ?_) AllReadyH.nil
        refine step_of rfl (wp_store_mid 29 _ _ rfl b7 0 (Rc.cells ⟨k, te, sn, pan, am, 0, 0, 0, 0, 0, 0, 0, 0, 0, 0, 0, 0⟩).toArray rfl rfl (by simpa [Rc.len] using V7.out.th) (by rw [n29]; simp [Rc.len]) (all_oneCell_toArray (Rc.one _)) ?_)
        have V8 := hid (V7.out.set ⟨k, te, sn, pan, am, 0, 0, 0, 0, 0, 0, 0, 0, 0, 0, 0, 0⟩)
        have L8 := hid (setCells_in (s := Rc.cells ⟨k, te, sn, pan, am, 0, 0, 0, 0, 0, 0, 0, 0, 0, 0, 0, 0⟩) LA.out hb7 0)
        have RX8 := hid (row_mono L8.out RX2.out)
        have e08 := L8.out.cell (p := ⟨b, o + 2, none⟩) HLT.out
        generalize wA.setCells b7 0 (Rc.cells ⟨k, te, sn, pan, am, 0, 0, 0, 0, 0, 0, 0, 0, 0, 0, 0, 0⟩) = w8 at *
        refine hK.out _ _ (⟨by rw [e08]; exact e00, RX8.out⟩) (fun hHeld => ?_)
        clear hK K
        try simp only [Act.put, List.setIfInBounds_toArray]
        refine wpAnyH_done (by kernel_rfl) ?_ _
        refine NoPanic.normal ?_
        go_wp2
        go_meet
        exact ⟨b7, rfl, hb7, V8.out, L8.out⟩
    · skip
      refine step_of rfl (al29w rfl ?_)
      intro b7 wA hb7' v7 l7
      have hb7 : w2.heap.size ≤ b7 := hb7'
      have V7 := hid v7
      have LA := hid (sq (Below.refl _ w2).drew l7)
      have HLT : Hid (b < w2.heap.size) := hid (World.block_lt_of_cell? w2 _ e00)
      have eA := l7.cell (p := ⟨b, o + 2, none⟩) HLT.out
      have RXA := hid (row_mono LA.out RX2.out)
      clear v7 l7
      refine hK.out _ _ (⟨by rw [eA]; exact e00, RXA.out⟩) (fun hHeld => ?_)
      clear hK K
      try simp only [Act.put, List.setIfInBounds_toArray, List.set_cons_zero, List.set_cons_succ]
      refine wpAnyH_ready (rs := [6]) (by kernel_rfl) (by simp) ?_
      refine AllReadyH.cons rfl (fun K hK => ?_) AllReadyH.nil
      go_simp
      go_at_call 31
      refine (num_at _ 2 _ (pc X 1 2) _ (pc_len (by rw [HXL.out]; omega)) ((hHeld.2).piece 1 2 (by rw [HXL.out]; omega)) (byt_pc HXB.out _ _) (by omega)).mono ?_
      rintro e w' ⟨rfl, rfl⟩
      rw [Hte.out]
      go_wp2_with fail
      refine hK.out _ _ (hHeld) (fun hHeld => ?_)
      clear hK K
      try simp only [Act.put, List.setIfInBounds_toArray, List.set_cons_zero, List.set_cons_succ]
      (refine tk_yes (v := ?_) 7 (some 58) rfl rfl (by kernel_rfl) (by kernel_rfl) (by kernel_rfl) (fun _ _ _ h => h) (by rfl) ?_ hHeld ?_; rotate_left; focus (intro w hSw; go_simp; try with_reducible rfl))
      simp only [Act.put, List.setIfInBounds_toArray, List.set_cons_zero, List.set_cons_succ]
      refine wpAnyH_ready (rs := [10]) (by kernel_rfl) (by simp) ?_
      refine AllReadyH.cons rfl (fun K hK => ?_) AllReadyH.nil
      go_simp
      go_at_call 31
      refine (num_at _ 4 _ (pc X 3 4) _ (pc_len (by rw [HXL.out]; omega)) ((hHeld.2).piece 3 4 (by rw [HXL.out]; omega)) (byt_pc HXB.out _ _) (by omega)).mono ?_
      rintro e w' ⟨rfl, rfl⟩
      rw [Hsn.out]
      go_wp2_with fail
      refine hK.out _ _ (hHeld) (fun hHeld => ?_)
      clear hK K
      try simp only [Act.put, List.setIfInBounds_toArray, List.set_cons_zero, List.set_cons_succ]
      (refine tk_yes (v := ?_) 11 (some 62) rfl rfl (by kernel_rfl) (by kernel_rfl) (by kernel_rfl) (fun _ _ _ h => h) (by rfl) ?_ hHeld ?_; rotate_left; focus (intro w hSw; go_simp; try with_reducible rfl))
      simp only [Act.put, List.setIfInBounds_toArray, List.set_cons_zero, List.set_cons_succ]
      (refine tk_yes (v := ?_) 12 (some 63) rfl rfl (by kernel_rfl) (by kernel_rfl) (by kernel_rfl) (fun _ _ _ h => h) (by rfl) ?_ hHeld ?_; rotate_left; focus (intro w hSw; go_simp; try with_reducible rfl))
      simp only [Act.put, List.setIfInBounds_toArray, List.set_cons_zero, List.set_cons_succ]
      refine wpAnyH_ready (rs := [15]) (by kernel_rfl) (by simp) ?_
      refine AllReadyH.cons rfl (fun K hK => ?_) AllReadyH.nil
      go_simp
      go_at_call 31
      refine (num_at _ 4 _ (pc X 7 4) _ (pc_len (by rw [HXL.out]; omega)) ((hHeld.2).piece 7 4 (by rw [HXL.out]; omega)) (byt_pc HXB.out _ _) (by omega)).mono ?_
      rintro e w' ⟨rfl, rfl⟩
      rw [Ham.out]
      go_wp2_with fail
      refine hK.out _ _ (hHeld) (fun hHeld => ?_)
      clear hK K
      try simp only [Act.put, List.setIfInBounds_toArray, List.set_cons_zero, List.set_cons_succ]
      (refine tk_yes (v := Rc.val ⟨k, te, sn, pan, am, 0, 0, 0, 0, 0, 0, 0, 0, 0, 0, 0, 0⟩) 19 (some 70) rfl rfl (by kernel_rfl) (by kernel_rfl) (by kernel_rfl) (fun _ _ _ h => h) (by rfl) ?_ hHeld ?_; focus (intro w hSw; exact ex_build29 _ _ _ _ rfl rfl rfl rfl rfl w))
      simp only [Act.put, List.setIfInBounds_toArray, List.set_cons_zero, List.set_cons_succ]
      refine wpAnyH_ready (rs := [21]) (by kernel_rfl) (by simp) ?_
      refine AllReadyH.cons rfl (fun K hK => ?_) AllReadyH.nil
      refine step_of rfl (wp_store_mid 29 _ _ rfl b7 0 (Rc.cells ⟨k, te, sn, pan, am, 0, 0, 0, 0, 0, 0, 0, 0, 0, 0, 0, 0⟩).toArray rfl rfl (by simpa [Rc.len] using V7.out.th) (by rw [n29]; simp [Rc.len]) (all_oneCell_toArray (Rc.one _)) ?_)
      have V8 := hid (V7.out.set ⟨k, te, sn, pan, am, 0, 0, 0, 0, 0, 0, 0, 0, 0, 0, 0, 0⟩)
      have L8 := hid (setCells_in (s := Rc.cells ⟨k, te, sn, pan, am, 0, 0, 0, 0, 0, 0, 0, 0, 0, 0, 0, 0⟩) LA.out hb7 0)
      have RX8 := hid (row_mono L8.out RX2.out)
      have e08 := L8.out.cell (p := ⟨b, o + 2, none⟩) HLT.out
      generalize wA.setCells b7 0 (Rc.cells ⟨k, te, sn, pan, am, 0, 0, 0, 0, 0, 0, 0, 0, 0, 0, 0, 0⟩) = w8 at *
      refine hK.out _ _ (⟨by rw [e08]; exact e00, RX8.out⟩) (fun hHeld => ?_)
      clear hK K
      try simp only [Act.put, List.setIfInBounds_toArray]
      refine wpAnyH_done (by kernel_rfl) ?_ _
      refine NoPanic.normal ?_
      go_wp2
      go_meet
      exact ⟨b7, rfl, hb7, V8.out, L8.out⟩
  case rest =>
    obtain ⟨b7, rfl, hb7, v7, l7⟩ := hcut
    have V7 := hid v7
    have L7 := hid l7
    have hb72 : b2 < b7 := Nat.lt_of_lt_of_le V2.out.lt hb7
    clear v7 l7
    go_wp2
    go_loopw [8] (fun i wr => ∃ (j : Nat), j ≤ 4 ∧ i = .int .i64 (j : Int) ∧ RV wr b7 ⟨k, te, sn, pan, am, kk j 0 x0, kk j 1 x1, kk j 2 x2, kk j 3 x3, kk j 0 y0, kk j 1 y1, kk j 2 y2, kk j 3 y3, kk j 0 z0, kk j 1 z1, kk j 2 z2, kk j 3 z3⟩ ∧ Below w2.heap.size w2 wr) (fun i _ => 4 - (intOf i).toNat)
    case atStart => exact ⟨0, by omega, rfl, V7.out, L7.out⟩
    case round =>
      obtain ⟨j, hj, rfl, hV, hL⟩ := hrel
      have VR := hid hV
      have LR := hid hL
      clear hV hL V7 L7
      by_cases hlt : j < 4
      · have h4 : j = 0 ∨ j = 1 ∨ j = 2 ∨ j = 3 := by omega
        rcases h4 with rfl | rfl | rfl | rfl
        · skip
          have V0 : Hid (RV wr b7 ⟨k, te, sn, pan, am, 0, 0, 0, 0, 0, 0, 0, 0, 0, 0, 0, 0⟩) := VR
          rw [show ((0 : Nat) : Int) = 0 from rfl]
          have RXR := hid (row_mono LR.out RX2.out)
          have q0 : IntKind.i64.wrap 0 = 0 := by kernel_rfl
          have q11 : IntKind.i64.wrap 11 = 11 := by kernel_rfl
          have q13 : IntKind.i64.wrap 13 = 13 := by kernel_rfl
          have q19 : IntKind.i64.wrap 19 = 19 := by kernel_rfl
          have q21 : IntKind.i64.wrap 21 = 21 := by kernel_rfl
          have q27 : IntKind.i64.wrap 27 = 27 := by kernel_rfl
          have q29 : IntKind.i64.wrap 29 = 29 := by kernel_rfl
          have a11 : ¬ cap - 2 = 11 := by omega
          have c11 : (13 : Int) ≤ ((cap - 2 : Nat) : Int) := by omega
          have a19 : ¬ cap - 2 = 19 := by omega
          have c19 : (21 : Int) ≤ ((cap - 2 : Nat) : Int) := by omega
          have a27 : ¬ cap - 2 = 27 := by omega
          have c27 : (29 : Int) ≤ ((cap - 2 : Nat) : Int) := by omega
          go_wp2
          refine wp_region_noPanic ?_
          refine wp_region_held_drew (S := (fun w' => RowAt w' (some ⟨b, o + 2, none⟩) X)) (by kernel_rfl) (RXR.out) (fun hHeld => ?_)
          (refine tk_yes (v := ?_) 0 (some 75) rfl rfl (by kernel_rfl) (by kernel_rfl) (by kernel_rfl) (fun _ _ _ h => h) (by rfl) ?_ hHeld ?_; rotate_left; focus (intro w hSw; go_simp; try with_reducible rfl))
          simp only [Act.put, List.setIfInBounds_toArray, List.set_cons_zero, List.set_cons_succ]
          (refine tk_yes (v := ?_) 1 (some 76) rfl rfl (by kernel_rfl) (by kernel_rfl) (by kernel_rfl) (fun _ _ _ h => h) (by rfl) ?_ hHeld ?_; rotate_left; focus (intro w hSw; go_simp; try with_reducible rfl))
          simp only [Act.put, List.setIfInBounds_toArray, List.set_cons_zero, List.set_cons_succ]
          (refine tk_yes (v := ?_) 2 (some 77) rfl rfl (by kernel_rfl) (by kernel_rfl) (by kernel_rfl) (fun _ _ _ h => h) (by rfl) ?_ hHeld ?_; rotate_left; focus (intro w hSw; go_simp; try with_reducible rfl))
          simp only [Act.put, List.setIfInBounds_toArray, List.set_cons_zero, List.set_cons_succ]
          (refine tk_yes (v := ?_) 3 (some 78) rfl rfl (by kernel_rfl) (by kernel_rfl) (by kernel_rfl) (fun _ _ _ h => h) (by rfl) ?_ hHeld ?_; rotate_left; focus (intro w hSw; go_simp; try with_reducible rfl))
          simp only [Act.put, List.setIfInBounds_toArray, List.set_cons_zero, List.set_cons_succ]
          (refine tk_yes (v := ?_) 4 (some 79) rfl rfl (by kernel_rfl) (by kernel_rfl) (by kernel_rfl) (fun _ _ _ h => h) (by rfl) ?_ hHeld ?_; rotate_left; focus (intro w hSw; go_simp; try with_reducible rfl))
          simp only [Act.put, List.setIfInBounds_toArray, List.set_cons_zero, List.set_cons_succ]
          (refine tk_yes (v := ?_) 5 (some 80) rfl rfl (by kernel_rfl) (by kernel_rfl) (by kernel_rfl) (fun _ _ _ h => h) (by rfl) ?_ hHeld ?_; rotate_left; focus (intro w hSw; go_simp; try with_reducible rfl))
          simp only [Act.put, List.setIfInBounds_toArray, List.set_cons_zero, List.set_cons_succ]
          (refine tk_yes (v := ?_) 6 (some 81) rfl rfl (by kernel_rfl) (by kernel_rfl) (by kernel_rfl) (fun _ _ _ h => h) (by rfl) ?_ hHeld ?_; rotate_left; focus (intro w hSw; go_simp; try with_reducible rfl))
          simp only [Act.put, List.setIfInBounds_toArray, List.set_cons_zero, List.set_cons_succ]
          (refine tk_yes (v := ?_) 7 (some 82) rfl rfl (by kernel_rfl) (by kernel_rfl) (by kernel_rfl) (fun _ _ _ h => h) (by rfl) ?_ hHeld ?_; rotate_left; focus (intro w hSw; go_simp; try with_reducible rfl))
          simp only [Act.put, List.setIfInBounds_toArray, List.set_cons_zero, List.set_cons_succ]
          (refine tk_yes (v := ?_) 8 (some 83) rfl rfl (by kernel_rfl) (by kernel_rfl) (by kernel_rfl) (fun _ _ _ h => h) (by rfl) ?_ hHeld ?_; rotate_left; focus (intro w hSw; go_simp; try with_reducible rfl))
          simp only [Act.put, List.setIfInBounds_toArray, List.set_cons_zero, List.set_cons_succ]
          (refine tk_yes (v := ?_) 9 (some 84) rfl rfl (by kernel_rfl) (by kernel_rfl) (by kernel_rfl) (fun _ _ _ h => h) (by rfl) ?_ hHeld ?_; rotate_left; focus (intro w hSw; go_simp; try with_reducible rfl))
          simp only [Act.put, List.setIfInBounds_toArray, List.set_cons_zero, List.set_cons_succ]
          (refine tk_yes (v := ?_) 10 (some 85) rfl rfl (by kernel_rfl) (by kernel_rfl) (by kernel_rfl) (fun _ _ _ h => h) (by rfl) ?_ hHeld ?_; rotate_left; focus (intro w hSw; go_simp; try with_reducible rfl))
          simp only [Act.put, List.setIfInBounds_toArray, List.set_cons_zero, List.set_cons_succ]
          (refine tk_yes (v := ?_) 12 (some 87) rfl rfl (by kernel_rfl) (by kernel_rfl) (by kernel_rfl) (fun _ _ _ h => h) (by rfl) ?_ hHeld ?_; rotate_left; focus (intro w hSw; go_simp; try with_reducible rfl))
          simp only [Act.put, List.setIfInBounds_toArray, List.set_cons_zero, List.set_cons_succ]
          (refine tk_yes (v := ?_) 13 (some 88) rfl rfl (by kernel_rfl) (by kernel_rfl) (by kernel_rfl) (fun _ _ _ h => h) (by rfl) ?_ hHeld ?_; rotate_left; focus (intro w hSw; go_simp; try with_reducible rfl))
          simp only [Act.put, List.setIfInBounds_toArray, List.set_cons_zero, List.set_cons_succ]
          (refine tk_yes (v := ?_) 14 (some 89) rfl rfl (by kernel_rfl) (by kernel_rfl) (by kernel_rfl) (fun _ _ _ h => h) (by rfl) ?_ hHeld ?_; rotate_left; focus (intro w hSw; go_simp; try with_reducible rfl))
          simp only [Act.put, List.setIfInBounds_toArray, List.set_cons_zero, List.set_cons_succ]
          (refine tk_yes (v := ?_) 15 (some 90) rfl rfl (by kernel_rfl) (by kernel_rfl) (by kernel_rfl) (fun _ _ _ h => h) (by rfl) ?_ hHeld ?_; rotate_left; focus (intro w hSw; go_simp; try with_reducible rfl))
          simp only [Act.put, List.setIfInBounds_toArray, List.set_cons_zero, List.set_cons_succ]
          (refine tk_yes (v := ?_) 16 (some 91) rfl rfl (by kernel_rfl) (by kernel_rfl) (by kernel_rfl) (fun _ _ _ h => h) (by rfl) ?_ hHeld ?_; rotate_left; focus (intro w hSw; go_simp; try with_reducible rfl))
          simp only [Act.put, List.setIfInBounds_toArray, List.set_cons_zero, List.set_cons_succ]
          (refine tk_yes (v := ?_) 17 (some 92) rfl rfl (by kernel_rfl) (by kernel_rfl) (by kernel_rfl) (fun _ _ _ h => h) (by rfl) ?_ hHeld ?_; rotate_left; focus (intro w hSw; go_simp; try with_reducible rfl))
          simp only [Act.put, List.setIfInBounds_toArray, List.set_cons_zero, List.set_cons_succ]
          (refine tk_yes (v := ?_) 18 (some 93) rfl rfl (by kernel_rfl) (by kernel_rfl) (by kernel_rfl) (fun _ _ _ h => h) (by rfl) ?_ hHeld ?_; rotate_left; focus (intro w hSw; go_simp; try with_reducible rfl))
          simp only [Act.put, List.setIfInBounds_toArray, List.set_cons_zero, List.set_cons_succ]
          (refine tk_yes (v := ?_) 19 (some 94) rfl rfl (by kernel_rfl) (by kernel_rfl) (by kernel_rfl) (fun _ _ _ h => h) (by rfl) ?_ hHeld ?_; rotate_left; focus (intro w hSw; go_simp; try with_reducible rfl))
          simp only [Act.put, List.setIfInBounds_toArray, List.set_cons_zero, List.set_cons_succ]
          (refine tk_yes (v := ?_) 21 (some 96) rfl rfl (by kernel_rfl) (by kernel_rfl) (by kernel_rfl) (fun _ _ _ h => h) (by rfl) ?_ hHeld ?_; rotate_left; focus (intro w hSw; go_simp; try with_reducible rfl))
          simp only [Act.put, List.setIfInBounds_toArray, List.set_cons_zero, List.set_cons_succ]
          (refine tk_yes (v := ?_) 22 (some 97) rfl rfl (by kernel_rfl) (by kernel_rfl) (by kernel_rfl) (fun _ _ _ h => h) (by rfl) ?_ hHeld ?_; rotate_left; focus (intro w hSw; go_simp; try with_reducible rfl))
          simp only [Act.put, List.setIfInBounds_toArray, List.set_cons_zero, List.set_cons_succ]
          (refine tk_yes (v := ?_) 23 (some 98) rfl rfl (by kernel_rfl) (by kernel_rfl) (by kernel_rfl) (fun _ _ _ h => h) (by rfl) ?_ hHeld ?_; rotate_left; focus (intro w hSw; go_simp; try with_reducible rfl))
          simp only [Act.put, List.setIfInBounds_toArray, List.set_cons_zero, List.set_cons_succ]
          (refine tk_yes (v := ?_) 24 (some 99) rfl rfl (by kernel_rfl) (by kernel_rfl) (by kernel_rfl) (fun _ _ _ h => h) (by rfl) ?_ hHeld ?_; rotate_left; focus (intro w hSw; go_simp; try with_reducible rfl))
          simp only [Act.put, List.setIfInBounds_toArray, List.set_cons_zero, List.set_cons_succ]
          (refine tk_yes (v := ?_) 25 (some 100) rfl rfl (by kernel_rfl) (by kernel_rfl) (by kernel_rfl) (fun _ _ _ h => h) (by rfl) ?_ hHeld ?_; rotate_left; focus (intro w hSw; go_simp; try with_reducible rfl))
          simp only [Act.put, List.setIfInBounds_toArray, List.set_cons_zero, List.set_cons_succ]
          (refine tk_yes (v := ?_) 26 (some 101) rfl rfl (by kernel_rfl) (by kernel_rfl) (by kernel_rfl) (fun _ _ _ h => h) (by rfl) ?_ hHeld ?_; rotate_left; focus (intro w hSw; go_simp; try with_reducible rfl))
          simp only [Act.put, List.setIfInBounds_toArray, List.set_cons_zero, List.set_cons_succ]
          (refine tk_yes (v := ?_) 27 (some 102) rfl rfl (by kernel_rfl) (by kernel_rfl) (by kernel_rfl) (fun _ _ _ h => h) (by rfl) ?_ hHeld ?_; rotate_left; focus (intro w hSw; go_simp; try with_reducible rfl))
          simp only [Act.put, List.setIfInBounds_toArray, List.set_cons_zero, List.set_cons_succ]
          (refine tk_yes (v := ?_) 28 (some 103) rfl rfl (by kernel_rfl) (by kernel_rfl) (by kernel_rfl) (fun _ _ _ h => h) (by rfl) ?_ hHeld ?_; rotate_left; focus (intro w hSw; go_simp; try with_reducible rfl))
          simp only [Act.put, List.setIfInBounds_toArray, List.set_cons_zero, List.set_cons_succ]
          (refine tk_yes (v := ?_) 30 (some 105) rfl rfl (by kernel_rfl) (by kernel_rfl) (by kernel_rfl) (fun _ _ _ h => h) (by rfl) ?_ hHeld ?_; rotate_left; focus (intro w hSw; go_simp; try with_reducible rfl))
          simp only [Act.put, List.setIfInBounds_toArray, List.set_cons_zero, List.set_cons_succ]
          (refine tk_yes (v := ?_) 33 (some 107) rfl rfl (by kernel_rfl) (by kernel_rfl) (by kernel_rfl) (fun _ _ _ h => h) (by rfl) ?_ hHeld ?_; rotate_left; focus (intro w hSw; go_simp; try with_reducible rfl))
          simp only [Act.put, List.setIfInBounds_toArray, List.set_cons_zero, List.set_cons_succ]
          (refine tk_yes (v := ?_) 36 (some 109) rfl rfl (by kernel_rfl) (by kernel_rfl) (by kernel_rfl) (fun _ _ _ h => h) (by rfl) ?_ hHeld ?_; rotate_left; focus (intro w hSw; go_simp; try with_reducible rfl))
          simp only [Act.put, List.setIfInBounds_toArray, List.set_cons_zero, List.set_cons_succ]
          refine wpAnyH_ready (rs := [11]) (by kernel_rfl) (by simp) ?_
          refine AllReadyH.cons rfl (fun K hK => ?_) AllReadyH.nil
          go_simp
          go_at_call 31
          refine (num_at _ 2 _ (pc X 11 2) _ (pc_len (by rw [HXL.out]; omega)) (hHeld.piece 11 2 (by rw [HXL.out]; omega)) (byt_pc HXB.out _ _) (by omega)).mono ?_
          rintro e w' ⟨rfl, rfl⟩
          rw [Hx0.out]
          go_wp2_with fail
          refine hK.out _ _ (hHeld) (fun hHeld => ?_)
          clear hK K
          try simp only [Act.put, List.setIfInBounds_toArray, List.set_cons_zero, List.set_cons_succ]
          (refine tk_yes (v := ?_) 31 (some 106) rfl rfl (by kernel_rfl) (by kernel_rfl) (by kernel_rfl) (fun _ _ _ h => h) (by rfl) ?_ hHeld ?_; rotate_left; focus (intro w hSw; go_simp; try with_reducible rfl))
          simp only [Act.put, List.setIfInBounds_toArray, List.set_cons_zero, List.set_cons_succ]
          refine wpAnyH_ready (rs := [20]) (by kernel_rfl) (by simp) ?_
          refine AllReadyH.cons rfl (fun K hK => ?_) AllReadyH.nil
          go_simp
          go_at_call 31
          refine (num_at _ 2 _ (pc X 19 2) _ (pc_len (by rw [HXL.out]; omega)) (hHeld.piece 19 2 (by rw [HXL.out]; omega)) (byt_pc HXB.out _ _) (by omega)).mono ?_
          rintro e w' ⟨rfl, rfl⟩
          rw [Hy0.out]
          go_wp2_with fail
          refine hK.out _ _ (hHeld) (fun hHeld => ?_)
          clear hK K
          try simp only [Act.put, List.setIfInBounds_toArray, List.set_cons_zero, List.set_cons_succ]
          refine wpAnyH_ready (rs := [29]) (by kernel_rfl) (by simp) ?_
          refine AllReadyH.cons rfl (fun K hK => ?_) AllReadyH.nil
          go_simp
          go_at_call 31
          refine (num_at _ 2 _ (pc X 27 2) _ (pc_len (by rw [HXL.out]; omega)) (hHeld.piece 27 2 (by rw [HXL.out]; omega)) (byt_pc HXB.out _ _) (by omega)).mono ?_
          rintro e w' ⟨rfl, rfl⟩
          rw [Hz0.out]
          go_wp2_with fail
          refine hK.out _ _ (hHeld) (fun hHeld => ?_)
          clear hK K
          try simp only [Act.put, List.setIfInBounds_toArray, List.set_cons_zero, List.set_cons_succ]
          refine wpAnyH_ready (rs := [32]) (by kernel_rfl) (by simp) ?_
          refine AllReadyH.cons rfl (fun K hK => ?_) AllReadyH.nil
          refine step_of rfl (st_csw 3 [.int .i64 x0] (fun i hi => by have := (V0.out.below (Below.refl _ wr).drew).th (5 + i) (by simp at hi; omega); rwa [Nat.zero_add] at this) n3 (one1 rfl) _ _ rfl rfl rfl rfl ?_)
          have VV0 := hid ((V0.out.below (Below.refl _ wr).drew).part (o := 5) (r' := ⟨k, te, sn, pan, am, x0, 0, 0, 0, 0, 0, 0, 0, 0, 0, 0, 0⟩) (cs := [.int .i64 x0]) (by simp) rfl)
          have LL0 := hid (setCells_in (s := [.int .i64 x0]) (sq LR.out (Below.refl _ wr).drew) hb7 5)
          generalize wr.drew.setCells b7 5 [.int .i64 x0] = ws0 at *
          refine hK.out _ _ (row_mono LL0.out RX2.out) (fun hHeld => ?_)
          clear hK K
          try simp only [Act.put, List.setIfInBounds_toArray]
          (refine tk_yes (v := ?_) 34 (some 108) rfl rfl (by kernel_rfl) (by kernel_rfl) (by kernel_rfl) (fun _ _ _ h => h) (by rfl) ?_ hHeld ?_; rotate_left; focus (intro w hSw; go_simp; try with_reducible rfl))
          simp only [Act.put]
          refine wpAnyH_ready (rs := [35]) (by kernel_rfl) (by simp) ?_
          refine AllReadyH.cons rfl (fun K hK => ?_) AllReadyH.nil
          refine step_of rfl (st_csw 3 [.int .i64 y0] (fun i hi => by have := VV0.out.th (9 + i) (by simp at hi; omega); rwa [Nat.zero_add] at this) n3 (one1 rfl) _ _ rfl rfl rfl rfl ?_)
          have VV1 := hid (VV0.out.part (o := 9) (r' := ⟨k, te, sn, pan, am, x0, 0, 0, 0, y0, 0, 0, 0, 0, 0, 0, 0⟩) (cs := [.int .i64 y0]) (by simp) rfl)
          have LL1 := hid (setCells_in (s := [.int .i64 y0]) LL0.out hb7 9)
          generalize ws0.setCells b7 9 [.int .i64 y0] = ws1 at *
          refine hK.out _ _ (row_mono LL1.out RX2.out) (fun hHeld => ?_)
          clear hK K
          try simp only [Act.put]
          (refine tk_yes (v := ?_) 37 (some 110) rfl rfl (by kernel_rfl) (by kernel_rfl) (by kernel_rfl) (fun _ _ _ h => h) (by rfl) ?_ hHeld ?_; rotate_left; focus (intro w hSw; go_simp; try with_reducible rfl))
          simp only [Act.put]
          refine wpAnyH_ready (rs := [38]) (by kernel_rfl) (by simp) ?_
          refine AllReadyH.cons rfl (fun K hK => ?_) AllReadyH.nil
          refine step_of rfl (st_csw 3 [.int .i64 z0] (fun i hi => by have := VV1.out.th (13 + i) (by simp at hi; omega); rwa [Nat.zero_add] at this) n3 (one1 rfl) _ _ rfl rfl rfl rfl ?_)
          have VV2 := hid (VV1.out.part (o := 13) (r' := ⟨k, te, sn, pan, am, x0, 0, 0, 0, y0, 0, 0, 0, z0, 0, 0, 0⟩) (cs := [.int .i64 z0]) (by simp) rfl)
          have LL2 := hid (setCells_in (s := [.int .i64 z0]) LL1.out hb7 13)
          generalize ws1.setCells b7 13 [.int .i64 z0] = ws2 at *
          refine hK.out _ _ (row_mono LL2.out RX2.out) (fun hHeld => ?_)
          clear hK K
          try simp only [Act.put]
          refine wpAnyH_done (by kernel_rfl) ?_ _
          refine NoPanic.normal ?_
          go_wp2
          go_roundw
          case rel => exact ⟨1, by omega, by go_num, VV2.out, LL2.out⟩
          case measure => simp [intOf]
        · skip
          have V0 : Hid (RV wr b7 ⟨k, te, sn, pan, am, x0, 0, 0, 0, y0, 0, 0, 0, z0, 0, 0, 0⟩) := VR
          rw [show ((1 : Nat) : Int) = 1 from rfl]
          have RXR := hid (row_mono LR.out RX2.out)
          have q2 : IntKind.i64.wrap 2 = 2 := by kernel_rfl
          have q13 : IntKind.i64.wrap 13 = 13 := by kernel_rfl
          have q15 : IntKind.i64.wrap 15 = 15 := by kernel_rfl
          have q21 : IntKind.i64.wrap 21 = 21 := by kernel_rfl
          have q23 : IntKind.i64.wrap 23 = 23 := by kernel_rfl
          have q29 : IntKind.i64.wrap 29 = 29 := by kernel_rfl
          have q31 : IntKind.i64.wrap 31 = 31 := by kernel_rfl
          have a11 : ¬ cap - 2 = 13 := by omega
          have c11 : (15 : Int) ≤ ((cap - 2 : Nat) : Int) := by omega
          have a19 : ¬ cap - 2 = 21 := by omega
          have c19 : (23 : Int) ≤ ((cap - 2 : Nat) : Int) := by omega
          have a27 : ¬ cap - 2 = 29 := by omega
          have c27 : (31 : Int) ≤ ((cap - 2 : Nat) : Int) := by omega
          go_wp2
          refine wp_region_noPanic ?_
          refine wp_region_held_drew (S := (fun w' => RowAt w' (some ⟨b, o + 2, none⟩) X)) (by kernel_rfl) (RXR.out) (fun hHeld => ?_)
          (refine tk_yes (v := ?_) 0 (some 75) rfl rfl (by kernel_rfl) (by kernel_rfl) (by kernel_rfl) (fun _ _ _ h => h) (by rfl) ?_ hHeld ?_; rotate_left; focus (intro w hSw; go_simp; try with_reducible rfl))
          simp only [Act.put, List.setIfInBounds_toArray, List.set_cons_zero, List.set_cons_succ]
          (refine tk_yes (v := ?_) 1 (some 76) rfl rfl (by kernel_rfl) (by kernel_rfl) (by kernel_rfl) (fun _ _ _ h => h) (by rfl) ?_ hHeld ?_; rotate_left; focus (intro w hSw; go_simp; try with_reducible rfl))
          simp only [Act.put, List.setIfInBounds_toArray, List.set_cons_zero, List.set_cons_succ]
          (refine tk_yes (v := ?_) 2 (some 77) rfl rfl (by kernel_rfl) (by kernel_rfl) (by kernel_rfl) (fun _ _ _ h => h) (by rfl) ?_ hHeld ?_; rotate_left; focus (intro w hSw; go_simp; try with_reducible rfl))
          simp only [Act.put, List.setIfInBounds_toArray, List.set_cons_zero, List.set_cons_succ]
          (refine tk_yes (v := ?_) 3 (some 78) rfl rfl (by kernel_rfl) (by kernel_rfl) (by kernel_rfl) (fun _ _ _ h => h) (by rfl) ?_ hHeld ?_; rotate_left; focus (intro w hSw; go_simp; try with_reducible rfl))
          simp only [Act.put, List.setIfInBounds_toArray, List.set_cons_zero, List.set_cons_succ]
          (refine tk_yes (v := ?_) 4 (some 79) rfl rfl (by kernel_rfl) (by kernel_rfl) (by kernel_rfl) (fun _ _ _ h => h) (by rfl) ?_ hHeld ?_; rotate_left; focus (intro w hSw; go_simp; try with_reducible rfl))
          simp only [Act.put, List.setIfInBounds_toArray, List.set_cons_zero, List.set_cons_succ]
          (refine tk_yes (v := ?_) 5 (some 80) rfl rfl (by kernel_rfl) (by kernel_rfl) (by kernel_rfl) (fun _ _ _ h => h) (by rfl) ?_ hHeld ?_; rotate_left; focus (intro w hSw; go_simp; try with_reducible rfl))
          simp only [Act.put, List.setIfInBounds_toArray, List.set_cons_zero, List.set_cons_succ]
          (refine tk_yes (v := ?_) 6 (some 81) rfl rfl (by kernel_rfl) (by kernel_rfl) (by kernel_rfl) (fun _ _ _ h => h) (by rfl) ?_ hHeld ?_; rotate_left; focus (intro w hSw; go_simp; try with_reducible rfl))
          simp only [Act.put, List.setIfInBounds_toArray, List.set_cons_zero, List.set_cons_succ]
          (refine tk_yes (v := ?_) 7 (some 82) rfl rfl (by kernel_rfl) (by kernel_rfl) (by kernel_rfl) (fun _ _ _ h => h) (by rfl) ?_ hHeld ?_; rotate_left; focus (intro w hSw; go_simp; try with_reducible rfl))
          simp only [Act.put, List.setIfInBounds_toArray, List.set_cons_zero, List.set_cons_succ]
          (refine tk_yes (v := ?_) 8 (some 83) rfl rfl (by kernel_rfl) (by kernel_rfl) (by kernel_rfl) (fun _ _ _ h => h) (by rfl) ?_ hHeld ?_; rotate_left; focus (intro w hSw; go_simp; try with_reducible rfl))
          simp only [Act.put, List.setIfInBounds_toArray, List.set_cons_zero, List.set_cons_succ]
          (refine tk_yes (v := ?_) 9 (some 84) rfl rfl (by kernel_rfl) (by kernel_rfl) (by kernel_rfl) (fun _ _ _ h => h) (by rfl) ?_ hHeld ?_; rotate_left; focus (intro w hSw; go_simp; try with_reducible rfl))
          simp only [Act.put, List.setIfInBounds_toArray, List.set_cons_zero, List.set_cons_succ]
          (refine tk_yes (v := ?_) 10 (some 85) rfl rfl (by kernel_rfl) (by kernel_rfl) (by kernel_rfl) (fun _ _ _ h => h) (by rfl) ?_ hHeld ?_; rotate_left; focus (intro w hSw; go_simp; try with_reducible rfl))
          simp only [Act.put, List.setIfInBounds_toArray, List.set_cons_zero, List.set_cons_succ]
          (refine tk_yes (v := ?_) 12 (some 87) rfl rfl (by kernel_rfl) (by kernel_rfl) (by kernel_rfl) (fun _ _ _ h => h) (by rfl) ?_ hHeld ?_; rotate_left; focus (intro w hSw; go_simp; try with_reducible rfl))
          simp only [Act.put, List.setIfInBounds_toArray, List.set_cons_zero, List.set_cons_succ]
          (refine tk_yes (v := ?_) 13 (some 88) rfl rfl (by kernel_rfl) (by kernel_rfl) (by kernel_rfl) (fun _ _ _ h => h) (by rfl) ?_ hHeld ?_; rotate_left; focus (intro w hSw; go_simp; try with_reducible rfl))
          simp only [Act.put, List.setIfInBounds_toArray, List.set_cons_zero, List.set_cons_succ]
          (refine tk_yes (v := ?_) 14 (some 89) rfl rfl (by kernel_rfl) (by kernel_rfl) (by kernel_rfl) (fun _ _ _ h => h) (by rfl) ?_ hHeld ?_; rotate_left; focus (intro w hSw; go_simp; try with_reducible rfl))
          simp only [Act.put, List.setIfInBounds_toArray, List.set_cons_zero, List.set_cons_succ]
          (refine tk_yes (v := ?_) 15 (some 90) rfl rfl (by kernel_rfl) (by kernel_rfl) (by kernel_rfl) (fun _ _ _ h => h) (by rfl) ?_ hHeld ?_; rotate_left; focus (intro w hSw; go_simp; try with_reducible rfl))
          simp only [Act.put, List.setIfInBounds_toArray, List.set_cons_zero, List.set_cons_succ]
          (refine tk_yes (v := ?_) 16 (some 91) rfl rfl (by kernel_rfl) (by kernel_rfl) (by kernel_rfl) (fun _ _ _ h => h) (by rfl) ?_ hHeld ?_; rotate_left; focus (intro w hSw; go_simp; try with_reducible rfl))
          simp only [Act.put, List.setIfInBounds_toArray, List.set_cons_zero, List.set_cons_succ]
          (refine tk_yes (v := ?_) 17 (some 92) rfl rfl (by kernel_rfl) (by kernel_rfl) (by kernel_rfl) (fun _ _ _ h => h) (by rfl) ?_ hHeld ?_; rotate_left; focus (intro w hSw; go_simp; try with_reducible rfl))
          simp only [Act.put, List.setIfInBounds_toArray, List.set_cons_zero, List.set_cons_succ]
          (refine tk_yes (v := ?_) 18 (some 93) rfl rfl (by kernel_rfl) (by kernel_rfl) (by kernel_rfl) (fun _ _ _ h => h) (by rfl) ?_ hHeld ?_; rotate_left; focus (intro w hSw; go_simp; try with_reducible rfl))
          simp only [Act.put, List.setIfInBounds_toArray, List.set_cons_zero, List.set_cons_succ]
          (refine tk_yes (v := ?_) 19 (some 94) rfl rfl (by kernel_rfl) (by kernel_rfl) (by kernel_rfl) (fun _ _ _ h => h) (by rfl) ?_ hHeld ?_; rotate_left; focus (intro w hSw; go_simp; try with_reducible rfl))
          simp only [Act.put, List.setIfInBounds_toArray, List.set_cons_zero, List.set_cons_succ]
          (refine tk_yes (v := ?_) 21 (some 96) rfl rfl (by kernel_rfl) (by kernel_rfl) (by kernel_rfl) (fun _ _ _ h => h) (by rfl) ?_ hHeld ?_; rotate_left; focus (intro w hSw; go_simp; try with_reducible rfl))
          simp only [Act.put, List.setIfInBounds_toArray, List.set_cons_zero, List.set_cons_succ]
          (refine tk_yes (v := ?_) 22 (some 97) rfl rfl (by kernel_rfl) (by kernel_rfl) (by kernel_rfl) (fun _ _ _ h => h) (by rfl) ?_ hHeld ?_; rotate_left; focus (intro w hSw; go_simp; try with_reducible rfl))
          simp only [Act.put, List.setIfInBounds_toArray, List.set_cons_zero, List.set_cons_succ]
          (refine tk_yes (v := ?_) 23 (some 98) rfl rfl (by kernel_rfl) (by kernel_rfl) (by kernel_rfl) (fun _ _ _ h => h) (by rfl) ?_ hHeld ?_; rotate_left; focus (intro w hSw; go_simp; try with_reducible rfl))
          simp only [Act.put, List.setIfInBounds_toArray, List.set_cons_zero, List.set_cons_succ]
          (refine tk_yes (v := ?_) 24 (some 99) rfl rfl (by kernel_rfl) (by kernel_rfl) (by kernel_rfl) (fun _ _ _ h => h) (by rfl) ?_ hHeld ?_; rotate_left; focus (intro w hSw; go_simp; try with_reducible rfl))
          simp only [Act.put, List.setIfInBounds_toArray, List.set_cons_zero, List.set_cons_succ]
          (refine tk_yes (v := ?_) 25 (some 100) rfl rfl (by kernel_rfl) (by kernel_rfl) (by kernel_rfl) (fun _ _ _ h => h) (by rfl) ?_ hHeld ?_; rotate_left; focus (intro w hSw; go_simp; try with_reducible rfl))
          simp only [Act.put, List.setIfInBounds_toArray, List.set_cons_zero, List.set_cons_succ]
          (refine tk_yes (v := ?_) 26 (some 101) rfl rfl (by kernel_rfl) (by kernel_rfl) (by kernel_rfl) (fun _ _ _ h => h) (by rfl) ?_ hHeld ?_; rotate_left; focus (intro w hSw; go_simp; try with_reducible rfl))
          simp only [Act.put, List.setIfInBounds_toArray, List.set_cons_zero, List.set_cons_succ]
          (refine tk_yes (v := ?_) 27 (some 102) rfl rfl (by kernel_rfl) (by kernel_rfl) (by kernel_rfl) (fun _ _ _ h => h) (by rfl) ?_ hHeld ?_; rotate_left; focus (intro w hSw; go_simp; try with_reducible rfl))
          simp only [Act.put, List.setIfInBounds_toArray, List.set_cons_zero, List.set_cons_succ]
          (refine tk_yes (v := ?_) 28 (some 103) rfl rfl (by kernel_rfl) (by kernel_rfl) (by kernel_rfl) (fun _ _ _ h => h) (by rfl) ?_ hHeld ?_; rotate_left; focus (intro w hSw; go_simp; try with_reducible rfl))
          simp only [Act.put, List.setIfInBounds_toArray, List.set_cons_zero, List.set_cons_succ]
          (refine tk_yes (v := ?_) 30 (some 105) rfl rfl (by kernel_rfl) (by kernel_rfl) (by kernel_rfl) (fun _ _ _ h => h) (by rfl) ?_ hHeld ?_; rotate_left; focus (intro w hSw; go_simp; try with_reducible rfl))
          simp only [Act.put, List.setIfInBounds_toArray, List.set_cons_zero, List.set_cons_succ]
          (refine tk_yes (v := ?_) 33 (some 107) rfl rfl (by kernel_rfl) (by kernel_rfl) (by kernel_rfl) (fun _ _ _ h => h) (by rfl) ?_ hHeld ?_; rotate_left; focus (intro w hSw; go_simp; try with_reducible rfl))
          simp only [Act.put, List.setIfInBounds_toArray, List.set_cons_zero, List.set_cons_succ]
          (refine tk_yes (v := ?_) 36 (some 109) rfl rfl (by kernel_rfl) (by kernel_rfl) (by kernel_rfl) (fun _ _ _ h => h) (by rfl) ?_ hHeld ?_; rotate_left; focus (intro w hSw; go_simp; try with_reducible rfl))
          simp only [Act.put, List.setIfInBounds_toArray, List.set_cons_zero, List.set_cons_succ]
          refine wpAnyH_ready (rs := [11]) (by kernel_rfl) (by simp) ?_
          refine AllReadyH.cons rfl (fun K hK => ?_) AllReadyH.nil
          go_simp
          go_at_call 31
          refine (num_at _ 2 _ (pc X 13 2) _ (pc_len (by rw [HXL.out]; omega)) (hHeld.piece 13 2 (by rw [HXL.out]; omega)) (byt_pc HXB.out _ _) (by omega)).mono ?_
          rintro e w' ⟨rfl, rfl⟩
          rw [Hx1.out]
          go_wp2_with fail
          refine hK.out _ _ (hHeld) (fun hHeld => ?_)
          clear hK K
          try simp only [Act.put, List.setIfInBounds_toArray, List.set_cons_zero, List.set_cons_succ]
          (refine tk_yes (v := ?_) 31 (some 106) rfl rfl (by kernel_rfl) (by kernel_rfl) (by kernel_rfl) (fun _ _ _ h => h) (by rfl) ?_ hHeld ?_; rotate_left; focus (intro w hSw; go_simp; try with_reducible rfl))
          simp only [Act.put, List.setIfInBounds_toArray, List.set_cons_zero, List.set_cons_succ]
          refine wpAnyH_ready (rs := [20]) (by kernel_rfl) (by simp) ?_
          refine AllReadyH.cons rfl (fun K hK => ?_) AllReadyH.nil
          go_simp
          go_at_call 31
          refine (num_at _ 2 _ (pc X 21 2) _ (pc_len (by rw [HXL.out]; omega)) (hHeld.piece 21 2 (by rw [HXL.out]; omega)) (byt_pc HXB.out _ _) (by omega)).mono ?_
          rintro e w' ⟨rfl, rfl⟩
          rw [Hy1.out]
          go_wp2_with fail
          refine hK.out _ _ (hHeld) (fun hHeld => ?_)
          clear hK K
          try simp only [Act.put, List.setIfInBounds_toArray, List.set_cons_zero, List.set_cons_succ]
          refine wpAnyH_ready (rs := [29]) (by kernel_rfl) (by simp) ?_
          refine AllReadyH.cons rfl (fun K hK => ?_) AllReadyH.nil
          go_simp
          go_at_call 31
          refine (num_at _ 2 _ (pc X 29 2) _ (pc_len (by rw [HXL.out]; omega)) (hHeld.piece 29 2 (by rw [HXL.out]; omega)) (byt_pc HXB.out _ _) (by omega)).mono ?_
          rintro e w' ⟨rfl, rfl⟩
          rw [Hz1.out]
          go_wp2_with fail
          refine hK.out _ _ (hHeld) (fun hHeld => ?_)
          clear hK K
          try simp only [Act.put, List.setIfInBounds_toArray, List.set_cons_zero, List.set_cons_succ]
          refine wpAnyH_ready (rs := [32]) (by kernel_rfl) (by simp) ?_
          refine AllReadyH.cons rfl (fun K hK => ?_) AllReadyH.nil
          refine step_of rfl (st_csw 3 [.int .i64 x1] (fun i hi => by have := (V0.out.below (Below.refl _ wr).drew).th (6 + i) (by simp at hi; omega); rwa [Nat.zero_add] at this) n3 (one1 rfl) _ _ rfl rfl rfl rfl ?_)
          have VV0 := hid ((V0.out.below (Below.refl _ wr).drew).part (o := 6) (r' := ⟨k, te, sn, pan, am, x0, x1, 0, 0, y0, 0, 0, 0, z0, 0, 0, 0⟩) (cs := [.int .i64 x1]) (by simp) rfl)
          have LL0 := hid (setCells_in (s := [.int .i64 x1]) (sq LR.out (Below.refl _ wr).drew) hb7 6)
          generalize wr.drew.setCells b7 6 [.int .i64 x1] = ws0 at *
          refine hK.out _ _ (row_mono LL0.out RX2.out) (fun hHeld => ?_)
          clear hK K
          try simp only [Act.put, List.setIfInBounds_toArray]
          (refine tk_yes (v := ?_) 34 (some 108) rfl rfl (by kernel_rfl) (by kernel_rfl) (by kernel_rfl) (fun _ _ _ h => h) (by rfl) ?_ hHeld ?_; rotate_left; focus (intro w hSw; go_simp; try with_reducible rfl))
          simp only [Act.put]
          refine wpAnyH_ready (rs := [35]) (by kernel_rfl) (by simp) ?_
          refine AllReadyH.cons rfl (fun K hK => ?_) AllReadyH.nil
          refine step_of rfl (st_csw 3 [.int .i64 y1] (fun i hi => by have := VV0.out.th (10 + i) (by simp at hi; omega); rwa [Nat.zero_add] at this) n3 (one1 rfl) _ _ rfl rfl rfl rfl ?_)
          have VV1 := hid (VV0.out.part (o := 10) (r' := ⟨k, te, sn, pan, am, x0, x1, 0, 0, y0, y1, 0, 0, z0, 0, 0, 0⟩) (cs := [.int .i64 y1]) (by simp) rfl)
          have LL1 := hid (setCells_in (s := [.int .i64 y1]) LL0.out hb7 10)
          generalize ws0.setCells b7 10 [.int .i64 y1] = ws1 at *
          refine hK.out _ _ (row_mono LL1.out RX2.out) (fun hHeld => ?_)
          clear hK K
          try simp only [Act.put]
          (refine tk_yes (v := ?_) 37 (some 110) rfl rfl (by kernel_rfl) (by kernel_rfl) (by kernel_rfl) (fun _ _ _ h => h) (by rfl) ?_ hHeld ?_; rotate_left; focus (intro w hSw; go_simp; try with_reducible rfl))
          simp only [Act.put]
          refine wpAnyH_ready (rs := [38]) (by kernel_rfl) (by simp) ?_
          refine AllReadyH.cons rfl (fun K hK => ?_) AllReadyH.nil
          refine step_of rfl (st_csw 3 [.int .i64 z1] (fun i hi => by have := VV1.out.th (14 + i) (by simp at hi; omega); rwa [Nat.zero_add] at this) n3 (one1 rfl) _ _ rfl rfl rfl rfl ?_)
          have VV2 := hid (VV1.out.part (o := 14) (r' := ⟨k, te, sn, pan, am, x0, x1, 0, 0, y0, y1, 0, 0, z0, z1, 0, 0⟩) (cs := [.int .i64 z1]) (by simp) rfl)
          have LL2 := hid (setCells_in (s := [.int .i64 z1]) LL1.out hb7 14)
          generalize ws1.setCells b7 14 [.int .i64 z1] = ws2 at *
          refine hK.out _ _ (row_mono LL2.out RX2.out) (fun hHeld => ?_)
          clear hK K
          try simp only [Act.put]
          refine wpAnyH_done (by kernel_rfl) ?_ _
          refine NoPanic.normal ?_
          go_wp2
          go_roundw
          case rel => exact ⟨2, by omega, by go_num, VV2.out, LL2.out⟩
          case measure => simp [intOf]
        · skip
          have V0 : Hid (RV wr b7 ⟨k, te, sn, pan, am, x0, x1, 0, 0, y0, y1, 0, 0, z0, z1, 0, 0⟩) := VR
          rw [show ((2 : Nat) : Int) = 2 from rfl]
          have RXR := hid (row_mono LR.out RX2.out)
          have q4 : IntKind.i64.wrap 4 = 4 := by kernel_rfl
          have q15 : IntKind.i64.wrap 15 = 15 := by kernel_rfl
          have q17 : IntKind.i64.wrap 17 = 17 := by kernel_rfl
          have q23 : IntKind.i64.wrap 23 = 23 := by kernel_rfl
          have q25 : IntKind.i64.wrap 25 = 25 := by kernel_rfl
          have q31 : IntKind.i64.wrap 31 = 31 := by kernel_rfl
          have q33 : IntKind.i64.wrap 33 = 33 := by kernel_rfl
          have a11 : ¬ cap - 2 = 15 := by omega
          have c11 : (17 : Int) ≤ ((cap - 2 : Nat) : Int) := by omega
          have a19 : ¬ cap - 2 = 23 := by omega
          have c19 : (25 : Int) ≤ ((cap - 2 : Nat) : Int) := by omega
          have a27 : ¬ cap - 2 = 31 := by omega
          have c27 : (33 : Int) ≤ ((cap - 2 : Nat) : Int) := by omega
          go_wp2
          refine wp_region_noPanic ?_
          refine wp_region_held_drew (S := (fun w' => RowAt w' (some ⟨b, o + 2, none⟩) X)) (by kernel_rfl) (RXR.out) (fun hHeld => ?_)
          (refine tk_yes (v := ?_) 0 (some 75) rfl rfl (by kernel_rfl) (by kernel_rfl) (by kernel_rfl) (fun _ _ _ h => h) (by rfl) ?_ hHeld ?_; rotate_left; focus (intro w hSw; go_simp; try with_reducible rfl))
          simp only [Act.put, List.setIfInBounds_toArray, List.set_cons_zero, List.set_cons_succ]
          (refine tk_yes (v := ?_) 1 (some 76) rfl rfl (by kernel_rfl) (by kernel_rfl) (by kernel_rfl) (fun _ _ _ h => h) (by rfl) ?_ hHeld ?_; rotate_left; focus (intro w hSw; go_simp; try with_reducible rfl))
          simp only [Act.put, List.setIfInBounds_toArray, List.set_cons_zero, List.set_cons_succ]
          (refine tk_yes (v := ?_) 2 (some 77) rfl rfl (by kernel_rfl) (by kernel_rfl) (by kernel_rfl) (fun _ _ _ h => h) (by rfl) ?_ hHeld ?_; rotate_left; focus (intro w hSw; go_simp; try with_reducible rfl))
          simp only [Act.put, List.setIfInBounds_toArray, List.set_cons_zero, List.set_cons_succ]
          (refine tk_yes (v := ?_) 3 (some 78) rfl rfl (by kernel_rfl) (by kernel_rfl) (by kernel_rfl) (fun _ _ _ h => h) (by rfl) ?_ hHeld ?_; rotate_left; focus (intro w hSw; go_simp; try with_reducible rfl))
          simp only [Act.put, List.setIfInBounds_toArray, List.set_cons_zero, List.set_cons_succ]
          (refine tk_yes (v := ?_) 4 (some 79) rfl rfl (by kernel_rfl) (by kernel_rfl) (by kernel_rfl) (fun _ _ _ h => h) (by rfl) ?_ hHeld ?_; rotate_left; focus (intro w hSw; go_simp; try with_reducible rfl))
          simp only [Act.put, List.setIfInBounds_toArray, List.set_cons_zero, List.set_cons_succ]
          (refine tk_yes (v := ?_) 5 (some 80) rfl rfl (by kernel_rfl) (by kernel_rfl) (by kernel_rfl) (fun _ _ _ h => h) (by rfl) ?_ hHeld ?_; rotate_left; focus (intro w hSw; go_simp; try with_reducible rfl))
          simp only [Act.put, List.setIfInBounds_toArray, List.set_cons_zero, List.set_cons_succ]
          (refine tk_yes (v := ?_) 6 (some 81) rfl rfl (by kernel_rfl) (by kernel_rfl) (by kernel_rfl) (fun _ _ _ h => h) (by rfl) ?_ hHeld ?_; rotate_left; focus (intro w hSw; go_simp; try with_reducible rfl))
          simp only [Act.put, List.setIfInBounds_toArray, List.set_cons_zero, List.set_cons_succ]
          (refine tk_yes (v := ?_) 7 (some 82) rfl rfl (by kernel_rfl) (by kernel_rfl) (by kernel_rfl) (fun _ _ _ h => h) (by rfl) ?_ hHeld ?_; rotate_left; focus (intro w hSw; go_simp; try with_reducible rfl))
          simp only [Act.put, List.setIfInBounds_toArray, List.set_cons_zero, List.set_cons_succ]
          (refine tk_yes (v := ?_) 8 (some 83) rfl rfl (by kernel_rfl) (by kernel_rfl) (by kernel_rfl) (fun _ _ _ h => h) (by rfl) ?_ hHeld ?_; rotate_left; focus (intro w hSw; go_simp; try with_reducible rfl))
          simp only [Act.put, List.setIfInBounds_toArray, List.set_cons_zero, List.set_cons_succ]
          (refine tk_yes (v := ?_) 9 (some 84) rfl rfl (by kernel_rfl) (by kernel_rfl) (by kernel_rfl) (fun _ _ _ h => h) (by rfl) ?_ hHeld ?_; rotate_left; focus (intro w hSw; go_simp; try with_reducible rfl))
          simp only [Act.put, List.setIfInBounds_toArray, List.set_cons_zero, List.set_cons_succ]
          (refine tk_yes (v := ?_) 10 (some 85) rfl rfl (by kernel_rfl) (by kernel_rfl) (by kernel_rfl) (fun _ _ _ h => h) (by rfl) ?_ hHeld ?_; rotate_left; focus (intro w hSw; go_simp; try with_reducible rfl))
          simp only [Act.put, List.setIfInBounds_toArray, List.set_cons_zero, List.set_cons_succ]
          (refine tk_yes (v := ?_) 12 (some 87) rfl rfl (by kernel_rfl) (by kernel_rfl) (by kernel_rfl) (fun _ _ _ h => h) (by rfl) ?_ hHeld ?_; rotate_left; focus (intro w hSw; go_simp; try with_reducible rfl))
          simp only [Act.put, List.setIfInBounds_toArray, List.set_cons_zero, List.set_cons_succ]
          (refine tk_yes (v := ?_) 13 (some 88) rfl rfl (by kernel_rfl) (by kernel_rfl) (by kernel_rfl) (fun _ _ _ h => h) (by rfl) ?_ hHeld ?_; rotate_left; focus (intro w hSw; go_simp; try with_reducible rfl))
          simp only [Act.put, List.setIfInBounds_toArray, List.set_cons_zero, List.set_cons_succ]
          (refine tk_yes (v := ?_) 14 (some 89) rfl rfl (by kernel_rfl) (by kernel_rfl) (by kernel_rfl) (fun _ _ _ h => h) (by rfl) ?_ hHeld ?_; rotate_left; focus (intro w hSw; go_simp; try with_reducible rfl))
          simp only [Act.put, List.setIfInBounds_toArray, List.set_cons_zero, List.set_cons_succ]
          (refine tk_yes (v := ?_) 15 (some 90) rfl rfl (by kernel_rfl) (by kernel_rfl) (by kernel_rfl) (fun _ _ _ h => h) (by rfl) ?_ hHeld ?_; rotate_left; focus (intro w hSw; go_simp; try with_reducible rfl))
          simp only [Act.put, List.setIfInBounds_toArray, List.set_cons_zero, List.set_cons_succ]
          (refine tk_yes (v := ?_) 16 (some 91) rfl rfl (by kernel_rfl) (by kernel_rfl) (by kernel_rfl) (fun _ _ _ h => h) (by rfl) ?_ hHeld ?_; rotate_left; focus (intro w hSw; go_simp; try with_reducible rfl))
          simp only [Act.put, List.setIfInBounds_toArray, List.set_cons_zero, List.set_cons_succ]
          (refine tk_yes (v := ?_) 17 (some 92) rfl rfl (by kernel_rfl) (by kernel_rfl) (by kernel_rfl) (fun _ _ _ h => h) (by rfl) ?_ hHeld ?_; rotate_left; focus (intro w hSw; go_simp; try with_reducible rfl))
          simp only [Act.put, List.setIfInBounds_toArray, List.set_cons_zero, List.set_cons_succ]
          (refine tk_yes (v := ?_) 18 (some 93) rfl rfl (by kernel_rfl) (by kernel_rfl) (by kernel_rfl) (fun _ _ _ h => h) (by rfl) ?_ hHeld ?_; rotate_left; focus (intro w hSw; go_simp; try with_reducible rfl))
          simp only [Act.put, List.setIfInBounds_toArray, List.set_cons_zero, List.set_cons_succ]
          (refine tk_yes (v := ?_) 19 (some 94) rfl rfl (by kernel_rfl) (by kernel_rfl) (by kernel_rfl) (fun _ _ _ h => h) (by rfl) ?_ hHeld ?_; rotate_left; focus (intro w hSw; go_simp; try with_reducible rfl))
          simp only [Act.put, List.setIfInBounds_toArray, List.set_cons_zero, List.set_cons_succ]
          (refine tk_yes (v := ?_) 21 (some 96) rfl rfl (by kernel_rfl) (by kernel_rfl) (by kernel_rfl) (fun _ _ _ h => h) (by rfl) ?_ hHeld ?_; rotate_left; focus (intro w hSw; go_simp; try with_reducible rfl))
          simp only [Act.put, List.setIfInBounds_toArray, List.set_cons_zero, List.set_cons_succ]
          (refine tk_yes (v := ?_) 22 (some 97) rfl rfl (by kernel_rfl) (by kernel_rfl) (by kernel_rfl) (fun _ _ _ h => h) (by rfl) ?_ hHeld ?_; rotate_left; focus (intro w hSw; go_simp; try with_reducible rfl))
          simp only [Act.put, List.setIfInBounds_toArray, List.set_cons_zero, List.set_cons_succ]
          (refine tk_yes (v := ?_) 23 (some 98) rfl rfl (by kernel_rfl) (by kernel_rfl) (by kernel_rfl) (fun _ _ _ h => h) (by rfl) ?_ hHeld ?_; rotate_left; focus (intro w hSw; go_simp; try with_reducible rfl))
          simp only [Act.put, List.setIfInBounds_toArray, List.set_cons_zero, List.set_cons_succ]
          (refine tk_yes (v := ?_) 24 (some 99) rfl rfl (by kernel_rfl) (by kernel_rfl) (by kernel_rfl) (fun _ _ _ h => h) (by rfl) ?_ hHeld ?_; rotate_left; focus (intro w hSw; go_simp; try with_reducible rfl))
          simp only [Act.put, List.setIfInBounds_toArray, List.set_cons_zero, List.set_cons_succ]
          (refine tk_yes (v := ?_) 25 (some 100) rfl rfl (by kernel_rfl) (by kernel_rfl) (by kernel_rfl) (fun _ _ _ h => h) (by rfl) ?_ hHeld ?_; rotate_left; focus (intro w hSw; go_simp; try with_reducible rfl))
          simp only [Act.put, List.setIfInBounds_toArray, List.set_cons_zero, List.set_cons_succ]
          (refine tk_yes (v := ?_) 26 (some 101) rfl rfl (by kernel_rfl) (by kernel_rfl) (by kernel_rfl) (fun _ _ _ h => h) (by rfl) ?_ hHeld ?_; rotate_left; focus (intro w hSw; go_simp; try with_reducible rfl))
          simp only [Act.put, List.setIfInBounds_toArray, List.set_cons_zero, List.set_cons_succ]
          (refine tk_yes (v := ?_) 27 (some 102) rfl rfl (by kernel_rfl) (by kernel_rfl) (by kernel_rfl) (fun _ _ _ h => h) (by rfl) ?_ hHeld ?_; rotate_left; focus (intro w hSw; go_simp; try with_reducible rfl))
          simp only [Act.put, List.setIfInBounds_toArray, List.set_cons_zero, List.set_cons_succ]
          (refine tk_yes (v := ?_) 28 (some 103) rfl rfl (by kernel_rfl) (by kernel_rfl) (by kernel_rfl) (fun _ _ _ h => h) (by rfl) ?_ hHeld ?_; rotate_left; focus (intro w hSw; go_simp; try with_reducible rfl))
          simp only [Act.put, List.setIfInBounds_toArray, List.set_cons_zero, List.set_cons_succ]
          (refine tk_yes (v := ?_) 30 (some 105) rfl rfl (by kernel_rfl) (by kernel_rfl) (by kernel_rfl) (fun _ _ _ h => h) (by rfl) ?_ hHeld ?_; rotate_left; focus (intro w hSw; go_simp; try with_reducible rfl))
          simp only [Act.put, List.setIfInBounds_toArray, List.set_cons_zero, List.set_cons_succ]
          (refine tk_yes (v := ?_) 33 (some 107) rfl rfl (by kernel_rfl) (by kernel_rfl) (by kernel_rfl) (fun _ _ _ h => h) (by rfl) ?_ hHeld ?_; rotate_left; focus (intro w hSw; go_simp; try with_reducible rfl))
          simp only [Act.put, List.setIfInBounds_toArray, List.set_cons_zero, List.set_cons_succ]
          (refine tk_yes (v := ?_) 36 (some 109) rfl rfl (by kernel_rfl) (by kernel_rfl) (by kernel_rfl) (fun _ _ _ h => h) (by rfl) ?_ hHeld ?_; rotate_left; focus (intro w hSw; go_simp; try with_reducible rfl))
          simp only [Act.put, List.setIfInBounds_toArray, List.set_cons_zero, List.set_cons_succ]
          refine wpAnyH_ready (rs := [11]) (by kernel_rfl) (by simp) ?_
          refine AllReadyH.cons rfl (fun K hK => ?_) AllReadyH.nil
          go_simp
          go_at_call 31
          refine (num_at _ 2 _ (pc X 15 2) _ (pc_len (by rw [HXL.out]; omega)) (hHeld.piece 15 2 (by rw [HXL.out]; omega)) (byt_pc HXB.out _ _) (by omega)).mono ?_
          rintro e w' ⟨rfl, rfl⟩
          rw [Hx2.out]
          go_wp2_with fail
          refine hK.out _ _ (hHeld) (fun hHeld => ?_)
          clear hK K
          try simp only [Act.put, List.setIfInBounds_toArray, List.set_cons_zero, List.set_cons_succ]
          (refine tk_yes (v := ?_) 31 (some 106) rfl rfl (by kernel_rfl) (by kernel_rfl) (by kernel_rfl) (fun _ _ _ h => h) (by rfl) ?_ hHeld ?_; rotate_left; focus (intro w hSw; go_simp; try with_reducible rfl))
          simp only [Act.put, List.setIfInBounds_toArray, List.set_cons_zero, List.set_cons_succ]
          refine wpAnyH_ready (rs := [20]) (by kernel_rfl) (by simp) ?_
          refine AllReadyH.cons rfl (fun K hK => ?_) AllReadyH.nil
          go_simp
          go_at_call 31
          refine (num_at _ 2 _ (pc X 23 2) _ (pc_len (by rw [HXL.out]; omega)) (hHeld.piece 23 2 (by rw [HXL.out]; omega)) (byt_pc HXB.out _ _) (by omega)).mono ?_
          rintro e w' ⟨rfl, rfl⟩
          rw [Hy2.out]
          go_wp2_with fail
          refine hK.out _ _ (hHeld) (fun hHeld => ?_)
          clear hK K
          try simp only [Act.put, List.setIfInBounds_toArray, List.set_cons_zero, List.set_cons_succ]
          refine wpAnyH_ready (rs := [29]) (by kernel_rfl) (by simp) ?_
          refine AllReadyH.cons rfl (fun K hK => ?_) AllReadyH.nil
          go_simp
          go_at_call 31
          refine (num_at _ 2 _ (pc X 31 2) _ (pc_len (by rw [HXL.out]; omega)) (hHeld.piece 31 2 (by rw [HXL.out]; omega)) (byt_pc HXB.out _ _) (by omega)).mono ?_
          rintro e w' ⟨rfl, rfl⟩
          rw [Hz2.out]
          go_wp2_with fail
          refine hK.out _ _ (hHeld) (fun hHeld => ?_)
          clear hK K
          try simp only [Act.put, List.setIfInBounds_toArray, List.set_cons_zero, List.set_cons_succ]
          refine wpAnyH_ready (rs := [32]) (by kernel_rfl) (by simp) ?_
          refine AllReadyH.cons rfl (fun K hK => ?_) AllReadyH.nil
          refine step_of rfl (st_csw 3 [.int .i64 x2] (fun i hi => by have := (V0.out.below (Below.refl _ wr).drew).th (7 + i) (by simp at hi; omega); rwa [Nat.zero_add] at this) n3 (one1 rfl) _ _ rfl rfl rfl rfl ?_)
          have VV0 := hid ((V0.out.below (Below.refl _ wr).drew).part (o := 7) (r' := ⟨k, te, sn, pan, am, x0, x1, x2, 0, y0, y1, 0, 0, z0, z1, 0, 0⟩) (cs := [.int .i64 x2]) (by simp) rfl)
          have LL0 := hid (setCells_in (s := [.int .i64 x2]) (sq LR.out (Below.refl _ wr).drew) hb7 7)
          generalize wr.drew.setCells b7 7 [.int .i64 x2] = ws0 at *
          refine hK.out _ _ (row_mono LL0.out RX2.out) (fun hHeld => ?_)
          clear hK K
          try simp only [Act.put, List.setIfInBounds_toArray]
          (refine tk_yes (v := ?_) 34 (some 108) rfl rfl (by kernel_rfl) (by kernel_rfl) (by kernel_rfl) (fun _ _ _ h => h) (by rfl) ?_ hHeld ?_; rotate_left; focus (intro w hSw; go_simp; try with_reducible rfl))
          simp only [Act.put]
          refine wpAnyH_ready (rs := [35]) (by kernel_rfl) (by simp) ?_
          refine AllReadyH.cons rfl (fun K hK => ?_) AllReadyH.nil
          refine step_of rfl (st_csw 3 [.int .i64 y2] (fun i hi => by have := VV0.out.th (11 + i) (by simp at hi; omega); rwa [Nat.zero_add] at this) n3 (one1 rfl) _ _ rfl rfl rfl rfl ?_)
          have VV1 := hid (VV0.out.part (o := 11) (r' := ⟨k, te, sn, pan, am, x0, x1, x2, 0, y0, y1, y2, 0, z0, z1, 0, 0⟩) (cs := [.int .i64 y2]) (by simp) rfl)
          have LL1 := hid (setCells_in (s := [.int .i64 y2]) LL0.out hb7 11)
          generalize ws0.setCells b7 11 [.int .i64 y2] = ws1 at *
          refine hK.out _ _ (row_mono LL1.out RX2.out) (fun hHeld => ?_)
          clear hK K
          try simp only [Act.put]
          (refine tk_yes (v := ?_) 37 (some 110) rfl rfl (by kernel_rfl) (by kernel_rfl) (by kernel_rfl) (fun _ _ _ h => h) (by rfl) ?_ hHeld ?_; rotate_left; focus (intro w hSw; go_simp; try with_reducible rfl))
          simp only [Act.put]
          refine wpAnyH_ready (rs := [38]) (by kernel_rfl) (by simp) ?_
          refine AllReadyH.cons rfl (fun K hK => ?_) AllReadyH.nil
          refine step_of rfl (st_csw 3 [.int .i64 z2] (fun i hi => by have := VV1.out.th (15 + i) (by simp at hi; omega); rwa [Nat.zero_add] at this) n3 (one1 rfl) _ _ rfl rfl rfl rfl ?_)
          have VV2 := hid (VV1.out.part (o := 15) (r' := ⟨k, te, sn, pan, am, x0, x1, x2, 0, y0, y1, y2, 0, z0, z1, z2, 0⟩) (cs := [.int .i64 z2]) (by simp) rfl)
          have LL2 := hid (setCells_in (s := [.int .i64 z2]) LL1.out hb7 15)
          generalize ws1.setCells b7 15 [.int .i64 z2] = ws2 at *
          refine hK.out _ _ (row_mono LL2.out RX2.out) (fun hHeld => ?_)
          clear hK K
          try simp only [Act.put]
          refine wpAnyH_done (by kernel_rfl) ?_ _
          refine NoPanic.normal ?_
          go_wp2
          go_roundw
          case rel => exact ⟨3, by omega, by go_num, VV2.out, LL2.out⟩
          case measure => simp [intOf]
        · skip
          have V0 : Hid (RV wr b7 ⟨k, te, sn, pan, am, x0, x1, x2, 0, y0, y1, y2, 0, z0, z1, z2, 0⟩) := VR
          rw [show ((3 : Nat) : Int) = 3 from rfl]
          have RXR := hid (row_mono LR.out RX2.out)
          have q6 : IntKind.i64.wrap 6 = 6 := by kernel_rfl
          have q17 : IntKind.i64.wrap 17 = 17 := by kernel_rfl
          have q19 : IntKind.i64.wrap 19 = 19 := by kernel_rfl
          have q25 : IntKind.i64.wrap 25 = 25 := by kernel_rfl
          have q27 : IntKind.i64.wrap 27 = 27 := by kernel_rfl
          have q33 : IntKind.i64.wrap 33 = 33 := by kernel_rfl
          have q35 : IntKind.i64.wrap 35 = 35 := by kernel_rfl
          have a11 : ¬ cap - 2 = 17 := by omega
          have c11 : (19 : Int) ≤ ((cap - 2 : Nat) : Int) := by omega
          have a19 : ¬ cap - 2 = 25 := by omega
          have c19 : (27 : Int) ≤ ((cap - 2 : Nat) : Int) := by omega
          have a27 : ¬ cap - 2 = 33 := by omega
          have c27 : (35 : Int) ≤ ((cap - 2 : Nat) : Int) := by omega
          go_wp2
          refine wp_region_noPanic ?_
          refine wp_region_held_drew (S := (fun w' => RowAt w' (some ⟨b, o + 2, none⟩) X)) (by kernel_rfl) (RXR.out) (fun hHeld => ?_)
          (refine tk_yes (v := ?_) 0 (some 75) rfl rfl (by kernel_rfl) (by kernel_rfl) (by kernel_rfl) (fun _ _ _ h => h) (by rfl) ?_ hHeld ?_; rotate_left; focus (intro w hSw; go_simp; try with_reducible rfl))
          simp only [Act.put, List.setIfInBounds_toArray, List.set_cons_zero, List.set_cons_succ]
          (refine tk_yes (v := ?_) 1 (some 76) rfl rfl (by kernel_rfl) (by kernel_rfl) (by kernel_rfl) (fun _ _ _ h => h) (by rfl) ?_ hHeld ?_; rotate_left; focus (intro w hSw; go_simp; try with_reducible rfl))
          simp only [Act.put, List.setIfInBounds_toArray, List.set_cons_zero, List.set_cons_succ]
          (refine tk_yes (v := ?_) 2 (some 77) rfl rfl (by kernel_rfl) (by kernel_rfl) (by kernel_rfl) (fun _ _ _ h => h) (by rfl) ?_ hHeld ?_; rotate_left; focus (intro w hSw; go_simp; try with_reducible rfl))
          simp only [Act.put, List.setIfInBounds_toArray, List.set_cons_zero, List.set_cons_succ]
          (refine tk_yes (v := ?_) 3 (some 78) rfl rfl (by kernel_rfl) (by kernel_rfl) (by kernel_rfl) (fun _ _ _ h => h) (by rfl) ?_ hHeld ?_; rotate_left; focus (intro w hSw; go_simp; try with_reducible rfl))
          simp only [Act.put, List.setIfInBounds_toArray, List.set_cons_zero, List.set_cons_succ]
          (refine tk_yes (v := ?_) 4 (some 79) rfl rfl (by kernel_rfl) (by kernel_rfl) (by kernel_rfl) (fun _ _ _ h => h) (by rfl) ?_ hHeld ?_; rotate_left; focus (intro w hSw; go_simp; try with_reducible rfl))
          simp only [Act.put, List.setIfInBounds_toArray, List.set_cons_zero, List.set_cons_succ]
          (refine tk_yes (v := ?_) 5 (some 80) rfl rfl (by kernel_rfl) (by kernel_rfl) (by kernel_rfl) (fun _ _ _ h => h) (by rfl) ?_ hHeld ?_; rotate_left; focus (intro w hSw; go_simp; try with_reducible rfl))
          simp only [Act.put, List.setIfInBounds_toArray, List.set_cons_zero, List.set_cons_succ]
          (refine tk_yes (v := ?_) 6 (some 81) rfl rfl (by kernel_rfl) (by kernel_rfl) (by kernel_rfl) (fun _ _ _ h => h) (by rfl) ?_ hHeld ?_; rotate_left; focus (intro w hSw; go_simp; try with_reducible rfl))
          simp only [Act.put, List.setIfInBounds_toArray, List.set_cons_zero, List.set_cons_succ]
          (refine tk_yes (v := ?_) 7 (some 82) rfl rfl (by kernel_rfl) (by kernel_rfl) (by kernel_rfl) (fun _ _ _ h => h) (by rfl) ?_ hHeld ?_; rotate_left; focus (intro w hSw; go_simp; try with_reducible rfl))
          simp only [Act.put, List.setIfInBounds_toArray, List.set_cons_zero, List.set_cons_succ]
          (refine tk_yes (v := ?_) 8 (some 83) rfl rfl (by kernel_rfl) (by kernel_rfl) (by kernel_rfl) (fun _ _ _ h => h) (by rfl) ?_ hHeld ?_; rotate_left; focus (intro w hSw; go_simp; try with_reducible rfl))
          simp only [Act.put, List.setIfInBounds_toArray, List.set_cons_zero, List.set_cons_succ]
          (refine tk_yes (v := ?_) 9 (some 84) rfl rfl (by kernel_rfl) (by kernel_rfl) (by kernel_rfl) (fun _ _ _ h => h) (by rfl) ?_ hHeld ?_; rotate_left; focus (intro w hSw; go_simp; try with_reducible rfl))
          simp only [Act.put, List.setIfInBounds_toArray, List.set_cons_zero, List.set_cons_succ]
          (refine tk_yes (v := ?_) 10 (some 85) rfl rfl (by kernel_rfl) (by kernel_rfl) (by kernel_rfl) (fun _ _ _ h => h) (by rfl) ?_ hHeld ?_; rotate_left; focus (intro w hSw; go_simp; try with_reducible rfl))
          simp only [Act.put, List.setIfInBounds_toArray, List.set_cons_zero, List.set_cons_succ]
          (refine tk_yes (v := ?_) 12 (some 87) rfl rfl (by kernel_rfl) (by kernel_rfl) (by kernel_rfl) (fun _ _ _ h => h) (by rfl) ?_ hHeld ?_; rotate_left; focus (intro w hSw; go_simp; try with_reducible rfl))
          simp only [Act.put, List.setIfInBounds_toArray, List.set_cons_zero, List.set_cons_succ]
          (refine tk_yes (v := ?_) 13 (some 88) rfl rfl (by kernel_rfl) (by kernel_rfl) (by kernel_rfl) (fun _ _ _ h => h) (by rfl) ?_ hHeld ?_; rotate_left; focus (intro w hSw; go_simp; try with_reducible rfl))
          simp only [Act.put, List.setIfInBounds_toArray, List.set_cons_zero, List.set_cons_succ]
          (refine tk_yes (v := ?_) 14 (some 89) rfl rfl (by kernel_rfl) (by kernel_rfl) (by kernel_rfl) (fun _ _ _ h => h) (by rfl) ?_ hHeld ?_; rotate_left; focus (intro w hSw; go_simp; try with_reducible rfl))
          simp only [Act.put, List.setIfInBounds_toArray, List.set_cons_zero, List.set_cons_succ]
          (refine tk_yes (v := ?_) 15 (some 90) rfl rfl (by kernel_rfl) (by kernel_rfl) (by kernel_rfl) (fun _ _ _ h => h) (by rfl) ?_ hHeld ?_; rotate_left; focus (intro w hSw; go_simp; try with_reducible rfl))
          simp only [Act.put, List.setIfInBounds_toArray, List.set_cons_zero, List.set_cons_succ]
          (refine tk_yes (v := ?_) 16 (some 91) rfl rfl (by kernel_rfl) (by kernel_rfl) (by kernel_rfl) (fun _ _ _ h => h) (by rfl) ?_ hHeld ?_; rotate_left; focus (intro w hSw; go_simp; try with_reducible rfl))
          simp only [Act.put, List.setIfInBounds_toArray, List.set_cons_zero, List.set_cons_succ]
          (refine tk_yes (v := ?_) 17 (some 92) rfl rfl (by kernel_rfl) (by kernel_rfl) (by kernel_rfl) (fun _ _ _ h => h) (by rfl) ?_ hHeld ?_; rotate_left; focus (intro w hSw; go_simp; try with_reducible rfl))
          simp only [Act.put, List.setIfInBounds_toArray, List.set_cons_zero, List.set_cons_succ]
          (refine tk_yes (v := ?_) 18 (some 93) rfl rfl (by kernel_rfl) (by kernel_rfl) (by kernel_rfl) (fun _ _ _ h => h) (by rfl) ?_ hHeld ?_; rotate_left; focus (intro w hSw; go_simp; try with_reducible rfl))
          simp only [Act.put, List.setIfInBounds_toArray, List.set_cons_zero, List.set_cons_succ]
          (refine tk_yes (v := ?_) 19 (some 94) rfl rfl (by kernel_rfl) (by kernel_rfl) (by kernel_rfl) (fun _ _ _ h => h) (by rfl) ?_ hHeld ?_; rotate_left; focus (intro w hSw; go_simp; try with_reducible rfl))
          simp only [Act.put, List.setIfInBounds_toArray, List.set_cons_zero, List.set_cons_succ]
          (refine tk_yes (v := ?_) 21 (some 96) rfl rfl (by kernel_rfl) (by kernel_rfl) (by kernel_rfl) (fun _ _ _ h => h) (by rfl) ?_ hHeld ?_; rotate_left; focus (intro w hSw; go_simp; try with_reducible rfl))
          simp only [Act.put, List.setIfInBounds_toArray, List.set_cons_zero, List.set_cons_succ]
          (refine tk_yes (v := ?_) 22 (some 97) rfl rfl (by kernel_rfl) (by kernel_rfl) (by kernel_rfl) (fun _ _ _ h => h) (by rfl) ?_ hHeld ?_; rotate_left; focus (intro w hSw; go_simp; try with_reducible rfl))
          simp only [Act.put, List.setIfInBounds_toArray, List.set_cons_zero, List.set_cons_succ]
          (refine tk_yes (v := ?_) 23 (some 98) rfl rfl (by kernel_rfl) (by kernel_rfl) (by kernel_rfl) (fun _ _ _ h => h) (by rfl) ?_ hHeld ?_; rotate_left; focus (intro w hSw; go_simp; try with_reducible rfl))
          simp only [Act.put, List.setIfInBounds_toArray, List.set_cons_zero, List.set_cons_succ]
          (refine tk_yes (v := ?_) 24 (some 99) rfl rfl (by kernel_rfl) (by kernel_rfl) (by kernel_rfl) (fun _ _ _ h => h) (by rfl) ?_ hHeld ?_; rotate_left; focus (intro w hSw; go_simp; try with_reducible rfl))
          simp only [Act.put, List.setIfInBounds_toArray, List.set_cons_zero, List.set_cons_succ]
          (refine tk_yes (v := ?_) 25 (some 100) rfl rfl (by kernel_rfl) (by kernel_rfl) (by kernel_rfl) (fun _ _ _ h => h) (by rfl) ?_ hHeld ?_; rotate_left; focus (intro w hSw; go_simp; try with_reducible rfl))
          simp only [Act.put, List.setIfInBounds_toArray, List.set_cons_zero, List.set_cons_succ]
          (refine tk_yes (v := ?_) 26 (some 101) rfl rfl (by kernel_rfl) (by kernel_rfl) (by kernel_rfl) (fun _ _ _ h => h) (by rfl) ?_ hHeld ?_; rotate_left; focus (intro w hSw; go_simp; try with_reducible rfl))
          simp only [Act.put, List.setIfInBounds_toArray, List.set_cons_zero, List.set_cons_succ]
          (refine tk_yes (v := ?_) 27 (some 102) rfl rfl (by kernel_rfl) (by kernel_rfl) (by kernel_rfl) (fun _ _ _ h => h) (by rfl) ?_ hHeld ?_; rotate_left; focus (intro w hSw; go_simp; try with_reducible rfl))
          simp only [Act.put, List.setIfInBounds_toArray, List.set_cons_zero, List.set_cons_succ]
          (refine tk_yes (v := ?_) 28 (some 103) rfl rfl (by kernel_rfl) (by kernel_rfl) (by kernel_rfl) (fun _ _ _ h => h) (by rfl) ?_ hHeld ?_; rotate_left; focus (intro w hSw; go_simp; try with_reducible rfl))
          simp only [Act.put, List.setIfInBounds_toArray, List.set_cons_zero, List.set_cons_succ]
          (refine tk_yes (v := ?_) 30 (some 105) rfl rfl (by kernel_rfl) (by kernel_rfl) (by kernel_rfl) (fun _ _ _ h => h) (by rfl) ?_ hHeld ?_; rotate_left; focus (intro w hSw; go_simp; try with_reducible rfl))
          simp only [Act.put, List.setIfInBounds_toArray, List.set_cons_zero, List.set_cons_succ]
          (refine tk_yes (v := ?_) 33 (some 107) rfl rfl (by kernel_rfl) (by kernel_rfl) (by kernel_rfl) (fun _ _ _ h => h) (by rfl) ?_ hHeld ?_; rotate_left; focus (intro w hSw; go_simp; try with_reducible rfl))
          simp only [Act.put, List.setIfInBounds_toArray, List.set_cons_zero, List.set_cons_succ]
          (refine tk_yes (v := ?_) 36 (some 109) rfl rfl (by kernel_rfl) (by kernel_rfl) (by kernel_rfl) (fun _ _ _ h => h) (by rfl) ?_ hHeld ?_; rotate_left; focus (intro w hSw; go_simp; try with_reducible rfl))
          simp only [Act.put, List.setIfInBounds_toArray, List.set_cons_zero, List.set_cons_succ]
          refine wpAnyH_ready (rs := [11]) (by kernel_rfl) (by simp) ?_
          refine AllReadyH.cons rfl (fun K hK => ?_) AllReadyH.nil
          go_simp
          go_at_call 31
          refine (num_at _ 2 _ (pc X 17 2) _ (pc_len (by rw [HXL.out]; omega)) (hHeld.piece 17 2 (by rw [HXL.out]; omega)) (byt_pc HXB.out _ _) (by omega)).mono ?_
          rintro e w' ⟨rfl, rfl⟩
          rw [Hx3.out]
          go_wp2_with fail
          refine hK.out _ _ (hHeld) (fun hHeld => ?_)
          clear hK K
          try simp only [Act.put, List.setIfInBounds_toArray, List.set_cons_zero, List.set_cons_succ]
          (refine tk_yes (v := ?_) 31 (some 106) rfl rfl (by kernel_rfl) (by kernel_rfl) (by kernel_rfl) (fun _ _ _ h => h) (by rfl) ?_ hHeld ?_; rotate_left; focus (intro w hSw; go_simp; try with_reducible rfl))
          simp only [Act.put, List.setIfInBounds_toArray, List.set_cons_zero, List.set_cons_succ]
          refine wpAnyH_ready (rs := [20]) (by kernel_rfl) (by simp) ?_
          refine AllReadyH.cons rfl (fun K hK => ?_) AllReadyH.nil
          go_simp
          go_at_call 31
          refine (num_at _ 2 _ (pc X 25 2) _ (pc_len (by rw [HXL.out]; omega)) (hHeld.piece 25 2 (by rw [HXL.out]; omega)) (byt_pc HXB.out _ _) (by omega)).mono ?_
          rintro e w' ⟨rfl, rfl⟩
          rw [Hy3.out]
          go_wp2_with fail
          refine hK.out _ _ (hHeld) (fun hHeld => ?_)
          clear hK K
          try simp only [Act.put, List.setIfInBounds_toArray, List.set_cons_zero, List.set_cons_succ]
          refine wpAnyH_ready (rs := [29]) (by kernel_rfl) (by simp) ?_
          refine AllReadyH.cons rfl (fun K hK => ?_) AllReadyH.nil
          go_simp
          go_at_call 31
          refine (num_at _ 2 _ (pc X 33 2) _ (pc_len (by rw [HXL.out]; omega)) (hHeld.piece 33 2 (by rw [HXL.out]; omega)) (byt_pc HXB.out _ _) (by omega)).mono ?_
          rintro e w' ⟨rfl, rfl⟩
          rw [Hz3.out]
          go_wp2_with fail
          refine hK.out _ _ (hHeld) (fun hHeld => ?_)
          clear hK K
          try simp only [Act.put, List.setIfInBounds_toArray, List.set_cons_zero, List.set_cons_succ]
          refine wpAnyH_ready (rs := [32]) (by kernel_rfl) (by simp) ?_
          refine AllReadyH.cons rfl (fun K hK => ?_) AllReadyH.nil
          refine step_of rfl (st_csw 3 [.int .i64 x3] (fun i hi => by have := (V0.out.below (Below.refl _ wr).drew).th (8 + i) (by simp at hi; omega); rwa [Nat.zero_add] at this) n3 (one1 rfl) _ _ rfl rfl rfl rfl ?_)
          have VV0 := hid ((V0.out.below (Below.refl _ wr).drew).part (o := 8) (r' := ⟨k, te, sn, pan, am, x0, x1, x2, x3, y0, y1, y2, 0, z0, z1, z2, 0⟩) (cs := [.int .i64 x3]) (by simp) rfl)
          have LL0 := hid (setCells_in (s := [.int .i64 x3]) (sq LR.out (Below.refl _ wr).drew) hb7 8)
          generalize wr.drew.setCells b7 8 [.int .i64 x3] = ws0 at *
          refine hK.out _ _ (row_mono LL0.out RX2.out) (fun hHeld => ?_)
          clear hK K
          try simp only [Act.put, List.setIfInBounds_toArray]
          (refine tk_yes (v := ?_) 34 (some 108) rfl rfl (by kernel_rfl) (by kernel_rfl) (by kernel_rfl) (fun _ _ _ h => h) (by rfl) ?_ hHeld ?_; rotate_left; focus (intro w hSw; go_simp; try with_reducible rfl))
          simp only [Act.put]
          refine wpAnyH_ready (rs := [35]) (by kernel_rfl) (by simp) ?_
          refine AllReadyH.cons rfl (fun K hK => ?_) AllReadyH.nil
          refine step_of rfl (st_csw 3 [.int .i64 y3] (fun i hi => by have := VV0.out.th (12 + i) (by simp at hi; omega); rwa [Nat.zero_add] at this) n3 (one1 rfl) _ _ rfl rfl rfl rfl ?_)
          have VV1 := hid (VV0.out.part (o := 12) (r' := ⟨k, te, sn, pan, am, x0, x1, x2, x3, y0, y1, y2, y3, z0, z1, z2, 0⟩) (cs := [.int .i64 y3]) (by simp) rfl)
          have LL1 := hid (setCells_in (s := [.int .i64 y3]) LL0.out hb7 12)
          generalize ws0.setCells b7 12 [.int .i64 y3] = ws1 at *
          refine hK.out _ _ (row_mono LL1.out RX2.out) (fun hHeld => ?_)
          clear hK K
          try simp only [Act.put]
          (refine tk_yes (v := ?_) 37 (some 110) rfl rfl (by kernel_rfl) (by kernel_rfl) (by kernel_rfl) (fun _ _ _ h => h) (by rfl) ?_ hHeld ?_; rotate_left; focus (intro w hSw; go_simp; try with_reducible rfl))
          simp only [Act.put]
          refine wpAnyH_ready (rs := [38]) (by kernel_rfl) (by simp) ?_
          refine AllReadyH.cons rfl (fun K hK => ?_) AllReadyH.nil
          refine step_of rfl (st_csw 3 [.int .i64 z3] (fun i hi => by have := VV1.out.th (16 + i) (by simp at hi; omega); rwa [Nat.zero_add] at this) n3 (one1 rfl) _ _ rfl rfl rfl rfl ?_)
          have VV2 := hid (VV1.out.part (o := 16) (r' := ⟨k, te, sn, pan, am, x0, x1, x2, x3, y0, y1, y2, y3, z0, z1, z2, z3⟩) (cs := [.int .i64 z3]) (by simp) rfl)
          have LL2 := hid (setCells_in (s := [.int .i64 z3]) LL1.out hb7 16)
          generalize ws1.setCells b7 16 [.int .i64 z3] = ws2 at *
          refine hK.out _ _ (row_mono LL2.out RX2.out) (fun hHeld => ?_)
          clear hK K
          try simp only [Act.put]
          refine wpAnyH_done (by kernel_rfl) ?_ _
          refine NoPanic.normal ?_
          go_wp2
          go_roundw
          case rel => exact ⟨4, by omega, by go_num, VV2.out, LL2.out⟩
          case measure => simp [intOf]
      · have ej : j = 4 := by omega
        subst ej
        obtain ⟨r, hr⟩ : ∃ r : Rc, ⟨k, te, sn, pan, am, x0, x1, x2, x3, y0, y1, y2, y3, z0, z1, z2, z3⟩ = r := ⟨_, rfl⟩
        have V4 : Hid (RV wr b7 ⟨k, te, sn, pan, am, x0, x1, x2, x3, y0, y1, y2, y3, z0, z1, z2, z3⟩) := VR
        rw [hr] at V4
        have HRL : Hid (recL X = r) := by unfold Hid; rw [HREC.out, hr]
        have HPZ : Hid (r.pan.size ≤ 9223372036854775807) := by unfold Hid; rw [← hr]; show pan.size ≤ _; omega
        have VB := hid (V2.out.below LR.out)
        have HRO : Hid (recO X = r) := by unfold Hid; rw [recO, if_pos (by rw [HXL.out]; exact h36)]; exact HRL.out
        obtain ⟨sm, hsm, sma, smb⟩ := num_bd' HGZ.out.byt (2 + n) 4 4294967296 rfl (by rw [HGZ.out.leq]; omega)
        have HSM : Hid (sumX zs = sm) := by unfold Hid; rw [sumX, HG1.out, Int.toNat_natCast, hsm]
        have HNM := hid hsm
        obtain ⟨cr, hcr⟩ : ∃ cr, crcL X = cr := ⟨_, rfl⟩
        have hcb := crcL_w32 HXB.out
        rw [hcr] at hcb
        have HCR := hid hcr
        have g1 : (6 + (n : Int) - (2 + (n : Int))).toNat = 4 := by omega
        have g7 : 6 + n - (2 + n) = 4 := by omega
        have g2 : 6 + (n : Int) ≤ (cap : Int) := by omega
        have g3 : 2 + (n : Int) ≤ 6 + (n : Int) := by omega
        have g4 : ¬ cap = 2 + n := by omega
        have g5 : IntKind.i64.wrap cr = cr := by unfold W32 at hcb; rw [IntKind.wrap_i64]; omega
        have g6 : wrap64 cr = cr := by unfold W32 at hcb; unfold wrap64; omega
        have HZZ := hid (HGZ.out.below (sq L2.out LR.out))
        clear hsm hcr hr V2 VR
        cases hrb : rightB r with
        | false =>
          have HRF := hid hrb
          have HE := hid (err23b (zs := zs) (by rw [HXX.out, HRB.out, HRL.out]; exact hrb))
          clear hrb
          go_wp2_with (first | (go_at_call 13; refine (rightR_any r _ HPZ.out).mono ?_; rintro e w9 ⟨rfl, l9⟩; rw [HRF.out]; have V9 := hid (VB.out.below l9); have L9 := hid (sq (sq L2.out LR.out) l9); clear l9) | refine ld29 V4.out rfl _ rfl rfl ?_ | refine bd29 rfl rfl ?_ | (refine st29 (r := Rc.zero) V9.out L9.out hb2 rfl _ _ rfl rfl rfl ?_; intro w10 v10 l10; have V10 := hid v10; have L10 := hid l10; clear v10 l10))
          refine bodyPost_ret (results_c2 Try.results17 _ _ rfl rfl rfl V10.out) rfl ⟨?_, L10.out⟩
          rw [HE.out.1, HE.out.2.1, HE.out.2.2]; rfl
        | true =>
          have HRF := hid hrb
          have hrec : recB (bodyX zs) = true := by rw [HXX.out, HRB.out, HRL.out]; exact hrb
          by_cases hsc : sm = cr
          · have HE := hid (err0 HSP.out hrec (by rw [HSM.out, HXX.out, HCR.out]; exact hsc))
            subst hsc
            clear hrb hrec
            go_wp2_with (first | (go_at_call 16; refine (crc_gv (GX.out w9 L9.out)).mono ?_; rintro e w' ⟨rfl, rfl⟩; rw [HCR.out]) | (go_at_call 31; refine (num_at _ 4 _ (pc zs (2 + n) 4) _ (pc_len (by rw [HGZ.out.leq]; omega)) ((HGZ.out.below L9.out).row.piece (2 + n) 4 (by rw [HGZ.out.leq]; omega)) (byt_pc HGZ.out.byt _ _) (by omega)).mono ?_; rintro e w' ⟨rfl, rfl⟩; rw [HNM.out]) | (go_at_call 13; refine (rightR_any r _ HPZ.out).mono ?_; rintro e w9 ⟨rfl, l9⟩; rw [HRF.out]; have V9 := hid (VB.out.below l9); have V9r := hid (V4.out.below l9); have L9 := hid (sq (sq L2.out LR.out) l9); clear l9) | refine ld29 V9r.out rfl _ rfl rfl ?_ | refine ld29 V4.out rfl _ rfl rfl ?_ | (refine st29 (r := r) V9.out L9.out hb2 rfl _ _ rfl rfl rfl ?_; intro w10 v10 l10; have V10 := hid v10; have L10 := hid l10; clear v10 l10))
            refine bodyPost_ret (results_c2 Try.results17 _ _ rfl rfl rfl V10.out) rfl ⟨?_, L10.out⟩
            rw [HE.out.1, HE.out.2.1, HE.out.2.2, HXX.out, HXL.out, HRO.out]
            show Ending.returned (.tuple #[r.val, .int .i64 (6 + (n : Int)), .int .i64 0]) = _
            rw [show 6 + (n : Int) = (n : Int) + 6 by omega]
          · have HE := hid (err24 HSP.out hrec (by rw [HSM.out, HXX.out, HCR.out]; exact hsc))
            clear hrb hrec
            go_wp2_with (first | (go_at_call 16; refine (crc_gv (GX.out w9 L9.out)).mono ?_; rintro e w' ⟨rfl, rfl⟩; rw [HCR.out]) | (go_at_call 31; refine (num_at _ 4 _ (pc zs (2 + n) 4) _ (pc_len (by rw [HGZ.out.leq]; omega)) ((HGZ.out.below L9.out).row.piece (2 + n) 4 (by rw [HGZ.out.leq]; omega)) (byt_pc HGZ.out.byt _ _) (by omega)).mono ?_; rintro e w' ⟨rfl, rfl⟩; rw [HNM.out]) | (go_at_call 13; refine (rightR_any r _ HPZ.out).mono ?_; rintro e w9 ⟨rfl, l9⟩; rw [HRF.out]; have V9 := hid (VB.out.below l9); have L9 := hid (sq (sq L2.out LR.out) l9); clear l9) | refine ld29 V4.out rfl _ rfl rfl ?_ | refine bd29 rfl rfl ?_ | (refine st29 (r := Rc.zero) V9.out L9.out hb2 rfl _ _ rfl rfl rfl ?_; intro w10 v10 l10; have V10 := hid v10; have L10 := hid l10; clear v10 l10))
            refine bodyPost_ret (results_c2 Try.results17 _ _ rfl rfl rfl V10.out) rfl ⟨?_, L10.out⟩
            rw [HE.out.1, HE.out.2.1, HE.out.2.2]; rfl
end Go.Proofs.Ytmojndacjngjpaa
