/- What the code reads the head of a text as. -/
import Derived.Test.YthhgochnlbiaaaaLn1
import Derived.Test.YthhgochnlbiaaaaPrs
import Derived.Deep.CutRange
namespace Go.Proofs.Ythhgochnlbiaaaa
open Go.ChangeShapes Go.WideShapes Go.ChangeAt Go.RowKit

theorem step_of {P : Program} {ops : Array Oper} {o : Oper} {a : Act} {w : World} {K : Act → World → Prop} {Q : Exit → Act → World → Prop} {E : Prop} (hg : o.guard = none) (h : Oper.wp P o a w K Q) :
    if Region.wanted o (yielded ops a.tmps) = true then Oper.wp P o a w K Q else E := by
  rw [if_pos (by simp [Region.wanted, hg])]; exact h
theorem run_storeVar_cs (w : World) (b o : Nat) (ty : TypeId) (v : Value) (cs : List Value) (hv : v.cells = cs.toArray) (ht : w.there b o cs.length) (hi : (Try.prog.info? ty).map (·.size) = some cs.length) (h1 : ∀ c ∈ cs, c.oneCell' = true) :
    (storeVar ty ⟨b, o, none⟩ v).run Try.prog w = .ok () (w.setCells b o cs) := by
  have := run_storeCells_cells (P := Try.prog) b o cs 0 w (fun j hj => by simpa using (ht j hj).1) (fun j hj => by simpa using (ht j hj).2) h1
  cases hq : Try.prog.info? ty with
  | none => simp [hq] at hi
  | some i =>
    have hs : cs.length = i.size := by simp [hq] at hi; omega
    simp only [Nat.add_zero] at this
    simp [storeVar, sizeOf, typeInfo, hq, hv, hs, this]
theorem al34w {op : Oper} {a : Act} {w : World} {K : Act → World → Prop} {Q : Exit → Act → World → Prop} (ho : op.op = .alloc 34)
    (h : ∀ b w', w.heap.size ≤ b → RV w' b St.zero → Below w.heap.size w w' → K (a.put op.dst (.pointer (some ⟨b, 0, none⟩))) w') : op.wp Try.prog a w K Q := by
  have hz := zero34 w
  unfold Oper.wp execOp
  simp [ho, Instr.alloc, hz, newVar, newRow, go_sem, St.val, Value.cells]
  exact h _ _ (Nat.le_refl _) (RV.new w St.zero 34) (bel1 _ _)
theorem st34w {op : Oper} {a : Act} {w : World} {K : Act → World → Prop} {Q : Exit → Act → World → Prop} {b : Nat} {r0 r : St} {w0 : World} (hr : RV w b r0) (hB : Below w0.heap.size w0 w) (hb : w0.heap.size ≤ b) (y z : Operand) (ho : op.op = .store 34 y z) (hx : a.eval y = .pointer (some ⟨b, 0, none⟩)) (hy : a.eval z = r.val)
    (h : ∀ w', RV w' b r → Below w0.heap.size w0 w' → K (a.put op.dst undef) w') : op.wp Try.prog a w K Q := by
  have hs := run_storeVar_cs w b 0 34 r.val r.cells rfl (by simpa [St.len] using hr.th) (by rw [n34]; simp [St.len]) r.one
  unfold Oper.wp execOp
  simp only [ho, hx, hy, Instr.storeAt, Instr.sureAddr, Sem.run_bind, Sem.run_pure, Result.andThen_ok, hs]
  exact h _ (hr.set r) (setCells_in hB hb 0)
theorem run_bd34 {ev : Operand → Value} {op : Oper} {r : St} (x0 x1 x2 x3 : Operand) (ho : op.op = .build 34 #[(0, x0), (1, x1), (2, x2), (3, x3)]) (h0 : ev x0 = .int .i64 r.id) (h1 : ev x1 = .int .u8 r.kind) (h2 : ev x2 = .int .i64 r.next) (h3 : ev x3 = .int .i64 r.other) (w : World) :
    (execOp ev op).run Try.prog w = .ok (.value r.val) w := by
  have hz := zero34 w
  unfold execOp
  simp only [ho, List.map_toArray, List.map_cons, List.map_nil, h0, h1, h2, h3]
  simp [Instr.build, hz, go_sem, St.val, St.cells, St.zero]
theorem number32 (s : ByteArray) (w : World) (hs : s.size ≤ 9223372036854775807) : Calls Try.prog 32 #[.string s] w fun e w' => e = .returned (.int .i64 (numV s)) ∧ w = w' := by
  have HS := hid hs
  clear hs
  go_enter Try.func32, Try.ntmps32
  go_wp2_with (go_at_call 36; refine (number8 s _ HS.out).mono ?_; rintro e w2 ⟨rfl, rfl⟩)
  go_ret
  exact ⟨rfl, rfl⟩
theorem numV_bd {s : ByteArray} (n : Nat) (h : s.size = n) : 0 ≤ numV s ∧ numV s < 10 ^ n := by
  unfold numV
  split
  · rename_i h1
    refine numD_bd n s.data.toList (by simpa using h) ?_
    unfold numOk at h1
    simp at h1
    exact h1.2
  · exact ⟨by omega, Int.pow_pos (by decide)⟩
/-- What the head of a text is read as. -/
def FsAns (w : World) (x : List Int) (e : Ending) (w' : World) : Prop := ∃ st : St, e = .returned (.tuple #[st.val, .bool (firstK x)]) ∧ (firstK x = true → st = firstV x) ∧ Below w.heap.size w w'
theorem fs_no {w w' : World} {x : List Int} {st : St} (h : firstK x = false) (hb : Below w.heap.size w w') : FsAns w x (.returned (.tuple #[st.val, .bool false])) w' := ⟨st, by rw [h], fun e => by (rw [h] at e; cases e), hb⟩
theorem fs_yes {w w' : World} {x : List Int} {st : St} (h : firstK x = true) (he : st = firstV x) (hb : Below w.heap.size w w') : FsAns w x (.returned (.tuple #[st.val, .bool true])) w' := ⟨st, by rw [h], fun _ => he, hb⟩
theorem first_ok {x : List Int} (h : 14 ≤ x.length) (hb : Byt x) : OkS (firstV x) := by
  have z1 : (strOfNums (pc x 0 3)).size = 3 := by rw [strOfNums_size]; exact pc_lenX x 0 3 (by omega)
  have z2 : (strOfNums (pc x 6 3)).size = 3 := by rw [strOfNums_size]; exact pc_lenX x 6 3 (by omega)
  have z3 : (strOfNums (pc x 10 3)).size = 3 := by rw [strOfNums_size]; exact pc_lenX x 10 3 (by omega)
  have b1 := numV_bd 3 z1
  have b2 := numV_bd 3 z2
  have b3 := numV_bd 3 z3
  have b4 := byt_getD hb 4
  unfold OkS firstV I64
  refine ⟨?_, b4, ?_, ?_⟩ <;> (dsimp only; omega)
theorem pan_str {x : List Int} (hb : Byt x) (k : Nat) (h : k < (strOfNums x).size) : x.getD k 0 = ((strOfNums x)[k].toNat : Int) := by
  have := pan_getD (strOfNums x) k h
  rw [panL_strN hb] at this
  exact this
theorem ext_take (x : List Int) (m : Nat) : (strOfNums x).extract 0 m = strOfNums (x.take m) := by
  rw [ext_str x 0 m m (by omega)]; rfl
set_option maxRecDepth 20000 in
set_option maxHeartbeats 8000000 in
theorem first26 (x : List Int) (W : World) (hb : Byt x) (hl : x.length ≤ 1000000) : Calls Try.prog 26 #[.string (strOfNums x)] W (FsAns W x) := by
  by_cases h14 : x.length < 14
  · have HF := hid (first_short h14)
    have hsz := strOfNums_size x
    obtain ⟨s, hs⟩ : ∃ s, strOfNums x = s := ⟨_, rfl⟩
    rw [hs] at hsz ⊢
    have hd : decide ((s.size : Int) < 14) = true := decide_eq_true (by omega)
    clear hs hsz h14 hb hl
    go_enter Try.func26, Try.ntmps26
    go_wp2_with (first | (have kill := V1.out; refine st34 (r := St.zero) V1.out L1.out hb1 rfl _ _ rfl rfl rfl ?_; intro w9 v9 l9; have V9 := hid v9; have L9 := hid l9; clear v9 l9 kill V1) | (have kill := V1.out; refine bd34 rfl rfl ?_) | (refine al34 rfl rfl ?_; intro b1 w1 hb1 v1 l1; have V1 := hid v1; have L1 := hid l1; clear v1 l1))
    exact bodyPost_ret (results_c1 Try.results26 _ _ rfl rfl V9.out) rfl (fs_no HF.out L9.out)
  have h14 : 14 ≤ x.length := by omega
  have OK := hid (first_ok h14 hb)
  have IFF := hid (first_iff h14 hb)
  have BYT := hid hb
  have e1 := ext_str x 0 3 3 rfl
  have e2 := ext_str x 6 9 3 rfl
  have e3 := ext_str x 10 13 3 rfl
  have e4 := ext_take x 14
  have hsz := strOfNums_size x
  have k4 : ∀ h : 4 < (strOfNums x).size, x.getD 4 0 = ((strOfNums x)[4].toNat : Int) := fun h => pan_str hb 4 h
  obtain ⟨X, hX⟩ : ∃ X : St, firstV x = X := ⟨_, rfl⟩
  have x0 : Hid (X.id = numV (strOfNums (pc x 0 3))) := by rw [← hX]; exact rfl
  have x1 : Hid (X.kind = x.getD 4 0) := by rw [← hX]; exact rfl
  have x2 : Hid (X.next = numV (strOfNums (pc x 6 3))) := by rw [← hX]; exact rfl
  have x3 : Hid (X.other = numV (strOfNums (pc x 10 3))) := by rw [← hX]; exact rfl
  have z1 : Hid ((strOfNums (pc x 0 3)).size ≤ 9223372036854775807) := by unfold Hid; rw [strOfNums_size, pc_lenX x 0 3 (by omega)]; omega
  have z2 : Hid ((strOfNums (pc x 6 3)).size ≤ 9223372036854775807) := by unfold Hid; rw [strOfNums_size, pc_lenX x 6 3 (by omega)]; omega
  have z3 : Hid ((strOfNums (pc x 10 3)).size ≤ 9223372036854775807) := by unfold Hid; rw [strOfNums_size, pc_lenX x 10 3 (by omega)]; omega
  obtain ⟨S1, hS1⟩ : ∃ S, strOfNums (pc x 0 3) = S := ⟨_, rfl⟩
  obtain ⟨S2, hS2⟩ : ∃ S, strOfNums (pc x 6 3) = S := ⟨_, rfl⟩
  obtain ⟨S3, hS3⟩ : ∃ S, strOfNums (pc x 10 3) = S := ⟨_, rfl⟩
  obtain ⟨K4, hK4⟩ : ∃ k, x.getD 4 0 = k := ⟨_, rfl⟩
  have HXF := hid hX
  obtain ⟨T2, hT2⟩ : ∃ T, strOfNums (x.take 14) = T := ⟨_, rfl⟩
  have HT2 := hid hT2
  rw [hT2] at e4
  clear hT2
  generalize strOfNums x = s at e1 e2 e3 e4 hsz k4 ⊢
  rw [hX] at OK IFF
  rw [hS1] at e1 x0 z1
  rw [hS2] at e2 x2 z2
  rw [hS3] at e3 x3 z3
  rw [hK4] at k4 x1
  have h4 : 4 < s.size := by omega
  have k4 := k4 h4
  clear hX hS1 hS2 hS3 hK4 hb
  have hs14 : 14 ≤ s.size := by omega
  have hs15 : s.size ≤ 1000000 := by omega
  have hd : decide ((s.size : Int) < 14) = false := decide_eq_false (by omega)
  clear h14 hl hsz
  go_enter Try.func26, Try.ntmps26
  go_upto_region 3 with (refine al34 rfl rfl ?_; intro b1 w1 hb1 v1 l1; have V1 := hid v1; have L1 := hid l1; clear v1 l1)
  go_cut [4] from 11 to 22 (fun v wx => ∃ b, v = .pointer (some ⟨b, 0, none⟩) ∧ RV wx b X ∧ RV wx b1 St.zero ∧ Below W.heap.size W wx)
  case first =>
    refine wp_region_noPanic ?_
    refine wp_region_held_drew (S := (fun _ : World => True)) (by kernel_rfl) trivial (fun hHeld => ?_)
    have BD := hid (L1.out.drew)
    have VD : Hid (RV w1.drew b1 St.zero) := hid (V1.out.below (Below.refl _ w1).drew)
    (refine tk_yes (v := ?_) 0 (some 11) rfl rfl (by kernel_rfl) (by kernel_rfl) (by kernel_rfl) (fun _ _ _ h => h) (by rfl) ?_ hHeld ?_; rotate_left; focus (intro w hSw; go_simp; try with_reducible rfl))
    simp only [Act.put, List.setIfInBounds_toArray, List.set_cons_zero, List.set_cons_succ]
    (refine tk_yes (v := .string S1) 1 (some 12) rfl rfl (by kernel_rfl) (by kernel_rfl) (by kernel_rfl) (fun _ _ _ h => h) (by rfl) ?_ hHeld ?_; focus (intro w hSw; go_simp; (try simp only [e1]); first | done | (intros; exfalso; omega) | with_reducible rfl))
    simp only [Act.put, List.setIfInBounds_toArray, List.set_cons_zero, List.set_cons_succ]
    (refine tk_yes (v := ?_) 3 (some 14) rfl rfl (by kernel_rfl) (by kernel_rfl) (by kernel_rfl) (fun _ _ _ h => h) (by rfl) ?_ hHeld ?_; rotate_left; focus (intro w hSw; go_simp; try with_reducible rfl))
    simp only [Act.put, List.setIfInBounds_toArray, List.set_cons_zero, List.set_cons_succ]
    (refine tk_yes (v := .int .u8 K4) 4 (some 15) rfl rfl (by kernel_rfl) (by kernel_rfl) (by kernel_rfl) (fun _ _ _ h => h) (by rfl) ?_ hHeld ?_; focus (intro w hSw; go_simp; rw [dif_pos (show (4 : Int) < (s.size : Int) by omega)]; rfl))
    simp only [Act.put, List.setIfInBounds_toArray, List.set_cons_zero, List.set_cons_succ]
    (refine tk_yes (v := ?_) 5 (some 16) rfl rfl (by kernel_rfl) (by kernel_rfl) (by kernel_rfl) (fun _ _ _ h => h) (by rfl) ?_ hHeld ?_; rotate_left; focus (intro w hSw; go_simp; try with_reducible rfl))
    simp only [Act.put, List.setIfInBounds_toArray, List.set_cons_zero, List.set_cons_succ]
    (refine tk_yes (v := .string S2) 6 (some 17) rfl rfl (by kernel_rfl) (by kernel_rfl) (by kernel_rfl) (fun _ _ _ h => h) (by rfl) ?_ hHeld ?_; focus (intro w hSw; go_simp; (try simp only [e2]); first | done | with_reducible rfl | (intros; exfalso; omega)))
    simp only [Act.put, List.setIfInBounds_toArray, List.set_cons_zero, List.set_cons_succ]
    (refine tk_yes (v := ?_) 8 (some 19) rfl rfl (by kernel_rfl) (by kernel_rfl) (by kernel_rfl) (fun _ _ _ h => h) (by rfl) ?_ hHeld ?_; rotate_left; focus (intro w hSw; go_simp; try with_reducible rfl))
    simp only [Act.put, List.setIfInBounds_toArray, List.set_cons_zero, List.set_cons_succ]
    (refine tk_yes (v := .string S3) 9 (some 20) rfl rfl (by kernel_rfl) (by kernel_rfl) (by kernel_rfl) (fun _ _ _ h => h) (by rfl) ?_ hHeld ?_; focus (intro w hSw; go_simp; (try simp only [e3]); first | done | with_reducible rfl | (intros; exfalso; omega)))
    simp only [Act.put, List.setIfInBounds_toArray, List.set_cons_zero, List.set_cons_succ]
    refine wpAnyH_ready (rs := [2, 12]) (by kernel_rfl) (by simp) ?_
    refine AllReadyH.cons rfl (fun K hK => ?_) (AllReadyH.cons rfl (fun K hK => ?_) AllReadyH.nil)
    · go_simp
      try simp only [e1]
      go_at_call 32
      refine (number32 S1 _ z1.out).mono ?_
      rintro e wk ⟨rfl, rfl⟩
      go_wp2_with fail
      refine hK.out _ _ trivial (fun hHeld => ?_)
      clear hK K
      try simp only [Act.put, List.setIfInBounds_toArray, List.set_cons_zero, List.set_cons_succ]
      refine wpAnyH_ready (rs := [7, 12]) (by kernel_rfl) (by simp) ?_
      refine AllReadyH.cons rfl (fun K hK => ?_) (AllReadyH.cons rfl (fun K hK => ?_) AllReadyH.nil)
      · go_simp
        try simp only [e2]
        go_at_call 32
        refine (number32 S2 _ z2.out).mono ?_
        rintro e wk ⟨rfl, rfl⟩
        go_wp2_with fail
        refine hK.out _ _ trivial (fun hHeld => ?_)
        clear hK K
        try simp only [Act.put, List.setIfInBounds_toArray, List.set_cons_zero, List.set_cons_succ]
        refine wpAnyH_ready (rs := [10, 12]) (by kernel_rfl) (by simp) ?_
        refine AllReadyH.cons rfl (fun K hK => ?_) (AllReadyH.cons rfl (fun K hK => ?_) AllReadyH.nil)
        · go_simp
          try simp only [e3]
          go_at_call 32
          refine (number32 S3 _ z3.out).mono ?_
          rintro e wk ⟨rfl, rfl⟩
          go_wp2_with fail
          refine hK.out _ _ trivial (fun hHeld => ?_)
          clear hK K
          try simp only [Act.put, List.setIfInBounds_toArray, List.set_cons_zero, List.set_cons_succ]
          (refine tk_yes (v := X.val) 11 (some 22) rfl rfl (by kernel_rfl) (by kernel_rfl) (by kernel_rfl) (fun _ _ _ h => h) (by rfl) ?_ hHeld ?_; focus (intro w hSw; exact run_bd34 (r := X) _ _ _ _ rfl (by rw [x0.out]; rfl) (by rw [x1.out, k4]; rfl) (by rw [x2.out]; rfl) (by rw [x3.out]; rfl) w))
          simp only [Act.put, List.setIfInBounds_toArray, List.set_cons_zero, List.set_cons_succ]
          refine wpAnyH_ready (rs := [12]) (by kernel_rfl) (by simp) ?_
          refine AllReadyH.cons rfl (fun K hK => ?_) AllReadyH.nil
          refine step_of (o := { dst := some 4, op := _, type := _, pos := _, after := _, guard := none }) rfl (al34w rfl ?_)
          intro b9 wz hb9 v9 l9
          have VZ := hid v9
          have LZ := hid l9
          have BA := hid (sq BD.out l9)
          have VA := hid (VD.out.below l9)
          refine hK.out _ _ trivial (fun hHeld => ?_)
          clear hK K v9 l9
          try simp only [Act.put, List.setIfInBounds_toArray, List.set_cons_zero, List.set_cons_succ]
          refine wpAnyH_ready (rs := [13]) (by kernel_rfl) (by simp) ?_
          refine AllReadyH.cons rfl (fun K hK => ?_) AllReadyH.nil
          refine step_of (o := { dst := none, op := _, type := _, pos := _, after := _, guard := none }) rfl (st34w (r := X) VZ.out LZ.out hb9 _ _ rfl rfl rfl ?_)
          intro ws vs ls
          have XS := hid vs
          have VS := hid (VD.out.below ls)
          have BS := hid (sq BD.out ls)
          refine hK.out _ _ trivial (fun hHeld => ?_)
          clear hK K vs ls
          try simp only [Act.put]
          refine wpAnyH_done (by kernel_rfl) ?_ _
          refine NoPanic.normal ?_
          go_wp2_with fail
          go_meet
          case rel => exact ⟨b9, rfl, XS.out, VS.out, BS.out⟩
        · refine step_of (o := { dst := some 4, op := _, type := _, pos := _, after := _, guard := none }) rfl (al34w rfl ?_)
          intro b9 wz hb9 v9 l9
          have VZ := hid v9
          have LZ := hid l9
          have BA := hid (sq BD.out l9)
          have VA := hid (VD.out.below l9)
          refine hK.out _ _ trivial (fun hHeld => ?_)
          clear hK K v9 l9
          try simp only [Act.put, List.setIfInBounds_toArray, List.set_cons_zero, List.set_cons_succ]
          refine wpAnyH_ready (rs := [10]) (by kernel_rfl) (by simp) ?_
          refine AllReadyH.cons rfl (fun K hK => ?_) AllReadyH.nil
          go_simp
          try simp only [e3]
          go_at_call 32
          refine (number32 S3 _ z3.out).mono ?_
          rintro e wk ⟨rfl, rfl⟩
          go_wp2_with fail
          refine hK.out _ _ trivial (fun hHeld => ?_)
          clear hK K
          try simp only [Act.put, List.setIfInBounds_toArray, List.set_cons_zero, List.set_cons_succ]
          (refine tk_yes (v := X.val) 11 (some 22) rfl rfl (by kernel_rfl) (by kernel_rfl) (by kernel_rfl) (fun _ _ _ h => h) (by rfl) ?_ hHeld ?_; focus (intro w hSw; exact run_bd34 (r := X) _ _ _ _ rfl (by rw [x0.out]; rfl) (by rw [x1.out, k4]; rfl) (by rw [x2.out]; rfl) (by rw [x3.out]; rfl) w))
          simp only [Act.put, List.setIfInBounds_toArray, List.set_cons_zero, List.set_cons_succ]
          refine wpAnyH_ready (rs := [13]) (by kernel_rfl) (by simp) ?_
          refine AllReadyH.cons rfl (fun K hK => ?_) AllReadyH.nil
          refine step_of (o := { dst := none, op := _, type := _, pos := _, after := _, guard := none }) rfl (st34w (r := X) VZ.out LZ.out hb9 _ _ rfl rfl rfl ?_)
          intro ws vs ls
          have XS := hid vs
          have VS := hid (VD.out.below ls)
          have BS := hid (sq BD.out ls)
          refine hK.out _ _ trivial (fun hHeld => ?_)
          clear hK K vs ls
          try simp only [Act.put]
          refine wpAnyH_done (by kernel_rfl) ?_ _
          refine NoPanic.normal ?_
          go_wp2_with fail
          go_meet
          case rel => exact ⟨b9, rfl, XS.out, VS.out, BS.out⟩
      · refine step_of (o := { dst := some 4, op := _, type := _, pos := _, after := _, guard := none }) rfl (al34w rfl ?_)
        intro b9 wz hb9 v9 l9
        have VZ := hid v9
        have LZ := hid l9
        have BA := hid (sq BD.out l9)
        have VA := hid (VD.out.below l9)
        refine hK.out _ _ trivial (fun hHeld => ?_)
        clear hK K v9 l9
        try simp only [Act.put, List.setIfInBounds_toArray, List.set_cons_zero, List.set_cons_succ]
        refine wpAnyH_ready (rs := [7]) (by kernel_rfl) (by simp) ?_
        refine AllReadyH.cons rfl (fun K hK => ?_) AllReadyH.nil
        go_simp
        try simp only [e2]
        go_at_call 32
        refine (number32 S2 _ z2.out).mono ?_
        rintro e wk ⟨rfl, rfl⟩
        go_wp2_with fail
        refine hK.out _ _ trivial (fun hHeld => ?_)
        clear hK K
        try simp only [Act.put, List.setIfInBounds_toArray, List.set_cons_zero, List.set_cons_succ]
        refine wpAnyH_ready (rs := [10]) (by kernel_rfl) (by simp) ?_
        refine AllReadyH.cons rfl (fun K hK => ?_) AllReadyH.nil
        go_simp
        try simp only [e3]
        go_at_call 32
        refine (number32 S3 _ z3.out).mono ?_
        rintro e wk ⟨rfl, rfl⟩
        go_wp2_with fail
        refine hK.out _ _ trivial (fun hHeld => ?_)
        clear hK K
        try simp only [Act.put, List.setIfInBounds_toArray, List.set_cons_zero, List.set_cons_succ]
        (refine tk_yes (v := X.val) 11 (some 22) rfl rfl (by kernel_rfl) (by kernel_rfl) (by kernel_rfl) (fun _ _ _ h => h) (by rfl) ?_ hHeld ?_; focus (intro w hSw; exact run_bd34 (r := X) _ _ _ _ rfl (by rw [x0.out]; rfl) (by rw [x1.out, k4]; rfl) (by rw [x2.out]; rfl) (by rw [x3.out]; rfl) w))
        simp only [Act.put, List.setIfInBounds_toArray, List.set_cons_zero, List.set_cons_succ]
        refine wpAnyH_ready (rs := [13]) (by kernel_rfl) (by simp) ?_
        refine AllReadyH.cons rfl (fun K hK => ?_) AllReadyH.nil
        refine step_of (o := { dst := none, op := _, type := _, pos := _, after := _, guard := none }) rfl (st34w (r := X) VZ.out LZ.out hb9 _ _ rfl rfl rfl ?_)
        intro ws vs ls
        have XS := hid vs
        have VS := hid (VD.out.below ls)
        have BS := hid (sq BD.out ls)
        refine hK.out _ _ trivial (fun hHeld => ?_)
        clear hK K vs ls
        try simp only [Act.put]
        refine wpAnyH_done (by kernel_rfl) ?_ _
        refine NoPanic.normal ?_
        go_wp2_with fail
        go_meet
        case rel => exact ⟨b9, rfl, XS.out, VS.out, BS.out⟩
    · refine step_of (o := { dst := some 4, op := _, type := _, pos := _, after := _, guard := none }) rfl (al34w rfl ?_)
      intro b9 wz hb9 v9 l9
      have VZ := hid v9
      have LZ := hid l9
      have BA := hid (sq BD.out l9)
      have VA := hid (VD.out.below l9)
      refine hK.out _ _ trivial (fun hHeld => ?_)
      clear hK K v9 l9
      try simp only [Act.put, List.setIfInBounds_toArray, List.set_cons_zero, List.set_cons_succ]
      refine wpAnyH_ready (rs := [2]) (by kernel_rfl) (by simp) ?_
      refine AllReadyH.cons rfl (fun K hK => ?_) AllReadyH.nil
      go_simp
      try simp only [e1]
      go_at_call 32
      refine (number32 S1 _ z1.out).mono ?_
      rintro e wk ⟨rfl, rfl⟩
      go_wp2_with fail
      refine hK.out _ _ trivial (fun hHeld => ?_)
      clear hK K
      try simp only [Act.put, List.setIfInBounds_toArray, List.set_cons_zero, List.set_cons_succ]
      refine wpAnyH_ready (rs := [7]) (by kernel_rfl) (by simp) ?_
      refine AllReadyH.cons rfl (fun K hK => ?_) AllReadyH.nil
      go_simp
      try simp only [e2]
      go_at_call 32
      refine (number32 S2 _ z2.out).mono ?_
      rintro e wk ⟨rfl, rfl⟩
      go_wp2_with fail
      refine hK.out _ _ trivial (fun hHeld => ?_)
      clear hK K
      try simp only [Act.put, List.setIfInBounds_toArray, List.set_cons_zero, List.set_cons_succ]
      refine wpAnyH_ready (rs := [10]) (by kernel_rfl) (by simp) ?_
      refine AllReadyH.cons rfl (fun K hK => ?_) AllReadyH.nil
      go_simp
      try simp only [e3]
      go_at_call 32
      refine (number32 S3 _ z3.out).mono ?_
      rintro e wk ⟨rfl, rfl⟩
      go_wp2_with fail
      refine hK.out _ _ trivial (fun hHeld => ?_)
      clear hK K
      try simp only [Act.put, List.setIfInBounds_toArray, List.set_cons_zero, List.set_cons_succ]
      (refine tk_yes (v := X.val) 11 (some 22) rfl rfl (by kernel_rfl) (by kernel_rfl) (by kernel_rfl) (fun _ _ _ h => h) (by rfl) ?_ hHeld ?_; focus (intro w hSw; exact run_bd34 (r := X) _ _ _ _ rfl (by rw [x0.out]; rfl) (by rw [x1.out, k4]; rfl) (by rw [x2.out]; rfl) (by rw [x3.out]; rfl) w))
      simp only [Act.put, List.setIfInBounds_toArray, List.set_cons_zero, List.set_cons_succ]
      refine wpAnyH_ready (rs := [13]) (by kernel_rfl) (by simp) ?_
      refine AllReadyH.cons rfl (fun K hK => ?_) AllReadyH.nil
      refine step_of (o := { dst := none, op := _, type := _, pos := _, after := _, guard := none }) rfl (st34w (r := X) VZ.out LZ.out hb9 _ _ rfl rfl rfl ?_)
      intro ws vs ls
      have XS := hid vs
      have VS := hid (VD.out.below ls)
      have BS := hid (sq BD.out ls)
      refine hK.out _ _ trivial (fun hHeld => ?_)
      clear hK K vs ls
      try simp only [Act.put]
      refine wpAnyH_done (by kernel_rfl) ?_ _
      refine NoPanic.normal ?_
      go_wp2_with fail
      go_meet
      case rel => exact ⟨b9, rfl, XS.out, VS.out, BS.out⟩
  case rest =>
    obtain ⟨b4, rfl, v4, v3, l3⟩ := hcut
    have V4 := hid v4
    have V3 := hid v3
    have L3 := hid l3
    clear v4 v3 l3 V1 L1
    go_upto_region 5 with (first | (go_at_call 21; have kill := V4.out; refine (line21 X _ OK.out).mono ?_; rintro e w5 ⟨rfl, l5⟩; have V5 := hid (V4.out.below l5); have V6 := hid (V3.out.below l5); have L5 := hid (sq L3.out l5); clear l5 kill V4 V3 L3) | (have kill := V4.out; refine ld34 V4.out rfl _ rfl rfl ?_))
    cases hk : lineK X
    · have HF : Hid (firstK x = false) := by have := IFF.out; rw [hk] at this; exact this.symm
      clear hk
      go_wp2_with (first | (have kill := V6.out; refine st34 (r := St.zero) V6.out L5.out hb1 rfl _ _ rfl rfl rfl ?_; intro w9 v9 l9; have V9 := hid v9; have L9 := hid l9; clear v9 l9 kill V6) | (have kill := V6.out; refine bd34 rfl rfl ?_))
      exact bodyPost_ret (results_c1 Try.results26 _ _ rfl rfl V9.out) rfl (fs_no HF.out L9.out)
    · have hkind : 0 ≤ X.kind ∧ X.kind < 256 := kind_byt (line_parts hk).2.2.2
      rw [line_yes hk]
      by_cases he : lineL X = x.take 14
      · have HT : Hid (firstK x = true) := by have := IFF.out; rw [hk, decide_eq_true he] at this; exact this.symm
        have hq : strOfNums (lineL X) = T2 := by rw [← HT2.out, he]
        rw [hq]
        clear hk he hq
        go_wp2_with (first | (have kill := V6.out; refine st34 (r := X) V6.out L5.out hb1 rfl _ _ rfl rfl rfl ?_; intro w9 v9 l9; have V9 := hid v9; have L9 := hid l9; clear v9 l9 kill V6) | (have kill := V6.out; refine ld34 V5.out rfl _ rfl rfl ?_))
        exact bodyPost_ret (results_c1 Try.results26 _ _ rfl rfl V9.out) rfl (fs_yes HT.out HXF.out.symm L9.out)
      · have HF : Hid (firstK x = false) := by have := IFF.out; rw [hk, decide_eq_false he] at this; exact this.symm
        obtain ⟨T, hT⟩ : ∃ T, strOfNums (lineL X) = T := ⟨_, rfl⟩
        have hq : T ≠ T2 := by rw [← HT2.out, ← hT]; exact fun h => he ((strN_inj (lineL_byt hkind) (byt_take BYT.out 14)).1 h)
        have hq2 : (T.toList == T2.toList) = false := by
          simp only [ByteArray.toList_eq, beq_eq_false_iff_ne, ne_eq]
          exact fun h => hq (ByteArray.ext (Array.toList_inj.1 h))
        rw [hT]
        clear hk he
        go_wp2_with (first | (have kill := V6.out; refine st34 (r := St.zero) V6.out L5.out hb1 rfl _ _ rfl rfl rfl ?_; intro w9 v9 l9; have V9 := hid v9; have L9 := hid l9; clear v9 l9 kill V6) | (have kill := V6.out; refine bd34 rfl rfl ?_))
        exact bodyPost_ret (results_c1 Try.results26 _ _ rfl rfl V9.out) rfl (fs_no HF.out L9.out)
end Go.Proofs.Ythhgochnlbiaaaa
