/- TableWays: a right table has a way to an end from each state. For every input. -/
import Derived.Test.YthhgochnlbiaaaaKnown
import Derived.Test.YthhgochnlbiaaaaTab
import Derived.Test.YthhgochnlbiaaaaEnt
namespace Go.Proofs.Ythhgochnlbiaaaa
open Go.ChangeShapes Go.WideShapes Go.ChangeAt Go.RowKit Go.Maps

theorem st_cells {w : World} {b o : Nat} {id kk nx ot : Int} (h : w.rangeAt b o (St.mk id kk nx ot).cells) :
    w.cell? ⟨b, o, none⟩ = some (.int .i64 id) ∧ w.cell? ⟨b, o + 1, none⟩ = some (.int .u8 kk) ∧ w.cell? ⟨b, o + 2, none⟩ = some (.int .i64 nx) ∧ w.cell? ⟨b, o + 3, none⟩ = some (.int .i64 ot) :=
  ⟨h 0 _ rfl, h 1 _ rfl, h 2 _ rfl, h 3 _ rfl⟩
set_option maxRecDepth 20000 in
set_option maxHeartbeats 16000000 in
theorem ways_walk (x0 : Option Addr) (y0 z0 : Nat) (l0 : List Int) (few at' : Int) (W : World) (h0 : InN W x0 y0 z0 l0) (hfew : 0 ≤ few ∧ few < 256) (hat : 0 ≤ at' ∧ at' < 256) :
    Calls Try.prog 6 #[.slice x0 y0 z0, .int .u8 few, .int .u8 at'] W fun e w' => e = .returned (.bool true) ∧ Below W.heap.size W w' := by
  have H0 := hid h0.1
  have HF := hid hfew
  have hy0 := h0.2
  have HX0 : Hid True := trivial
  clear h0 hfew
  by_cases h40 : 40 < y0
  · have d0 : decide ((40 : Int) < (y0 : Int)) = true := decide_eq_true (by omega)
    clear hat
    go_enter Try.func6, Try.ntmps6
    go_wp2_with (go_at_call 7; have kill := HX0.out; refine (known7 _).mono ?_; rintro e w1 ⟨rfl, l1⟩; have L1 := hid l1; clear l1 kill HX0)
    go_ret
    exact ⟨rfl, L1.out⟩
  have d0 : decide ((40 : Int) < (y0 : Int)) = false := decide_eq_false (by omega)
  by_cases hz : y0 = 0
  · have e0 : ((y0 : Int) == 0) = true := by rw [beq_iff_eq]; omega
    clear hat
    go_enter Try.func6, Try.ntmps6
    go_wp2_with (go_at_call 7; have kill := HX0.out; refine (known7 _).mono ?_; rintro e w1 ⟨rfl, l1⟩; have L1 := hid l1; clear l1 kill HX0)
    go_ret
    exact ⟨rfl, L1.out⟩
  have e0 : ((y0 : Int) == 0) = false := by rw [beq_eq_false_iff_ne]; omega
  have hq0 : y0 ≤ 40 := by omega
  have hq1 : 0 < y0 := by omega
  obtain ⟨ix, hix, hixl⟩ : ∃ ix : Nat, at'.tmod (y0 : Int) = (ix : Int) ∧ ix < y0 := by
    have := tmod_bd at' y0 hat.1 (by omega)
    exact ⟨(at'.tmod (y0 : Int)).toNat, by omega, by omega⟩
  have fa : IntKind.i64.wrap at' = at' := by rw [IntKind.wrap_i64]; omega
  clear h40 hz hat
  go_enter Try.func6, Try.ntmps6
  go_upto_region 7 with (first | (go_at_call 9; have kill := M2.out; refine (check9 _ _ _ ls _ M2.out (by omega) OK2.out).mono ?_; rintro e w3 ⟨rfl, l3⟩; obtain ⟨CA, hCA⟩ : ∃ z, (checkL ls).1 = z := ⟨_, rfl⟩; obtain ⟨CB, hCB⟩ : ∃ z, (checkL ls).2 = z := ⟨_, rfl⟩; rw [hCA, hCB]; have CK := hid hCB; have G9 := hid (M2.out.below l3); have B9 := hid (sq L2.out l3); clear l3 hCA hCB kill M2 L2) | (go_at_call 8; have kill := L1.out; refine (table8 x0 y0 z0 few _ (H0.out.below L1.out) (by omega) HF.out).mono ?_; rintro e w2 ⟨a2, c2, ls, rfl, m2, ok2⟩; have M2 := hid m2.given; have OK2 := hid ok2; have L2 := hid (sq L1.out m2.2); clear m2 ok2 kill L1) | (go_at_call 7; have kill := HX0.out; refine (known7 _).mono ?_; rintro e w1 ⟨rfl, l1⟩; have L1 := hid l1; clear l1 kill HX0))
  by_cases hc : CB = 0
  rotate_left
  · have nb : (CB != 0) = true := by simpa using hc
    go_wp2
    go_ret
    exact ⟨rfl, B9.out⟩
  subst hc
  have LS : ls.length = y0 := G9.out.leq
  obtain ⟨bg, og, rfl, hcl⟩ := G9.out.some hq1
  obtain ⟨ID, hID⟩ : ∃ z, (sAt ls ix).id = z := ⟨_, rfl⟩
  have RG : Hid (∀ w' k, k < y0 → Below w3.heap.size w3 w' → w'.rangeAt bg (og + k * 4) (sAt ls k).cells) := fun w' k hk hb j v hv => cellkept (hcl k _ (sAt_get (by omega)) j v hv) hb
  have cg0 : w3.cell? ⟨bg, og + ix * 4, none⟩ = some (.int .i64 ID) := by rw [← hID]; exact hcl ix _ (sAt_get (by omega)) 0 _ rfl
  have CG := hid cg0
  have HI : Hid (I64 ID) := by rw [← hID]; exact (OK2.out ix).1
  have HID := hid hID
  have K9 : Hid True := trivial
  have HLS := hid LS
  clear hcl cg0 LS hID
  go_wp2_with (first | (have kill := M4.out; refine insB _ _ _ rfl (wanted_none' rfl _) M4.out (by omega) ID true rfl rfl rfl HI.out ?_; intro w5 m5 g5; have M5 := hid m5; have L5 := hid (L4.out.grown g5 L4.out.size (fun q hq => by cases hq; exact Nat.le_of_eq HBM.out.symm)); clear m5 g5 cg kill M4) | (have kill := K9.out; refine mkB rfl (wanted_none' rfl _) ?_; intro w4 bm hbm m4 l4; have M4 := hid m4; have L4 := hid l4; have HBM := hid hbm; have cg := cellkept CG.out l4; clear m4 l4 hbm kill K9))
  have W0 : Hid (MB w5 bm 1 (waysW ls ID 0)) := by have h := M5.out; rw [ways0] at h; exact h
  have HB5 : Hid (w3.heap.size ≤ bm) := Nat.le_of_eq HBM.out.symm
  clear M5 HBM L4 CG
  go_loopw [10, 11] (fun m i wr => ∃ q bn nn : Nat, q ≤ y0 + 1 ∧ i = .int .i64 (q : Int) ∧ m = .map (some bn) ∧ w3.heap.size ≤ bn ∧ nn ≤ 1000 ∧ MB wr bn nn (waysW ls ID q) ∧ (∀ j, j < q → NoEnd ls (waysW ls ID j)) ∧ Below w3.heap.size w3 wr) (fun _ i _ => y0 + 2 - (intOf i).toNat)
  case atStart => exact ⟨0, bm, 1, by omega, rfl, rfl, HB5.out, by omega, W0.out, fun j hj => absurd hj (Nat.not_lt_zero j), L5.out⟩
  case round =>
    obtain ⟨q, bn, nn, hq, rfl, rfl, hbn, hnn, hmb, hno, hbl⟩ := hrel
    clear W0 L5 HB5
    by_cases hqy : q ≤ y0
    rotate_left
    · exact (ways_end CK.out (k := ix) (by rw [HLS.out]; exact hixl) (fun j hj => by rw [HID.out]; exact hno j (by rw [HLS.out] at hj; omega))).elim
    obtain ⟨NW, hNW⟩ : ∃ f, waysW ls ID q = f := ⟨_, rfl⟩
    rw [hNW] at hmb
    have HNW := hid hNW
    have MB0 := hid hmb
    have NO := hid hno
    have BL := hid hbl
    have HBN := hid hbn
    have HNN := hid hnn
    have K13 : Hid True := trivial
    have dq : decide ((q : Int) ≤ (y0 : Int)) = true := decide_eq_true (by omega)
    clear hNW hmb hno hbl hbn hnn
    go_wp2_with (have kill := K13.out; refine mkB rfl (wanted_none' rfl _) ?_; intro w6 bx hbx m6 l6; have M6 := hid m6; have L6 := hid l6; have HBX := hid hbx; clear m6 l6 hbx kill K13)
    have HNE : Hid (some bn ≠ some bx) := fun e => by have h1 := MB0.out.lt; have h2 := HBX.out; cases e; omega
    have HBX3 : Hid (w3.heap.size ≤ bx) := by have h2 := HBX.out; have h3 := BL.out.size; exact (by omega : w3.heap.size ≤ bx)
    have S1 := hid (MB0.out.below L6.out)
    have S2 := hid (sq BL.out L6.out)
    clear MB0 HBX BL L6
    go_loopw [13] (fun i wi => ∃ k mm : Nat, k ≤ y0 ∧ i = .int .i64 (k : Int) ∧ mm ≤ 3 * k ∧ MB wi bx mm ((ls.take k).foldl (stepW NW) (fun _ => false)) ∧ MB wi bn nn NW ∧ (∀ j, j < k → NW (sAt ls j).id = true → (sAt ls j).kind ≠ 90) ∧ Below w3.heap.size w3 wi) (fun i _ => y0 - (intOf i).toNat)
    case atStart => exact ⟨0, 0, by omega, rfl, by omega, M6.out, S1.out, fun j hj => absurd hj (Nat.not_lt_zero j), S2.out⟩
    case round =>
      obtain ⟨k, mm, hk, rfl, hmm, hmx, hmn, hne, hbl⟩ := hrel
      have MX := hid hmx
      have MN := hid hmn
      have NE := hid hne
      have BL := hid hbl
      clear hmx hmn hne hbl M6 S1 S2
      by_cases hlt : k < y0
      · obtain ⟨⟨id, kk, nx, ot⟩, hr⟩ : ∃ r, sAt ls k = r := ⟨_, rfl⟩
        have hok := OK2.out k
        rw [hr] at hok
        have I0 := hid hok.1
        have I2 := hid hok.2.1
        have I3 := hid hok.2.2.1
        have RK : Hid (∀ w', Below w3.heap.size w3 w' → w'.rangeAt bg (og + k * 4) (St.mk id kk nx ot).cells) := fun w' hb => hr ▸ RG.out w' k hlt hb
        have HR := hid hr
        obtain ⟨c0, c1, -, -⟩ := st_cells (RK.out _ BL.out)
        obtain ⟨FN, hFN⟩ : ∃ f, (ls.take k).foldl (stepW NW) (fun _ => false) = f := ⟨_, rfl⟩
        have FQ : Hid ((ls.take (k + 1)).foldl (stepW NW) (fun _ => false) = stepW NW FN ⟨id, kk, nx, ot⟩) := by
          have := foldW_snoc NW ls (k := k) (by rw [HLS.out]; exact hlt) (fun _ => false)
          rw [hFN, hr] at this; exact this
        have MX := hid (hFN ▸ MX.out)
        have K1 : Hid True := trivial
        clear hok hr hFN
        cases hn : NW id
        · have HN := hid hn
          have NE2 : Hid (∀ j, j < k + 1 → NW (sAt ls j).id = true → (sAt ls j).kind ≠ 90) := fun j hj => by
            by_cases e : j = k
            · subst e; rw [HR.out]; intro h; rw [HN.out] at h; cases h
            · exact NE.out j (by omega)
          have FX : Hid (MB wr bx mm ((ls.take (k + 1)).foldl (stepW NW) (fun _ => false))) := by rw [FQ.out, step_no HN.out]; exact MX.out
          clear hn
          go_wp2_with (at_lookup; have kill := K1.out; refine lookB _ _ rfl (by kernel_rfl) MN.out id rfl rfl I0.out ?_; rw [HN.out]; clear kill K1)
          go_roundw
          case rel => exact ⟨k + 1, mm, by omega, by go_num, by omega, FX.out, MN.out, NE2.out, BL.out⟩
          case measure => simp [intOf]; omega
        · have HN := hid hn
          clear hn
          by_cases h90 : kk = 90
          · have e90 : (kk == 90) = true := by simpa using h90
            clear h90
            go_wp2_with (at_lookup; have kill := K1.out; refine lookB _ _ rfl (by kernel_rfl) MN.out id rfl rfl I0.out ?_; rw [HN.out]; clear kill K1)
            go_ret
            exact ⟨rfl, sq B9.out BL.out⟩
          · have e90 : (kk == 90) = false := by simpa using h90
            have NE2 : Hid (∀ j, j < k + 1 → NW (sAt ls j).id = true → (sAt ls j).kind ≠ 90) := fun j hj => by
              by_cases e : j = k
              · subst e; rw [HR.out]; intro _; exact h90
              · exact NE.out j (by omega)
            clear h90 NE
            go_upto_region 20 with (at_lookup; have kill := K1.out; refine lookB _ _ rfl (by kernel_rfl) MN.out id rfl rfl I0.out ?_; rw [HN.out]; clear kill K1)
            clear c0 c1
            have HS : Hid (∀ w', Below w3.heap.size w3 w' → w'.cell? ⟨bg, og + k * 4, none⟩ = some (.int .i64 id) ∧ w'.cell? ⟨bg, og + k * 4 + 2, none⟩ = some (.int .i64 nx)) := fun w' hb => ⟨(st_cells (RK.out w' hb)).1, (st_cells (RK.out w' hb)).2.2.1⟩
            refine wp_region_noPanic ?_
            refine wp_region_held_drew (S := (fun w' : World => w'.cell? ⟨bg, og + k * 4, none⟩ = some (.int .i64 id) ∧ w'.cell? ⟨bg, og + k * 4 + 2, none⟩ = some (.int .i64 nx))) (by kernel_rfl) (HS.out _ (sq BL.out (Below.refl _ wr).drew)) (fun hHeld => ?_)
            have ML := hid (sq BL.out (Below.refl _ wr).drew)
            have MN4 := hid (MN.out.below (Below.refl _ wr).drew)
            obtain ⟨v0, st, w5, w6, r1, g5, r2, m6, g6⟩ := (MX.out.below (Below.refl _ wr).drew).entry (by omega) id true I0.out
            have L5 := hid (ML.out.grown g5 ML.out.size (fun q hq => by cases hq; exact HBX3.out))
            have L6 := hid (ML.out.grown g6 ML.out.size (fun q hq => by cases hq; exact HBX3.out))
            have MN6 := hid (MN4.out.kept g6 HNE.out)
            obtain ⟨v1, st1, w7, w8, r3, g7, r4, m8, g8⟩ := m6.entry (by omega) nx true I2.out
            have L7 := hid (L6.out.grown g7 L6.out.size (fun q hq => by cases hq; exact HBX3.out))
            have L8 := hid (L6.out.grown g8 L6.out.size (fun q hq => by cases hq; exact HBX3.out))
            have MN8 := hid (MN6.out.kept g8 HNE.out)
            have M8 := hid m8
            have R1 := hid r1
            have R2 := hid r2
            have R3 := hid r3
            have R4 := hid r4
            clear m6 m8 g5 g6 g7 g8 r1 r2 r3 r4 MN4 MN6 ML MN MX BL
            (refine tk_yes (v := ?_) 0 (some 72) rfl rfl (by kernel_rfl) (by kernel_rfl) (by kernel_rfl) (fun _ _ _ h => h) (by rfl) ?_ hHeld ?_; rotate_left; focus (intro w hSw; go_simp; try with_reducible rfl))
            simp only [Act.put, List.setIfInBounds_toArray, List.set_cons_zero, List.set_cons_succ]
            (refine tk_yes (v := ?_) 1 (some 73) rfl rfl (by kernel_rfl) (by kernel_rfl) (by kernel_rfl) (fun _ _ _ h => h) (by rfl) ?_ hHeld ?_; rotate_left; focus (intro w hSw; go_simp; try with_reducible rfl))
            simp only [Act.put, List.setIfInBounds_toArray, List.set_cons_zero, List.set_cons_succ]
            (refine tk_yes (v := ?_) 2 (some 74) rfl rfl (by kernel_rfl) (by kernel_rfl) (by kernel_rfl) (fun _ _ _ h => h) (by rfl) ?_ hHeld ?_; rotate_left; focus (intro w hSw; go_simp; try with_reducible rfl))
            simp only [Act.put, List.setIfInBounds_toArray, List.set_cons_zero, List.set_cons_succ]
            (refine tk_yes (v := ?_) 3 (some 75) rfl rfl (by kernel_rfl) (by kernel_rfl) (by kernel_rfl) (fun _ _ _ h => h) (by rfl) ?_ hHeld ?_; rotate_left; focus (intro w hSw; go_simp; try with_reducible rfl))
            simp only [Act.put, List.setIfInBounds_toArray, List.set_cons_zero, List.set_cons_succ]
            (refine tk_yes (v := ?_) 4 (some 76) rfl rfl (by kernel_rfl) (by kernel_rfl) (by kernel_rfl) (fun _ _ _ h => h) (by rfl) ?_ hHeld ?_; rotate_left; focus (intro w hSw; go_simp; try with_reducible rfl))
            simp only [Act.put, List.setIfInBounds_toArray, List.set_cons_zero, List.set_cons_succ]
            (refine tk_yes (v := .int .i64 id) 5 (some 77) rfl rfl (by kernel_rfl) (by kernel_rfl) (by kernel_rfl) (fun _ _ _ h => h) (by rfl) ?_ hHeld ?_; focus (intro w hSw; have h := hSw.1; go_simp; try with_reducible rfl))
            simp only [Act.put, List.setIfInBounds_toArray, List.set_cons_zero, List.set_cons_succ]
            (refine tk_yes (v := ?_) 6 (some 78) rfl rfl (by kernel_rfl) (by kernel_rfl) (by kernel_rfl) (fun _ _ _ h => h) (by rfl) ?_ hHeld ?_; rotate_left; focus (intro w hSw; go_simp; try with_reducible rfl))
            simp only [Act.put, List.setIfInBounds_toArray, List.set_cons_zero, List.set_cons_succ]
            (refine tk_yes (v := ?_) 7 (some 79) rfl rfl (by kernel_rfl) (by kernel_rfl) (by kernel_rfl) (fun _ _ _ h => h) (by rfl) ?_ hHeld ?_; rotate_left; focus (intro w hSw; go_simp; try with_reducible rfl))
            simp only [Act.put, List.setIfInBounds_toArray, List.set_cons_zero, List.set_cons_succ]
            (refine tk_yes (v := ?_) 8 (some 80) rfl rfl (by kernel_rfl) (by kernel_rfl) (by kernel_rfl) (fun _ _ _ h => h) (by rfl) ?_ hHeld ?_; rotate_left; focus (intro w hSw; go_simp; try with_reducible rfl))
            simp only [Act.put, List.setIfInBounds_toArray, List.set_cons_zero, List.set_cons_succ]
            (refine tk_yes (v := ?_) 9 (some 81) rfl rfl (by kernel_rfl) (by kernel_rfl) (by kernel_rfl) (fun _ _ _ h => h) (by rfl) ?_ hHeld ?_; rotate_left; focus (intro w hSw; go_simp; try with_reducible rfl))
            simp only [Act.put, List.setIfInBounds_toArray, List.set_cons_zero, List.set_cons_succ]
            (refine tk_yes (v := ?_) 10 (some 82) rfl rfl (by kernel_rfl) (by kernel_rfl) (by kernel_rfl) (fun _ _ _ h => h) (by rfl) ?_ hHeld ?_; rotate_left; focus (intro w hSw; go_simp; try with_reducible rfl))
            simp only [Act.put, List.setIfInBounds_toArray, List.set_cons_zero, List.set_cons_succ]
            (refine tk_yes (v := .int .i64 nx) 11 (some 83) rfl rfl (by kernel_rfl) (by kernel_rfl) (by kernel_rfl) (fun _ _ _ h => h) (by rfl) ?_ hHeld ?_; focus (intro w hSw; have h := hSw.2; go_simp; try with_reducible rfl))
            simp only [Act.put, List.setIfInBounds_toArray, List.set_cons_zero, List.set_cons_succ]
            refine wpAnyH_ready (rs := [12]) (by kernel_rfl) (by simp) ?_
            refine AllReadyH.cons rfl (fun KC hK => ?_) AllReadyH.nil
            refine step_of (o := { dst := some 84, op := _, type := _, pos := _, after := _, guard := none }) rfl (entw _ _ rfl rfl rfl R1.out ?_)
            refine hK.out _ _ (HS.out _ L5.out) (fun hHeld => ?_)
            clear hK
            try simp only [Act.put, List.setIfInBounds_toArray, List.set_cons_zero, List.set_cons_succ]
            (refine tk_yes (v := goInt st) 13 (some 85) rfl rfl (by kernel_rfl) (by kernel_rfl) (by kernel_rfl) (fun _ _ _ h => h) (by rfl) ?_ hHeld ?_; focus (intro w hSw; go_simp; try with_reducible rfl))
            simp only [Act.put, List.setIfInBounds_toArray, List.set_cons_zero, List.set_cons_succ]
            refine wpAnyH_ready (rs := [14]) (by kernel_rfl) (by simp) ?_
            refine AllReadyH.cons rfl (fun KC hK => ?_) AllReadyH.nil
            refine step_of (o := { dst := none, op := _, type := _, pos := _, after := _, guard := none }) rfl (estw _ _ _ rfl rfl rfl rfl R2.out ?_)
            refine hK.out _ _ (HS.out _ L6.out) (fun hHeld => ?_)
            clear hK
            try simp only [Act.put]
            refine wpAnyH_ready (rs := [15]) (by kernel_rfl) (by simp) ?_
            refine AllReadyH.cons rfl (fun KC hK => ?_) AllReadyH.nil
            refine step_of (o := { dst := some 86, op := _, type := _, pos := _, after := _, guard := none }) rfl (entw _ _ rfl rfl rfl R3.out ?_)
            refine hK.out _ _ (HS.out _ L7.out) (fun hHeld => ?_)
            clear hK
            try simp only [Act.put, List.setIfInBounds_toArray, List.set_cons_zero, List.set_cons_succ]
            (refine tk_yes (v := goInt st1) 16 (some 87) rfl rfl (by kernel_rfl) (by kernel_rfl) (by kernel_rfl) (fun _ _ _ h => h) (by rfl) ?_ hHeld ?_; focus (intro w hSw; go_simp; try with_reducible rfl))
            simp only [Act.put, List.setIfInBounds_toArray, List.set_cons_zero, List.set_cons_succ]
            refine wpAnyH_ready (rs := [17]) (by kernel_rfl) (by simp) ?_
            refine AllReadyH.cons rfl (fun KC hK => ?_) AllReadyH.nil
            refine step_of (o := { dst := none, op := _, type := _, pos := _, after := _, guard := none }) rfl (estw _ _ _ rfl rfl rfl rfl R4.out ?_)
            refine hK.out _ _ (HS.out _ L8.out) (fun hHeld => ?_)
            clear hK
            try simp only [Act.put]
            refine wpAnyH_done (by kernel_rfl) ?_ _
            refine NoPanic.normal ?_
            clear hHeld
            obtain ⟨-, c1, -, c3⟩ := st_cells (RK.out _ L8.out)
            by_cases h66 : kk = 66
            · have e66 : (kk == 66) = true := by simpa using h66
              have TW : Hid (twoB (St.mk id kk nx ot).kind = true) := hid (by unfold twoB; simp [h66])
              clear h66
              go_wp2_with (at_mapUpdate; have kill := M8.out; refine storeB _ _ _ rfl (wanted_none' rfl _) M8.out (by omega) ot true rfl rfl rfl I3.out ?_; intro w9 m9 g9; have M9 := hid m9; have MN9 := hid (MN8.out.kept g9 HNE.out); have L9 := hid (L8.out.grown g9 L8.out.size (fun q hq => by cases hq; exact HBX3.out)); clear m9 g9 kill M8)
              have FX : Hid (MB w9 bx (mm + 3) ((ls.take (k + 1)).foldl (stepW NW) (fun _ => false))) := by rw [FQ.out, step_two HN.out TW.out]; exact M9.out
              go_roundw
              case rel => exact ⟨k + 1, mm + 3, by omega, by go_num, by omega, FX.out, MN9.out, NE2.out, L9.out⟩
              case measure => simp [intOf]; omega
            · have e66 : (kk == 66) = false := by simpa using h66
              by_cases h68 : kk = 68
              · have e68 : (kk == 68) = true := by simpa using h68
                have TW : Hid (twoB (St.mk id kk nx ot).kind = true) := hid (by unfold twoB; simp [h68])
                clear h68 h66
                go_wp2_with (at_mapUpdate; have kill := M8.out; refine storeB _ _ _ rfl (wanted_none' rfl _) M8.out (by omega) ot true rfl rfl rfl I3.out ?_; intro w9 m9 g9; have M9 := hid m9; have MN9 := hid (MN8.out.kept g9 HNE.out); have L9 := hid (L8.out.grown g9 L8.out.size (fun q hq => by cases hq; exact HBX3.out)); clear m9 g9 kill M8)
                have FX : Hid (MB w9 bx (mm + 3) ((ls.take (k + 1)).foldl (stepW NW) (fun _ => false))) := by rw [FQ.out, step_two HN.out TW.out]; exact M9.out
                go_roundw
                case rel => exact ⟨k + 1, mm + 3, by omega, by go_num, by omega, FX.out, MN9.out, NE2.out, L9.out⟩
                case measure => simp [intOf]; omega
              · have e68 : (kk == 68) = false := by simpa using h68
                by_cases h69 : kk = 69
                · have e69 : (kk == 69) = true := by simpa using h69
                  have TW : Hid (twoB (St.mk id kk nx ot).kind = true) := hid (by unfold twoB; simp [h69])
                  clear h68 h66 h69
                  go_wp2_with (at_mapUpdate; have kill := M8.out; refine storeB _ _ _ rfl (wanted_none' rfl _) M8.out (by omega) ot true rfl rfl rfl I3.out ?_; intro w9 m9 g9; have M9 := hid m9; have MN9 := hid (MN8.out.kept g9 HNE.out); have L9 := hid (L8.out.grown g9 L8.out.size (fun q hq => by cases hq; exact HBX3.out)); clear m9 g9 kill M8)
                  have FX : Hid (MB w9 bx (mm + 3) ((ls.take (k + 1)).foldl (stepW NW) (fun _ => false))) := by rw [FQ.out, step_two HN.out TW.out]; exact M9.out
                  go_roundw
                  case rel => exact ⟨k + 1, mm + 3, by omega, by go_num, by omega, FX.out, MN9.out, NE2.out, L9.out⟩
                  case measure => simp [intOf]; omega
                · have e69 : (kk == 69) = false := by simpa using h69
                  have TW : Hid (twoB (St.mk id kk nx ot).kind = false) := hid (by unfold twoB; simp [h66, h68, h69])
                  clear h68 h66 h69
                  have FX : Hid (MB w8 bx (mm + 2) ((ls.take (k + 1)).foldl (stepW NW) (fun _ => false))) := by rw [FQ.out, step_one HN.out TW.out]; exact M8.out
                  go_wp2
                  go_roundw
                  case rel => exact ⟨k + 1, mm + 2, by omega, by go_num, by omega, FX.out, MN8.out, NE2.out, L8.out⟩
                  case measure => simp [intOf]; omega
      · obtain rfl : y0 = k := by omega
        have FX : Hid (MB wr bx mm (waysW ls ID (q + 1))) := by
          have h := MX.out
          rw [List.take_of_length_le (by rw [HLS.out]; omega)] at h
          rw [show waysW ls ID (q + 1) = roundW ls (waysW ls ID q) from rfl, HNW.out]; exact h
        have NO2 : Hid (∀ j, j < q + 1 → NoEnd ls (waysW ls ID j)) := fun j hj => by
          by_cases e : j = q
          · subst e; rw [HNW.out]; intro s hs hw
            obtain ⟨i, hi, rfl⟩ := mem_sAt hs
            exact NE.out i (by rw [HLS.out] at hi; exact hi) hw
          · exact NO.out j (by omega)
        go_wp2
        go_roundw
        case rel => exact ⟨q + 1, bx, mm, by omega, by go_num, rfl, HBX3.out, by omega, FX.out, NO2.out, BL.out⟩
        case measure => simp [intOf]; omega
theorem tableWays_own : ownKnob Try.prog.godebug = none := by kernel_rfl
theorem tableWays_laid : laidOutB Try.prog = true := by kernel_rfl

set_option maxRecDepth 100000 in
set_option maxHeartbeats 1000000 in
theorem tableWays_lifted (os : Os) (started : os.Started) (H : Type) (enc : TypeId × Value → H) :
    ReturnsInHanded {} Try.checked os 6 .any (Rows.tableWaysSpec.pre6 enc Try.prog Try.f6 Rows.tableWaysRow.domain false) (Rows.tableWaysSpec.post enc Try.prog Try.f6 false true false false) := by
  refine returnsInHanded_of_change (C := Try.checked) tableWays_own started (by kernel_rfl) Try.func6
    (ChangeSpec.witness6 (enc := enc) (C := Try.checked) false ⟨#[], #[.slice none 0 0, .int .u8 0, .int .u8 0], []⟩ 8 (by kernel_rfl) (by kernel_rfl) (by kernel_rfl) (by kernel_rfl)) ?_
  intro W base args ds gs before hval0 hW hcnd _
  have hval : ∀ (j : Nat) t v, Try.f6.params[j]? = some t → args[j]? = some v → Value.okWide Try.prog W .any base t v := hval0
  have hW' := hW
  obtain ⟨p, q, hA0, hV, rfl, hfz, hnd⟩ := hW
  have hA : DataW.TrodAll enc Try.prog W 0 (fun _ => true) true Try.f6.params.toList args.toList ds p := hA0
  rw [Try.params6] at hA hval
  obtain ⟨v0, vs0, d0, ds0, p0, q0, hargs, rfl, rfl, h0, r0⟩ := trodAll_cons hA
  obtain ⟨v1, vs1, d1, ds1, p1, q1, rfl, rfl, rfl, h1, r1⟩ := trodAll_cons r0
  obtain ⟨v2, vs2, d2, ds2, p2, q2, rfl, rfl, rfl, h2, r2⟩ := trodAll_cons r1
  obtain ⟨rfl, rfl, rfl⟩ := trodAll_nil r2
  obtain rfl : args = #[v0, v1, v2] := by cases args; simp_all
  obtain ⟨rfl, rfl⟩ := trodVars_none hV
  obtain ⟨x0, y0, z0, rfl⟩ := okWide_slice Try.underlying23 (hval 0 23 v0 rfl rfl)
  have k0 := h0
  have lt0 : ∀ x ∈ p0, x.block < W.heap.size := by obtain ⟨m, hm⟩ := k0; exact DataW.trod_lt m _ _ _ hm
  obtain ⟨a0, len0, cap0, l0, e0, w0⟩ : ∃ a len cap l, Value.slice x0 y0 z0 = .slice a len cap ∧ InN W a len cap l := by
    obtain ⟨fuel, hf⟩ := h0
    exact open_inN hf
  cases e0
  obtain ⟨a1, rfl, rfl, rfl, w1⟩ := open_int Try.underlying5 (hval 1 5 v1 rfl rfl) h1
  obtain ⟨a2, rfl, rfl, rfl, w2⟩ := open_int Try.underlying5 (hval 2 5 v2 rfl rfl) h2
  clear hA0 hval0
  refine (ways_walk x0 y0 z0 l0 a1 a2 W w0 (by have := bounds_u8 w1; omega) (by have := bounds_u8 w2; omega)).mono fun e W' ⟨he, bel⟩ => ?_
  subst he
  exact ⟨_, rfl, _, _, _, [], _, [], hW', trodAll_mk1 (shut_bool Try.underlying4 _), (trodAll_cons_mk (Below.trod tableWays_laid (by kernel_rfl) (of_decide_eq_true (by kernel_rfl)) k0 bel lt0) (trodAll_cons_mk (shut_int Try.underlying5 w1) (trodAll_cons_mk (shut_int Try.underlying5 w2) trodAll_mk0))), rfl, bel.frame _, fun h => by cases h⟩

theorem tableWays_over : Rows.tableWaysRow.holds Try.pinned (OpenSpec.ofChange Rows.tableWaysSpec) :=
  OpenClaim.holds_of_wide 6 Try.f6 rfl rfl rfl rfl rfl rfl rfl ⟨rfl, rfl, rfl, rfl, rfl⟩ rfl rfl rfl rfl rfl (by kernel_rfl) Try.func6 (by kernel_rfl)
    (of_decide_eq_true (by kernel_rfl)) (by unfold Func.isWrapper; first | (rw [if_pos (by decide +kernel)]; kernel_rfl) | (rw [if_neg (by decide +kernel)]; exact ⟨rfl, rfl⟩))
    (fun os started H enc _ => tableWays_lifted os started H enc)

/-- The statement. -/
theorem tableWays_holds : Rows.TableWaysSaid := tableWays_over
#print axioms tableWays_holds

end Go.Proofs.Ythhgochnlbiaaaa
