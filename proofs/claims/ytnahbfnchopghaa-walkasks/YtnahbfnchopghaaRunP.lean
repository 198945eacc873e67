/- The code's walk, whole. -/
import Derived.Test.YtnahbfnchopghaaStep
namespace Go.Proofs.Ytnahbfnchopghaa
open Go.ChangeShapes Go.WideShapes Go.ChangeAt Go.RowKit

theorem step_stop {s : St} {k : Wk} (h : goesK s k = false) : stepK s k = k := by
  by_cases h73 : s.kind = 73
  · rw [(step_I k h73).2.2] at h; cases h
  · cases ht : takesB s.kind
    · exact (step_X k h73 ht).1
    · cases hi : k.ins with
      | nil => exact (step_N h73 hi).1
      | cons x t => rw [(step_T h73 ht hi).2.2] at h; cases h
theorem go_no1 {l : List St} {k : Wk} (h : foundL l k.r.pos = false) : goL l k = false := by unfold goL; rw [h]; rfl
theorem go_no2 {l : List St} {k : Wk} {s : St} (hs : findL l k.r.pos = s) (h : goesK s k = false) : goL l k = false := by unfold goL; rw [hs, h]; simp
theorem go_yes {l : List St} {k : Wk} {s : St} (hs : findL l k.r.pos = s) (h1 : foundL l k.r.pos = true) (h : goesK s k = true) : goL l k = true := by unfold goL; rw [hs, h, h1]; rfl
theorem run_stop {l : List St} {k K : Wk} {n : Nat} (h : runK l n k = K) (hg : goL l k = false) : K = k := by rw [← h, runK_stop hg]
theorem run_next {l : List St} {k K : Wk} {s : St} {n : Nat} (h : runK l (200 - n) k = K) (hn : n < 200) (hs : findL l k.r.pos = s) (hg : goL l k = true) : runK l (200 - (n + 1)) (advK (stepK s k) (stepT s k)) = K := by
  rw [show 200 - n = (200 - (n + 1)) + 1 by omega, runK_go hg] at h
  unfold nxL at h
  rw [hs] at h
  exact h
/-- How many steps a walk at block b has gone. -/
def stepsAt (b : Nat) (w : World) : Nat := (intOf ((w.cell? ⟨b, 1, none⟩).getD undef)).toNat
/-- What Run answers. -/
def RnAns (w : World) (l : List St) (start : Int) (ins : List ByteArray) (e : Ending) (w' : World) : Prop := e = .returned (runL l start ins).val ∧ Below w.heap.size w w'
/-- The world of the code's walk. -/
structure AtW (w wr : World) (l : List St) (K : Wk) (b q : Nat) (n : Nat) (k : Wk) (ao : Option Addr) (len cap : Nat) : Prop where
  le : n ≤ 200
  steps : k.r.steps = n
  run : runK l (200 - n) k = K
  wv : WV wr b k ao len cap
  giv : T.Given w ao len cap k.ins
  res : RR wr q Rs.zero
  bel : Below w.heap.size w wr
theorem adv_eq {k : Wk} {p : Int} {n : Nat} (h : k.r.steps = n) : ({ k with r := { k.r with pos := p, steps := (n : Int) + 1 } } : Wk) = advK k p := by unfold advK; rw [h]
theorem stepsAt_of {b : Nat} {w : World} {n : Nat} (h : w.cell? ⟨b, 1, none⟩ = some (.int .i64 (n : Int))) : stepsAt b w = n := by unfold stepsAt; rw [h]; simp [intOf]
set_option maxHeartbeats 4000000 in
theorem run10 (ao : Option Addr) (len cap : Nat) (l : List St) (start : Int) (bo : Option Addr) (blen bcap : Nat) (ins : List ByteArray) (w : World) (h : SG w ao len cap l) (g : T.Given w bo blen bcap ins) :
    Calls Try.prog 10 #[.slice ao len cap, .int .i64 start, .slice bo blen bcap] w (RnAns w l start ins) := by
  obtain ⟨n0, t, ht, hn0, hcase, hT⟩ : ∃ (n : Nat) (t : Int), t = n ∧ n ≤ blen ∧ (t = blen ∧ (blen : Int) ≤ 100 ∨ t = 100 ∧ ¬ (blen : Int) ≤ 100) ∧ ins.take n = ins.take 100 := by
    by_cases hb : blen ≤ 100
    · exact ⟨blen, blen, rfl, Nat.le_refl _, .inl ⟨rfl, by omega⟩, by rw [List.take_of_length_le (by rw [g.leq]; exact Nat.le_refl _), List.take_of_length_le (by rw [g.leq]; omega)]⟩
    · exact ⟨100, 100, rfl, by omega, .inr ⟨rfl, by omega⟩, rfl⟩
  obtain ⟨xo, hr, hx⟩ := T.sub_h (ao := bo) (len := blen) (cap := bcap) n0 t ht hn0 g.cap1
  have G0 := hid (hx w ins g)
  rw [hT] at G0
  have HG := hid h
  clear h g hx hT
  obtain ⟨K, hK0⟩ : ∃ K, runK l 200 (Wk.new start (ins.take 100)) = K := ⟨_, rfl⟩
  have HK : Hid (runL l start ins = K.r) := hid (by unfold runL; rw [hK0])
  have HK0 := hid hK0
  clear hK0
  clear ht hn0
  rcases hcase with ⟨rfl, hle⟩ | ⟨rfl, hle⟩ <;> (
    go_enter Try.func10, Try.ntmps10
    go_wp2_with (first | (have kill := V7.out; refine st44 (k := ⟨⟨start, 0, false, ⟨#[]⟩, 0⟩, ⟨#[]⟩, 0, []⟩) V7.out L7.out hb7.out rfl _ _ rfl rfl rfl ?_; intro w8 v8 l8; have V8 : Hid (WV w8 b7 (Wk.new start (ins.take 100)) xo n0 bcap) := hid ⟨v8.at0, v8.th⟩; have L8 := hid (sq L6.out l8); have R8 := hid (R6.out.below l8); clear v8 l8 kill V7) | (have kill := R6.out; refine al44 rfl rfl ?_; intro b7 w7 hb v7 l7; have V7 := hid v7; have L7 := hid l7; have hb7 := hid hb; have hb6b : Hid (w.heap.size ≤ b7 ∧ ¬ b6 = b7) := hid ⟨Nat.le_trans L6.out.size hb, fun e => by have := R6.out.lt; omega⟩; clear v7 l7 kill hb) | (refine bd44 (r := ⟨start, 0, false, ⟨#[]⟩, 0⟩) rfl _ _ rfl rfl rfl ?_) | (refine bdA30 rfl _ rfl rfl ?_) | (have kill := HG.out; refine al30 rfl rfl ?_; intro b6 w6 hb6 v6 l6; have R6 := hid v6; have L6 := hid l6; clear v6 l6 kill))
    have hb6 := hid hb6
    have H0 : Hid (AtW w w8 l K b7 b6 0 (Wk.new start (ins.take 100)) xo n0 bcap) := hid ⟨by omega, rfl, HK0.out, V8.out, G0.out, R8.out, L8.out⟩
    clear HK0 V8 G0 R8 L8 L7 hb7 L6 R6 hr hle
    (try go_frame)
    go_loopw [] (fun wr => ∃ (n : Nat) (k : Wk) (ao2 : Option Addr) (len2 cap2 : Nat), AtW w wr l K b7 b6 n k ao2 len2 cap2) (fun wr => 200 - stepsAt b7 wr)
    case atStart => exact ⟨0, _, xo, n0, bcap, H0.out⟩
    case round =>
      obtain ⟨n, k, ao2, len2, cap2, hat⟩ := hrel
      have A := hid hat
      have A0 := hid hat
      have c0 := hat.wv.cell 0 (v := .int .i64 k.r.pos) rfl
      have c1 := hat.wv.cell 1 (v := .int .i64 k.r.steps) rfl
      rw [hat.steps] at c1
      have M1 := hid (stepsAt_of c1)
      have hle := hat.le
      clear hat H0
      by_cases hn : n < 200
      · have hd : decide ((n : Int) < 200) = true := by simp; omega
        obtain ⟨s, hs⟩ : ∃ s, findL l k.r.pos = s := ⟨_, rfl⟩
        have HS := hid hs
        cases hB : foundL l k.r.pos
        · have HB := hid hB
          have HE : Hid (K = k) := hid (run_stop A.out.run (go_no1 hB))
          clear hs hB
          go_wp2_with (first | (have kill := R4.out; refine st30 (r := k.r) (w0 := w) R4.out B4.out hb6.out rfl _ _ rfl rfl rfl ?_; intro w9 v9 l9; have R9 := hid v9; have B9 := hid l9; clear v9 l9 kill R4 B4) | (have kill := X4.out; refine ldR X4.out rfl _ rfl rfl ?_; clear kill X4) | (have kill := V3.out; refine st34 (r := s) V3.out L3.out hb3 rfl _ _ rfl rfl rfl ?_; intro w4 v4 l4; have X4 := hid (X2.out.below l4); have c0 := X4.out.cell 0 (v := .int .i64 k.r.pos) rfl; have V4 := hid v4; have R4 := hid (R2.out.below l4); have B4 := hid (sq B2.out l4); have G4 := hid (A0.out.giv.below B4.out); clear v4 l4 kill V3 L3 hb3 X2 R2 B2 G2) | (have kill := X2.out; refine al34 rfl rfl ?_; intro b3 w3 hb3 v3 l3; have V3 := hid v3; have L3 := hid l3; clear v3 l3 kill) | (have kill := A.out; go_at_call 14; refine (find11 ao len cap l k.r.pos _ (HG.out.below A.out.bel)).mono ?_; rintro e w2 ⟨rfl, l2⟩; rw [HS.out, HB.out]; have B2 := hid (sq A.out.bel l2); have X2 := hid (A.out.wv.below l2); have R2 := hid (A.out.res.below l2); have G2 := hid (A.out.giv.below B2.out); have HP := hid A.out.steps; have HR := hid A.out.run; clear l2 kill A))
          refine bodyPost_ret (res_c0 Try.results10 _ _ rfl R9.out) rfl ⟨?_, B9.out⟩
          rw [HK.out, HE.out]
        · cases hG : goesK s k
          · have HB := hid hB
            have HGo := hid hG
            have HE : Hid (K = k) := hid (run_stop A.out.run (go_no2 hs hG))
            have HSt := hid (step_stop hG)
            clear hs hB hG
            go_wp2_with (first | (have kill := R5.out; refine st30 (r := (stepK s k).r) (w0 := w) R5.out B5.out hb6.out rfl _ _ rfl rfl rfl ?_; intro w9 v9 l9; have R9 := hid v9; have B9 := hid l9; clear v9 l9 kill R5 B5) | (have kill := X5.out; refine ldR X5.out rfl _ rfl rfl ?_; clear kill X5) | (have kill := V4.out; go_at_call 15; refine (step15 b7 k ao2 len2 cap2 s _ X4.out G4.out).mono ?_; rintro e w5 ⟨rfl, ao5, len5, cap5, h5, g5, l5⟩; rw [HGo.out]; have X5 := hid h5; have R5 := hid (R4.out.kept (l5.block b6 R4.out.lt hb6b.out.2)); have B5 := hid (One.below l5 B4.out hb6b.out.1 B4.out.size); have G5 := hid (g5 _ A0.out.giv); clear h5 g5 l5 kill V4 X4 R4 B4 G4) | (have kill := V4.out; refine ld34 V4.out rfl _ rfl rfl ?_) | (have kill := V3.out; refine st34 (r := s) V3.out L3.out hb3 rfl _ _ rfl rfl rfl ?_; intro w4 v4 l4; have X4 := hid (X2.out.below l4); have c0 := X4.out.cell 0 (v := .int .i64 k.r.pos) rfl; have V4 := hid v4; have R4 := hid (R2.out.below l4); have B4 := hid (sq B2.out l4); have G4 := hid (A0.out.giv.below B4.out); clear v4 l4 kill V3 L3 hb3 X2 R2 B2 G2) | (have kill := X2.out; refine al34 rfl rfl ?_; intro b3 w3 hb3 v3 l3; have V3 := hid v3; have L3 := hid l3; clear v3 l3 kill) | (have kill := A.out; go_at_call 14; refine (find11 ao len cap l k.r.pos _ (HG.out.below A.out.bel)).mono ?_; rintro e w2 ⟨rfl, l2⟩; rw [HS.out, HB.out]; have B2 := hid (sq A.out.bel l2); have X2 := hid (A.out.wv.below l2); have R2 := hid (A.out.res.below l2); have G2 := hid (A.out.giv.below B2.out); have HP := hid A.out.steps; have HR := hid A.out.run; clear l2 kill A))
            refine bodyPost_ret (res_c0 Try.results10 _ _ rfl R9.out) rfl ⟨?_, B9.out⟩
            rw [HK.out, HE.out, HSt.out]
          · have HB := hid hB
            have HGo := hid hG
            have HE := hid (run_next A.out.run hn hs (go_yes hs hB hG))
            have HT : Hid ((stepK s k).r.steps = n) := hid ((stepK_steps s k).trans A.out.steps)
            clear hs hB hG
            go_wp2_with (first | (have kill := X6.out; refine sSteps X6.out rfl _ _ rfl rfl rfl ?_; intro w7 v7 l7; have X7 : Hid (WV w7 b7 (advK (stepK s k) (stepT s k)) ao5 len5 cap5) := hid (adv_eq HT.out ▸ v7); have M7 := hid (stepsAt_of (v7.cell 1 (v := .int .i64 ((n + 1 : Nat) : Int)) rfl)); have R7 := hid (R6b.out.kept (l7.block b6 R6b.out.lt hb6b.out.2)); have B7 := hid (One.below l7 B6.out hb6b.out.1 B6.out.size); clear v7 l7 kill X6 R6b B6) | (have kill := X5.out; refine sPos X5.out rfl _ _ rfl rfl rfl ?_; intro w6 v6 l6; have X6 := hid v6; have c1 := v6.cell 1 (v := .int .i64 (stepK s k).r.steps) rfl; rw [HT.out] at c1; have R6b := hid (R5.out.kept (l6.block b6 R5.out.lt hb6b.out.2)); have B6 := hid (One.below l6 B5.out hb6b.out.1 B5.out.size); clear v6 l6 kill X5 R5 B5) | (have kill := V4.out; go_at_call 15; refine (step15 b7 k ao2 len2 cap2 s _ X4.out G4.out).mono ?_; rintro e w5 ⟨rfl, ao5, len5, cap5, h5, g5, l5⟩; rw [HGo.out]; have X5 := hid h5; have R5 := hid (R4.out.kept (l5.block b6 R4.out.lt hb6b.out.2)); have B5 := hid (One.below l5 B4.out hb6b.out.1 B4.out.size); have G5 := hid (g5 _ A0.out.giv); clear h5 g5 l5 kill V4 X4 R4 B4 G4) | (have kill := V4.out; refine ld34 V4.out rfl _ rfl rfl ?_) | (have kill := V3.out; refine st34 (r := s) V3.out L3.out hb3 rfl _ _ rfl rfl rfl ?_; intro w4 v4 l4; have X4 := hid (X2.out.below l4); have c0 := X4.out.cell 0 (v := .int .i64 k.r.pos) rfl; have V4 := hid v4; have R4 := hid (R2.out.below l4); have B4 := hid (sq B2.out l4); have G4 := hid (A0.out.giv.below B4.out); clear v4 l4 kill V3 L3 hb3 X2 R2 B2 G2) | (have kill := X2.out; refine al34 rfl rfl ?_; intro b3 w3 hb3 v3 l3; have V3 := hid v3; have L3 := hid l3; clear v3 l3 kill) | (have kill := A.out; go_at_call 14; refine (find11 ao len cap l k.r.pos _ (HG.out.below A.out.bel)).mono ?_; rintro e w2 ⟨rfl, l2⟩; rw [HS.out, HB.out]; have B2 := hid (sq A.out.bel l2); have X2 := hid (A.out.wv.below l2); have R2 := hid (A.out.res.below l2); have G2 := hid (A.out.giv.below B2.out); have HP := hid A.out.steps; have HR := hid A.out.run; clear l2 kill A))
            go_frame
            go_roundw
            case rel => exact ⟨n + 1, _, ao5, len5, cap5, ⟨by omega, by unfold advK; rw [HT.out]; simp, HE.out, X7.out, G5.out, R7.out, B7.out⟩⟩
            case measure => rw [M7.out, M1.out]; omega
      · have hd : decide ((n : Int) < 200) = false := by simp; omega
        have hnl : ¬ (n : Int) < 200 := by omega
        have HE : Hid (K = k) := hid (by
          have h := A.out.run
          rw [show 200 - n = 0 by omega] at h
          exact h.symm)
        have RA := hid A.out.res
        have BA := hid A.out.bel
        have XA := hid A.out.wv
        clear hn
        go_wp2_with (first | (have kill := RA.out; refine st30 (r := k.r) (w0 := w) RA.out BA.out hb6.out rfl _ _ rfl rfl rfl ?_; intro w9 v9 l9; have R9 := hid v9; have B9 := hid l9; clear v9 l9 kill RA BA) | (have kill := XA.out; refine ldR XA.out rfl _ rfl rfl ?_; clear kill XA))
        refine bodyPost_ret (res_c0 Try.results10 _ _ rfl R9.out) rfl ⟨?_, B9.out⟩
        rw [HK.out, HE.out])
end Go.Proofs.Ytnahbfnchopghaa
