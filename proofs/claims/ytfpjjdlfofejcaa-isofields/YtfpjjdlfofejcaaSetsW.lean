/- What is put in is told, all else is as it was, and order says nothing (IsoSets). -/
import Derived.Test.YtfpjjdlfofejcaaMadeW
import Derived.Test.YtfpjjdlfofejcaaFace
namespace Go.Proofs.Ytfpjjdlfofejcaa
open Go.ChangeShapes Go.WideShapes Go.ChangeAt Go.RowKit

theorem InC.more {w w' : World} {ao : Option Addr} {len : Nat} (h : InC w ao len) (hb : Below w.heap.size w w') : InC w' ao len := by
  intro i hi
  obtain ⟨N, K, G, V, b, o, b0, b1, b2, b3, e, c0, c1, c2, c3⟩ := h i hi
  have k : ∀ {p : Addr} {u : Value}, w.cell? p = some u → w'.cell? p = some u := fun {p u} hp => (hb.cell (World.block_lt_of_cell? w _ hp)).trans hp
  exact ⟨N, K, G, V, b, o, b0, b1, b2, b3, e, k c0, k c1, k c2, k c3⟩
/-- A variable that holds a message. -/
def MV (w : World) (b : Nat) (m : Int) (ao : Option Addr) (n c : Nat) (l : List Fd) : Prop := IB w b m (.slice ao n c) ∧ FG w ao n c l
theorem MV.more {w w' : World} {b : Nat} {m : Int} {ao : Option Addr} {n c : Nat} {l : List Fd} (h : MV w b m ao n c l) (hb : Below w.heap.size w w') : MV w' b m ao n c l := ⟨h.1.more hb, h.2.below hb⟩
theorem MV.new {w : World} {m : Int} {ao : Option Addr} {n c : Nat} {l : List Fd} (h : FG w ao n c l) : MV (w.alloc (.cells #[.int .i64 m, .slice ao n c] 24)) w.heap.size m ao n c l := ⟨IB.new w m _, h.below (bel1 _ _)⟩
def ns6 : List Int := [3, 4, 11, 49, 70, 90]
theorem ns6_ok (j : Nat) (h : j < 6) : fK (ns6.getD j 0) = true ∧ fV (ns6.getD j 0) = 0 ∧ fD (ns6.getD j 0) = true ∧ fL (ns6.getD j 0) ≤ 42 := by
  have : ∀ i : Fin 6, fK (ns6.getD i.1 0) = true ∧ fV (ns6.getD i.1 0) = 0 ∧ fD (ns6.getD i.1 0) = true ∧ fL (ns6.getD i.1 0) ≤ 42 := by decide
  exact this ⟨j, h⟩
theorem right_six {x : Int} {s : ByteArray} (h : fK x = true ∧ fV x = 0 ∧ fD x = true ∧ fL x ≤ 42) (hs : s.size = fL x) (hd : digB s.data.toList = true) : rightB x s = true := by
  unfold rightB
  rw [h.1, h.2.1, h.2.2.1]
  have e1 : fitI (fL x) ((0 : Nat) : Int) s.size = true := by unfold fitI; rw [if_pos (by rfl), hs]; simp
  have e2 : sgnB true s = true := hd
  rw [e1, e2]; rfl
theorem set_right_m {m n : Int} {v : ByteArray} {l : List Fd} (h : rightM m l = true) (hv : rightB n v = true) : rightM m (setL n v l) = true := by
  unfold rightM at *
  rw [Bool.and_eq_true] at *
  exact ⟨h.1, set_right n v hv l (by have := right_two hv; omega) h.2⟩
set_option maxRecDepth 20000 in
set_option maxHeartbeats 8000000 in
theorem sets_walk (mti : Int) (ao : Option Addr) (len cap : Nat) (_l : List Int) (a b v u : Int) (w : World) (hm : 0 ≤ mti ∧ mti < 256) (hl : InN w ao len cap _l) (ha : 0 ≤ a ∧ a < 256) (hb : 0 ≤ b ∧ b < 256) (hv : 0 ≤ v ∧ v < 18446744073709551616) (hu : 0 ≤ u ∧ u < 18446744073709551616) :
    Calls Try.prog 4 #[.int .u8 mti, .slice ao len cap, .int .u8 a, .int .u8 b, .int .u64 v, .int .u64 u] w fun e w' => e = .returned (.bool true) ∧ Below w.heap.size w w' := by
  have HI := hid hl.1
  have hlen := hl.2
  obtain ⟨ja, hja, ja6⟩ : ∃ j : Nat, a % 6 = (j : Int) ∧ j < 6 := ⟨(a % 6).toNat, by omega, by omega⟩
  obtain ⟨jb, hjb, jb6⟩ : ∃ j : Nat, b % 6 = (j : Int) ∧ j < 6 := ⟨(b % 6).toNat, by omega, by omega⟩
  have HJA : Hid (a.tmod 6 = (ja : Int)) := by unfold Hid; rw [Int.tmod_eq_emod_of_nonneg ha.1, hja]
  have HJB : Hid (b.tmod 6 = (jb : Int)) := by unfold Hid; rw [Int.tmod_eq_emod_of_nonneg hb.1, hjb]
  have oX := ns6_ok ja ja6
  have oY := ns6_ok jb jb6
  obtain ⟨X, hX⟩ : ∃ X, ns6.getD ja 0 = X := ⟨_, rfl⟩
  obtain ⟨Y, hY⟩ : ∃ Y, ns6.getD jb 0 = Y := ⟨_, rfl⟩
  rw [hX] at oX
  rw [hY] at oY
  have hoX := fun w => of7' X w
  have hoY := fun w => of7' Y w
  rw [oX.1, oX.2.1, oX.2.2.1] at hoX
  rw [oY.1, oY.2.1, oY.2.2.1] at hoY
  have OX := hid oX
  have OY := hid oY
  have hlx := oX.2.2.2
  have hly := oY.2.2.2
  obtain ⟨lx, hfx⟩ : ∃ lx, fL X = lx := ⟨_, rfl⟩
  obtain ⟨ly, hfy⟩ : ∃ ly, fL Y = ly := ⟨_, rfl⟩
  rw [hfx] at hoX hlx
  rw [hfy] at hoY hly
  have HFX := hid hfx
  have HFY := hid hfy
  have HU := hid hu
  have HV := hid hv
  clear hl hja hjb oX oY ha hb hfx hfy hu hv
  by_cases h12 : 12 < len
  · have j12 : (12 : Int) < (len : Int) := by omega
    go_enter Try.func4, Try.ntmps4
    go_wp2_with (go_at_call 5; refine (known5 _).mono ?_; rintro e w1 ⟨rfl, l1⟩; have L1 := hid l1; clear l1)
    go_ret
    exact ⟨rfl, L1.out⟩
  have j12 : ¬ (12 : Int) < (len : Int) := by omega
  go_enter Try.func4, Try.ntmps4
  go_upto_region 6 with (first | (go_at_call 7; have kill := L1.out; refine (made7 mti ao len cap _ hm.1 hm.2 (HI.out.more L1.out) (by omega)).mono ?_; rintro e w2 ⟨mt, am, n0, c0, L, rfl, m2, t0, t1⟩; have b2 := sq m2.2 (bel1 w2 (.cells #[.int .i64 mt, .slice am n0 c0] 24)); have V2 := hid (MV.new (m := mt) m2.given); have L2 := hid (sq L1.out b2); have HT0 := hid (And.intro t0 t1); clear m2 b2 t0 t1 kill) | (go_at_call 5; refine (known5 _).mono ?_; rintro e w1 ⟨rfl, l1⟩; have L1 := hid l1; clear l1))
  generalize w2.alloc (.cells #[.int .i64 mt, .slice am n0 c0] 24) = w3 at *
  generalize w2.heap.size = bm at *
  go_upto_region 7 with (refine bsN ns6 6 w3.heap.size rfl rfl (by omega) (by omega) rfl _ rfl rfl ?_; intro w4 n4 s4 b4; have V4 := hid (V2.out.more b4); have L4 := hid (sq L2.out b4); have N4 := hid n4; clear n4 b4 s4 V2 L2)
  have cx := (N4.out.cell ja ja6).trans (by rw [hX])
  have cy := (N4.out.cell jb jb6).trans (by rw [hY])
  generalize w3.heap.size = bn at *
  clear hX hY
  have hja := HJA.out
  have hjb := HJB.out
  go_quiet (fail)
  clear cx cy hja hjb
  have V5 := hid (V4.out.more (bel_drewN (Below.refl _ w4) nq))
  have L5 := hid (sq L4.out (bel_drewN (Below.refl _ w4) nq))
  generalize w4.drewN nq = w5 at *
  clear V4 L4 N4
  have TK := hid True.intro
  go_upto_region 10 with (first | (go_at_call 10; have kill := L6.out; refine (hoY _).mono ?_; rintro e w7 ⟨rfl, l7⟩; have k7 := sq l7 (bel1 w7 (.cells #[.bool true, .int .i64 (ly : Int), .int .i64 0] 35)); have FY := hid (FB.new w7 true (ly : Int) 0 35); have FX7 := hid (FX.out.more k7); have V7 := hid (V6.out.more k7); have L7 := hid (sq L6.out k7); clear l7 k7 L6 V6 FX kill) | (go_at_call 10; have kill := TK.out; refine (hoX _).mono ?_; rintro e w6 ⟨rfl, l6⟩; have k6 := sq l6 (bel1 w6 (.cells #[.bool true, .int .i64 (lx : Int), .int .i64 0] 35)); have FX := hid (FB.new w6 true (lx : Int) 0 35); have V6 := hid (V5.out.more k6); have L6 := hid (sq L5.out k6); clear l6 k6 TK kill))
  obtain ⟨f0, f1, f2⟩ := FX7.out
  obtain ⟨g0, g1, g2⟩ := FY.out
  generalize w6.heap.size = bx at *
  generalize w7.heap.size = bY at *
  generalize w7.alloc (.cells #[.bool true, .int .i64 (ly : Int), .int .i64 0] 35) = w8 at *
  clear f0 f2 g0 g2 FX7 FY
  have HVV := HV.out
  have HUU := HU.out
  go_region_held3 (fun w' => w' = w8.drew) ((rfl)) ((first | (go_at_call 11; have kill := TS.out; refine (digits11 u ly _ HUU.1 HUU.2 (by omega)).mono ?_; rintro e w9 ⟨T, rfl, hT, dT, rfl⟩; have HT := hid hT; have DT := hid dT; clear hT dT kill) | (go_at_call 11; refine (digits11 v lx _ HVV.1 HVV.2 (by omega)).mono ?_; rintro e w9 ⟨SS, rfl, hS, dS, rfl⟩; have HS := hid hS; have DS := hid dS; have TS := hid True.intro; clear hS dS)))
  have V9 := hid (V7.out.more (Below.refl _ w8).drew)
  have L9 := hid (sq L7.out (Below.refl _ w8).drew)
  generalize w8.drew = w9 at *
  clear f1 g1 HVV HUU TS V7 L7
  obtain ⟨i0, i1⟩ := V9.out.1
  have hrX : rightB X SS = true := right_six OX.out (by rw [HS.out, HFX.out]) DS.out
  have hrY : rightB Y T = true := right_six OY.out (by rw [HT.out, HFY.out]) DT.out
  have HTa : Hid (-9223372036854775808 ≤ mt) := by unfold Hid; have := HT0.out; omega
  have HTb : Hid (mt ≤ 9223372036854775807) := by unfold Hid; have := HT0.out; omega
  clear HFX HFY HS HT DS DT OX OY
  cases hR : rightM mt L
  · have HRR := hid hR
    clear hR hrX hrY
    go_wp2_with (go_at_call 17; refine (isoR17 mt _ _ _ L _ V9.out.2 HTa.out HTb.out).mono ?_; rintro e wa ⟨rfl, la⟩; rw [HRR.out]; have Va := hid (V9.out.more la); have La := hid (sq L9.out la); clear la V9 L9 i0 i1; obtain ⟨i0, i1⟩ := Va.out.1)
    go_ret
    exact ⟨rfl, La.out⟩
  · have HRR := hid hR
    cases hLt : lightL L
    · have HLL := hid hLt
      clear hR hrX hrY hLt
      go_wp2_with (first | (go_at_call 6; have kill := La.out; refine (light6 mt _ _ _ L _ Va.out.2).mono ?_; rintro e wb ⟨rfl, lb⟩; rw [HLL.out]; have V0 := hid (Va.out.more lb); have L0 := hid (sq La.out lb); clear lb Va La kill i0 i1; obtain ⟨i0, i1⟩ := V0.out.1) | (go_at_call 17; refine (isoR17 mt _ _ _ L _ V9.out.2 HTa.out HTb.out).mono ?_; rintro e wa ⟨rfl, la⟩; rw [HRR.out]; have Va := hid (V9.out.more la); have La := hid (sq L9.out la); clear la V9 L9 i0 i1; obtain ⟨i0, i1⟩ := Va.out.1))
      go_ret
      exact ⟨rfl, L0.out⟩
    · have HLL := hid hLt
      by_cases hXY : X = Y
      · subst hXY
        clear hR hrX hrY hLt
        go_wp2_with (first | (go_at_call 6; have kill := La.out; refine (light6 mt _ _ _ L _ Va.out.2).mono ?_; rintro e wb ⟨rfl, lb⟩; rw [HLL.out]; have V0 := hid (Va.out.more lb); have L0 := hid (sq La.out lb); clear lb Va La kill i0 i1; obtain ⟨i0, i1⟩ := V0.out.1) | (go_at_call 17; refine (isoR17 mt _ _ _ L _ V9.out.2 HTa.out HTb.out).mono ?_; rintro e wa ⟨rfl, la⟩; rw [HRR.out]; have Va := hid (V9.out.more la); have La := hid (sq L9.out la); clear la V9 L9 i0 i1; obtain ⟨i0, i1⟩ := Va.out.1))
        go_ret
        exact ⟨rfl, L0.out⟩
      · have hYX : Y ≠ X := fun e => hXY e.symm
        obtain ⟨P, hP⟩ : ∃ P, setL X SS L = P := ⟨_, rfl⟩
        obtain ⟨R, hRl⟩ : ∃ R, setL Y T L = R := ⟨_, rfl⟩
        obtain ⟨Q, hQ⟩ : ∃ Q, setL Y T P = Q := ⟨_, rfl⟩
        have hP1 : rightM mt P = true := hP ▸ set_right_m hR hrX
        have hR1 : rightM mt R = true := hRl ▸ set_right_m hR hrY
        have hQ1 : rightM mt Q = true := hQ ▸ set_right_m hP1 hrY
        have hU : setL X SS R = Q := by rw [← hRl, ← hQ, ← hP]; exact (set_set X Y SS T hYX L).symm
        have C1 : Hid (∀ ao n c w', FG w' ao n c L → Calls Try.prog 12 #[.agg #[.int .i64 mt, .slice ao n c], .int .i64 X, .string SS] w' fun e w'' => ∃ a n c, e = .returned (.tuple #[.agg #[.int .i64 mt, .slice a n c], .int .i64 0]) ∧ MkF w' w'' (.slice a n c) n P) := fun ao n c w' h => hP ▸ set12_yes mt ao n c L X SS w' h hR hrX
        have C2 : Hid (∀ ao n c w', FG w' ao n c P → Calls Try.prog 12 #[.agg #[.int .i64 mt, .slice ao n c], .int .i64 Y, .string T] w' fun e w'' => ∃ a n c, e = .returned (.tuple #[.agg #[.int .i64 mt, .slice a n c], .int .i64 0]) ∧ MkF w' w'' (.slice a n c) n Q) := fun ao n c w' h => hQ ▸ set12_yes mt ao n c P Y T w' h hP1 hrY
        have C3 : Hid (∀ ao n c w', FG w' ao n c L → Calls Try.prog 12 #[.agg #[.int .i64 mt, .slice ao n c], .int .i64 Y, .string T] w' fun e w'' => ∃ a n c, e = .returned (.tuple #[.agg #[.int .i64 mt, .slice a n c], .int .i64 0]) ∧ MkF w' w'' (.slice a n c) n R) := fun ao n c w' h => hRl ▸ set12_yes mt ao n c L Y T w' h hR hrY
        have C4 : Hid (∀ ao n c w', FG w' ao n c R → Calls Try.prog 12 #[.agg #[.int .i64 mt, .slice ao n c], .int .i64 X, .string SS] w' fun e w'' => ∃ a n c, e = .returned (.tuple #[.agg #[.int .i64 mt, .slice a n c], .int .i64 0]) ∧ MkF w' w'' (.slice a n c) n Q) := fun ao n c w' h => hU ▸ set12_yes mt ao n c R X SS w' h hR1 hrX
        have gX : getO Q X = some SS := by rw [← hQ, get_other Y X T hXY, ← hP, get_set]
        have gY : getO Q Y = some T := by rw [← hQ, get_set]
        have C5 : Hid (∀ ao n c w', FG w' ao n c Q → Calls Try.prog 8 #[.agg #[.int .i64 mt, .slice ao n c], .int .i64 X] w' fun e w'' => e = .returned (.tuple #[.string SS, .bool true]) ∧ Below w'.heap.size w' w'') := fun ao n c w' h => by
          have := get8 mt ao n c Q X w' h
          rwa [(get_yes gX).1, (get_yes gX).2] at this
        have C6 : Hid (∀ ao n c w', FG w' ao n c Q → Calls Try.prog 8 #[.agg #[.int .i64 mt, .slice ao n c], .int .i64 Y] w' fun e w'' => e = .returned (.tuple #[.string T, .bool true]) ∧ Below w'.heap.size w' w'') := fun ao n c w' h => by
          have := get8 mt ao n c Q Y w' h
          rwa [(get_yes gY).1, (get_yes gY).2] at this
        have HRQ := hid hQ1
        clear hR hrX hrY hLt hP hRl hQ hP1 hR1 hQ1 hU gX gY hYX
        go_upto_region 13 with (first | (go_at_call 6; have kill := La.out; refine (light6 mt _ _ _ L _ Va.out.2).mono ?_; rintro e wb ⟨rfl, lb⟩; rw [HLL.out]; have V0 := hid (Va.out.more lb); have L0 := hid (sq La.out lb); clear lb Va La kill i0 i1; obtain ⟨i0, i1⟩ := V0.out.1) | (go_at_call 17; refine (isoR17 mt _ _ _ L _ V9.out.2 HTa.out HTb.out).mono ?_; rintro e wa ⟨rfl, la⟩; rw [HRR.out]; have Va := hid (V9.out.more la); have La := hid (sq L9.out la); clear la V9 L9 i0 i1; obtain ⟨i0, i1⟩ := Va.out.1))
        go_wp2_with (first | (go_at_call 18; have kill := L7.out; refine (right18 mt _ _ _ Q _ Q7.out.2).mono ?_; rintro e w8 ⟨rfl, l8⟩; rw [HRQ.out]; have V8 := hid (V7.out.more l8); have Q8 := hid (Q7.out.more l8); have L8 := hid (sq L7.out l8); clear l8 V7 Q7 L7 kill i0 i1; obtain ⟨i0, i1⟩ := Q8.out.1; obtain ⟨v0, v1⟩ := V8.out.1) | (go_at_call 14; have kill := L6.out; refine (isos14 _ _ _ _ _ _ _ _ Q Q _ Q6.out.2 U6.out.2).mono ?_; rintro e w7 ⟨rfl, l7⟩; rw [show (decide (mt = mt) && sameL Q Q) = true from by simp [same_self]]; have V7 := hid (V6.out.more l7); have Q7 := hid (Q6.out.more l7); have L7 := hid (sq L6.out l7); clear l7 V6 Q6 U6 L6 kill i0 i1 u0 u1; obtain ⟨i0, i1⟩ := Q7.out.1) | (go_at_call 8; have kill := L5.out; refine (C6.out _ _ _ _ Q5.out.2).mono ?_; rintro e w6 ⟨rfl, l6⟩; have V6 := hid (V5.out.more l6); have Q6 := hid (Q5.out.more l6); have U6 := hid (U5.out.more l6); have L6 := hid (sq L5.out l6); clear l6 V5 Q5 U5 L5 kill i0 i1; obtain ⟨i0, i1⟩ := Q6.out.1; obtain ⟨u0, u1⟩ := U6.out.1) | (go_at_call 8; have kill := L4.out; refine (C5.out _ _ _ _ Q4.out.2).mono ?_; rintro e w5 ⟨rfl, l5⟩; have V5 := hid (V4.out.more l5); have Q5 := hid (Q4.out.more l5); have U5 := hid (U4.out.more l5); have L5 := hid (sq L4.out l5); clear l5 V4 Q4 U4 L4 kill i0 i1; obtain ⟨i0, i1⟩ := Q5.out.1) | (go_at_call 12; have kill := L3.out; refine (C4.out _ _ _ _ R3.out.2).mono ?_; rintro e w4 ⟨a4, n4, c4, rfl, m4⟩; have b4 := sq m4.2 (bel1 w4 (.cells #[.int .i64 mt, .slice a4 n4 c4] 24)); have U4 := hid (MV.new (m := mt) m4.given); have V4 := hid (V3.out.more b4); have Q4 := hid (Q3.out.more b4); have L4 := hid (sq L3.out b4); clear m4 b4 V3 Q3 R3 L3 kill; obtain ⟨i0, i1⟩ := Q4.out.1) | (go_at_call 12; have kill := L2.out; refine (C3.out _ _ _ _ V2.out.2).mono ?_; rintro e w3 ⟨a3, n3, c3, rfl, m3⟩; have b3 := sq m3.2 (bel1 w3 (.cells #[.int .i64 mt, .slice a3 n3 c3] 24)); have R3 := hid (MV.new (m := mt) m3.given); have V3 := hid (V2.out.more b3); have Q3 := hid (Q2.out.more b3); have L3 := hid (sq L2.out b3); clear m3 b3 V2 Q2 L2 kill i0 i1) | (go_at_call 12; have kill := L1.out; refine (C2.out _ _ _ _ P1.out.2).mono ?_; rintro e w2 ⟨a2, n2, c2, rfl, m2⟩; have b2 := sq m2.2 (bel1 w2 (.cells #[.int .i64 mt, .slice a2 n2 c2] 24)); have Q2 := hid (MV.new (m := mt) m2.given); have V2 := hid (V1.out.more b2); have L2 := hid (sq L1.out b2); clear m2 b2 V1 L1 P1 kill i0 i1; obtain ⟨i0, i1⟩ := V2.out.1) | (go_at_call 12; have kill := L0.out; refine (C1.out _ _ _ _ V0.out.2).mono ?_; rintro e w1 ⟨a1, n1, c1, rfl, m1⟩; have b1 := sq m1.2 (bel1 w1 (.cells #[.int .i64 mt, .slice a1 n1 c1] 24)); have P1 := hid (MV.new (m := mt) m1.given); have V1 := hid (V0.out.more b1); have L1 := hid (sq L0.out b1); clear m1 b1 V0 L0 kill i0 i1; obtain ⟨i0, i1⟩ := V1.out.1))
        go_ret
        exact ⟨rfl, L8.out⟩
end Go.Proofs.Ytfpjjdlfofejcaa
