/- Read, by the program. -/
import Derived.Test.YthhgnflkplpklabRSplit
import Derived.Test.YthhgnflkplpklabRRecOf
namespace Go.Proofs.Ythhgnflkplpklab.Frm
set_option maxRecDepth 20000
open Go.ChangeShapes Go.WideShapes Go.ChangeAt Go.RowKit

/-- A slice of bytes that is handed to a call. -/
structure Given (w : World) (ao : Option Addr) (len cap : Nat) (zs : List Int) : Prop where
  leq : zs.length = len
  byt : Byt zs
  row : RowAt w ao zs
  cap1 : len ≤ cap
  cap2 : cap ≤ 9223372036854775807
theorem Given.below {w w' : World} {ao : Option Addr} {len cap : Nat} {zs : List Int} (h : Given w ao len cap zs) (hb : Below w.heap.size w w') : Given w' ao len cap zs := ⟨h.leq, h.byt, row_mono hb h.row, h.cap1, h.cap2⟩
theorem get1 {zs : List Int} (h : Byt zs) : ∃ n : Nat, zs.getD 1 0 = (n : Int) ∧ n < 256 := by
  have := byt_getD h 1
  exact ⟨(zs.getD 1 0).toNat, by omega, by omega⟩
theorem split_no {w : World} {ao : Option Addr} {len cap : Nat} {zs : List Int} (h : Given w ao len cap zs) (hs : splB zs = false) :
    Calls Try.prog 36 #[.slice ao len cap] w fun e w' => e = .returned (.tuple #[.slice none 0 0, .int .u32 0, .bool false]) ∧ Below w.heap.size w w' := by
  have hl := h.leq
  by_cases h2 : len < 2
  · exact (split_short ao zs len cap w hl h2).mono fun _ _ k => k.2
  obtain ⟨b, o, rfl⟩ := h.row.some (by omega)
  by_cases hm : zs.getD 0 0 = 165
  · obtain ⟨n, h1, hb⟩ := get1 h.byt
    have hlong : len < n + 6 := by
      rcases Nat.lt_or_ge len (n + 6) with hlt | hge
      · exact hlt
      · exfalso
        rw [splB, hm, h1, hl] at hs
        simp at hs
        have := hs (by omega)
        omega
    exact (split_cut b o zs len cap n w hl (by omega) h.cap1 h.row hm h1 hb hlong h.cap2).mono fun _ _ k => k.2
  · exact (split_mark b o zs len cap w hl (by omega) h.row hm).mono fun _ _ k => k.2
theorem split_ok {w : World} {ao : Option Addr} {len cap : Nat} {zs : List Int} (h : Given w ao len cap zs) (hs : splB zs = true) (n : Nat) (h1 : zs.getD 1 0 = (n : Int)) :
    Calls Try.prog 36 #[.slice ao len cap] w fun e w' => ∃ b o cap', e = .returned (.tuple #[.slice (some ⟨b, o, none⟩) n cap', .int .u32 (sumX zs), .bool true]) ∧ Given w' (some ⟨b, o, none⟩) n cap' (bodyX zs) ∧ Below w.heap.size w w' := by
  have hl := h.leq
  obtain ⟨n', h1', hb⟩ := get1 h.byt
  have : n' = n := by omega
  subst this
  simp only [splB, Bool.and_eq_true, decide_eq_true_eq] at hs
  obtain ⟨⟨s1, s2⟩, s3⟩ := hs
  rw [h1, hl] at s3
  obtain ⟨b, o, rfl⟩ := h.row.some (by omega)
  refine (split_yes b o zs len cap n' w hl h.byt h.cap1 h.row s2 h1 hb (by omega) h.cap2).mono ?_
  rintro e w' ⟨-, rfl, hbel⟩
  have e2 : bodyX zs = pc zs 2 n' := by rw [bodyX, h1, Int.toNat_natCast]
  refine ⟨b, o + 2, cap - 2, rfl, ⟨by rw [e2]; exact pc_len (by omega), by rw [e2]; exact byt_pc h.byt _ _, ?_, by have := h.cap1; omega, by have := h.cap2; omega⟩, hbel⟩
  rw [e2]
  exact row_mono hbel (h.row.piece 2 n' (by omega))
theorem rec_any {w : World} {ao : Option Addr} {len cap : Nat} {zs : List Int} (h : Given w ao len cap zs) :
    Calls Try.prog 37 #[.slice ao len cap] w fun e w' => e = .returned (.tuple #[(recO zs).val, .bool (recB zs)]) ∧ Below w.heap.size w w' := by
  by_cases hn : len < 36
  · exact rec_no ao zs len cap w h.leq hn
  · exact rec_yes ao zs len cap w h.leq h.row h.byt h.cap1 h.cap2 (by omega)
theorem sum_gv {w : World} {ao : Option Addr} {len cap : Nat} {zs : List Int} (h : Given w ao len cap zs) :
    Calls Try.prog 38 #[.slice ao len cap] w fun e w' => e = .returned (.int .u32 (crcL zs)) ∧ w = w' :=
  sum_any ao len cap zs w h.leq h.row h.byt (by have h1 := h.cap1; have h2 := h.cap2; unfold maxLen; omega)
theorem err23a {zs : List Int} (h : splB zs = false) : errX zs = 23 ∧ recX zs = Rc.zero ∧ lenX zs = 0 := by
  have e : errX zs = 23 := by rw [errX, h]; rfl
  exact ⟨e, by rw [recX, e]; rfl, by rw [lenX, e]; rfl⟩
theorem err23b {zs : List Int} (h : recB (bodyX zs) = false) : errX zs = 23 ∧ recX zs = Rc.zero ∧ lenX zs = 0 := by
  have e : errX zs = 23 := by rw [errX, h, Bool.and_false]; rfl
  exact ⟨e, by rw [recX, e]; rfl, by rw [lenX, e]; rfl⟩
theorem err24 {zs : List Int} (h : splB zs = true) (k : recB (bodyX zs) = true) (hne : ¬ sumX zs = crcL (bodyX zs)) : errX zs = 24 ∧ recX zs = Rc.zero ∧ lenX zs = 0 := by
  have e : errX zs = 24 := by rw [errX, h, k, Bool.and_true, if_pos rfl, if_neg hne]
  exact ⟨e, by rw [recX, e]; rfl, by rw [lenX, e]; rfl⟩
theorem err0 {zs : List Int} (h : splB zs = true) (k : recB (bodyX zs) = true) (he : sumX zs = crcL (bodyX zs)) : errX zs = 0 ∧ recX zs = recO (bodyX zs) ∧ lenX zs = ((bodyX zs).length : Int) + 6 := by
  have e : errX zs = 0 := by rw [errX, h, k, Bool.and_true, if_pos rfl, if_pos he]
  have k' := k
  rw [recB, Bool.and_eq_true, Bool.and_eq_true, decide_eq_true_eq] at k'
  exact ⟨e, by rw [recX, e, if_pos rfl, recO, if_pos k'.1.1], by rw [lenX, e, if_pos rfl]⟩
set_option maxHeartbeats 1000000 in
theorem read_any {w : World} {ao : Option Addr} {len cap : Nat} {zs : List Int} (h : Given w ao len cap zs) :
    Calls Try.prog 30 #[.slice ao len cap] w fun e w' => e = .returned (.tuple #[(recX zs).val, .int .i64 (lenX zs), .int .i64 (errX zs)]) ∧ Below w.heap.size w w' := by
  have G := hid h
  clear h
  cases hs : splB zs with
  | false =>
    have HX := hid (err23a hs)
    have HS := hid hs
    clear hs
    go_enter Try.func30, Try.ntmps30
    go_wp2_with (first | (go_at_call 36; refine (split_no (G.out.below L2.out) HS.out).mono ?_; rintro e w3 ⟨rfl, l3⟩; have V3 := hid (V2.out.below l3); have L3 := hid (sq L2.out l3); clear l3) | (refine al29 rfl rfl ?_; intro b2 w2 hb2 v2 l2; have V2 := hid v2; have L2 := hid l2; clear v2 l2) | refine bd29 rfl rfl ?_ | (refine st29 (r := Rc.zero) V3.out L3.out hb2 rfl _ _ rfl rfl rfl ?_; intro w4 v4 l4; have V4 := hid v4; have L4 := hid l4; clear v4 l4))
    refine bodyPost_ret (results_c2 Try.results30 _ _ rfl rfl rfl V4.out) rfl ⟨?_, L4.out⟩
    rw [HX.out.1, HX.out.2.1, HX.out.2.2]; rfl
  | true =>
    obtain ⟨n, h1, hnb⟩ := get1 G.out.byt
    have H1 := hid h1
    have HS := hid hs
    clear h1 hs
    cases hk : recB (bodyX zs) with
    | false =>
      have HX := hid (err23b hk)
      have HK := hid hk
      clear hk
      go_enter Try.func30, Try.ntmps30
      go_wp2_with (first | (go_at_call 37; refine (rec_any G3.out).mono ?_; rintro e w4 ⟨rfl, l4⟩; rw [HK.out]; have V4 := hid (V3.out.below l4); have L4 := hid (sq L3.out l4); have G4 := hid (G3.out.below l4); clear l4) | (go_at_call 36; refine (split_ok (G.out.below L2.out) HS.out n H1.out).mono ?_; rintro e w3 ⟨gb, go, gc, rfl, g3, l3⟩; have G3 := hid g3; have V3 := hid (V2.out.below l3); have L3 := hid (sq L2.out l3); clear l3 g3) | (refine al29 rfl rfl ?_; intro b5 w5 hb5 v5 l5; have L4' := L4; have V5 := hid v5; have L5 := hid l5; clear v5 l5 L4') | (refine al29 rfl rfl ?_; intro b2 w2 hb2 v2 l2; have V2 := hid v2; have L2 := hid l2; clear v2 l2) | (refine st29 (r := recO (bodyX zs)) V5.out L5.out hb5 rfl _ _ rfl rfl rfl ?_; intro w6 v6 l6; have V6 := hid v6; have V6r := hid (V4.out.below l6); have G6 := hid (G4.out.below l6); have L6 := hid (sq L4.out l6); clear v6 l6) | refine bd29 rfl rfl ?_ | (refine st29 (r := Rc.zero) V6r.out L6.out hb2 rfl _ _ rfl rfl rfl ?_; intro w7 v7 l7; have V7 := hid v7; have L7 := hid l7; clear v7 l7))
      refine bodyPost_ret (results_c2 Try.results30 _ _ rfl rfl rfl V7.out) rfl ⟨?_, L7.out⟩
      rw [HX.out.1, HX.out.2.1, HX.out.2.2]; rfl
    | true =>
      have HK := hid hk
      by_cases hq : sumX zs = crcL (bodyX zs)
      · have HX := hid (err0 HS.out hk hq)
        have HN : Hid ((bodyX zs).length = n) := by
          unfold Hid
          have h := HS.out
          simp only [splB, Bool.and_eq_true, decide_eq_true_eq] at h
          obtain ⟨⟨s1, s2⟩, s3⟩ := h
          rw [H1.out] at s3
          rw [bodyX, H1.out, Int.toNat_natCast]; exact pc_len (by omega)
        obtain ⟨sm, hsm⟩ : ∃ sm, sumX zs = sm := ⟨_, rfl⟩
        have HSM := hid hsm
        have HC : Hid (crcL (bodyX zs) = sm) := by unfold Hid; rw [← hq, hsm]
        clear hk hq hsm
        go_enter Try.func30, Try.ntmps30
        go_wp2_with (first | (go_at_call 38; refine (sum_gv G6.out).mono ?_; rintro e w' ⟨rfl, rfl⟩; rw [HC.out]) | refine ld29 V6.out rfl _ rfl rfl ?_ | (refine st29 (r := recO (bodyX zs)) V6r.out L6.out hb2 rfl _ _ rfl rfl rfl ?_; intro w7 v7 l7; have V7 := hid v7; have L7 := hid l7; clear v7 l7) | (go_at_call 37; refine (rec_any G3.out).mono ?_; rintro e w4 ⟨rfl, l4⟩; rw [HK.out]; have V4 := hid (V3.out.below l4); have L4 := hid (sq L3.out l4); have G4 := hid (G3.out.below l4); clear l4) | (go_at_call 36; refine (split_ok (G.out.below L2.out) HS.out n H1.out).mono ?_; rintro e w3 ⟨gb, go, gc, rfl, g3, l3⟩; rw [HSM.out]; have G3 := hid g3; have V3 := hid (V2.out.below l3); have L3 := hid (sq L2.out l3); clear l3 g3) | (refine al29 rfl rfl ?_; intro b5 w5 hb5 v5 l5; have L4' := L4; have V5 := hid v5; have L5 := hid l5; clear v5 l5 L4') | (refine al29 rfl rfl ?_; intro b2 w2 hb2 v2 l2; have V2 := hid v2; have L2 := hid l2; clear v2 l2) | (refine st29 (r := recO (bodyX zs)) V5.out L5.out hb5 rfl _ _ rfl rfl rfl ?_; intro w6 v6 l6; have V6 := hid v6; have V6r := hid (V4.out.below l6); have G6 := hid (G4.out.below l6); have L6 := hid (sq L4.out l6); clear v6 l6) | refine bd29 rfl rfl ?_ | (refine st29 (r := Rc.zero) V6r.out L6.out hb2 rfl _ _ rfl rfl rfl ?_; intro w7 v7 l7; have V7 := hid v7; have L7 := hid l7; clear v7 l7))
        refine bodyPost_ret (results_c2 Try.results30 _ _ rfl rfl rfl V7.out) rfl ⟨?_, L7.out⟩
        rw [HX.out.1, HX.out.2.1, HX.out.2.2, HN.out]
        show Ending.returned (.tuple #[(recO (bodyX zs)).val, .int .i64 (2 + (n : Int) + 4), .int .i64 0]) = _
        rw [show 2 + (n : Int) + 4 = (n : Int) + 6 by omega]
      · have HX := hid (err24 HS.out hk hq)
        obtain ⟨sm, hsm⟩ : ∃ sm, sumX zs = sm := ⟨_, rfl⟩
        obtain ⟨cs, hcs⟩ : ∃ cs, crcL (bodyX zs) = cs := ⟨_, rfl⟩
        rw [hsm, hcs] at hq
        have HSM := hid hsm
        have HC := hid hcs
        clear hk hsm hcs
        go_enter Try.func30, Try.ntmps30
        go_wp2_with (first | (go_at_call 38; refine (sum_gv G6.out).mono ?_; rintro e w' ⟨rfl, rfl⟩; rw [HC.out]) | (go_at_call 37; refine (rec_any G3.out).mono ?_; rintro e w4 ⟨rfl, l4⟩; rw [HK.out]; have V4 := hid (V3.out.below l4); have L4 := hid (sq L3.out l4); have G4 := hid (G3.out.below l4); clear l4) | (go_at_call 36; refine (split_ok (G.out.below L2.out) HS.out n H1.out).mono ?_; rintro e w3 ⟨gb, go, gc, rfl, g3, l3⟩; rw [HSM.out]; have G3 := hid g3; have V3 := hid (V2.out.below l3); have L3 := hid (sq L2.out l3); clear l3 g3) | (refine al29 rfl rfl ?_; intro b5 w5 hb5 v5 l5; have L4' := L4; have V5 := hid v5; have L5 := hid l5; clear v5 l5 L4') | (refine al29 rfl rfl ?_; intro b2 w2 hb2 v2 l2; have V2 := hid v2; have L2 := hid l2; clear v2 l2) | (refine st29 (r := recO (bodyX zs)) V5.out L5.out hb5 rfl _ _ rfl rfl rfl ?_; intro w6 v6 l6; have V6 := hid v6; have V6r := hid (V4.out.below l6); have G6 := hid (G4.out.below l6); have L6 := hid (sq L4.out l6); clear v6 l6) | refine bd29 rfl rfl ?_ | (refine st29 (r := Rc.zero) V6r.out L6.out hb2 rfl _ _ rfl rfl rfl ?_; intro w7 v7 l7; have V7 := hid v7; have L7 := hid l7; clear v7 l7))
        refine bodyPost_ret (results_c2 Try.results30 _ _ rfl rfl rfl V7.out) rfl ⟨?_, L7.out⟩
        rw [HX.out.1, HX.out.2.1, HX.out.2.2]; rfl
end Go.Proofs.Ythhgnflkplpklab.Frm
