/- WireBad: a frame whose sum is another one, or that isn't ended, doesn't hide the one behind it. -/
import Derived.Test.YtecfcfagpciccaaLong
namespace Go.Proofs.Ytecfcfagpciccaa
open Go.ChangeShapes Go.WideShapes Go.ChangeAt Go.RowKit

theorem sub_h {ao : Option Addr} {len cap : Nat} (j : Nat) (t : Int) (ht : t = j) (hj : j ≤ len) (hc : len ≤ cap) :
    ∃ ao', (∀ w, (Instr.sliceAt 22 (.slice ao len cap) none (some (.int .i64 t)) none).run Try.prog w = .ok (.slice ao' j cap) w) ∧ (∀ w zs, Given w ao len cap zs → Given w ao' j cap (zs.take j)) ∧ (ao' = none → ao = none) := by
  subst ht
  refine ⟨if cap = 0 then ao else ao.map (·.add (0 * 1)), fun w => ?_, fun w zs h => ?_, fun e => ?_⟩
  · have h2 : (j : Int) ≤ cap := by omega
    by_cases hc0 : cap = 0
    · obtain rfl : j = 0 := by omega
      simp [Instr.sliceAt, Instr.slice, Instr.sliceBounds, Instr.sliceBound, run_underlying Try.underlying22, asIntOf, hc0]
    · simp [Instr.sliceAt, Instr.slice, Instr.sliceBounds, Instr.sliceBound, run_underlying Try.underlying22, asIntOf, hc0]
      intro hj'; omega
  · have h1 := h.leq
    have h2 := h.cap2
    refine ⟨by simp; omega, byt_take h.byt _, ?_, by omega, by omega⟩
    by_cases h0 : cap = 0
    · left; rw [show j = 0 by omega]; rfl
    · rw [if_neg h0]
      rcases h.row with e | ⟨b, o, e, hr⟩
      · left; rw [e]; simp
      · subst e
        have := (h.row).piece 0 j (by omega)
        simpa [Addr.add_mid, pc] using this
  · by_cases hc : cap = 0
    · rwa [if_pos hc] at e
    · rw [if_neg hc] at e
      cases ao with
      | none => rfl
      | some a => cases e
theorem Row.setOther {B : Nat} {w : World} {v : Value} {n : Nat} {l : List Int} (h : Row B w v n l) (a : Addr) (x : Value) (ha : a.block < B) : Row B (w.setCell a x) v n l :=
  own_kept h fun k e => Below.heap_setCell w a x k (fun c => by have := h.blk k e; omega)
theorem fr_set (b : List Int) (v : Int) : (frL b).set (b.length + 2) v = 2 :: (b ++ [3, v]) := by
  unfold frL
  rw [List.set_cons_succ, List.set_append_right _ _ (by omega), show b.length + 1 - b.length = 1 by omega]; rfl
theorem fr_take1 (b : List Int) : (frL b).take 1 = [2] := rfl
theorem fr_take (b : List Int) : (frL b).take (b.length + 1) = 2 :: b := by
  unfold frL; rw [List.take_succ_cons, List.take_left]
theorem get_set2 (b : List Int) (v : Int) : ((frL b).set (b.length + 2) v).getD (b.length + 2) 0 = v := by
  rw [fr_set]; simp
theorem byt_c2 {l : List Int} (h : Byt l) : Byt (2 :: l) := by
  intro x hx; rcases List.mem_cons.1 hx with rfl | hx
  · omega
  · exact h x hx
theorem byt_33 {l : List Int} {v : Int} (h : Byt l) (hv : B8 v) : Byt (2 :: (l ++ [3, v])) :=
  byt_c2 (byt_app h (by intro x hx; simp at hx; rcases hx with rfl | rfl; · omega
                        · exact hv))
theorem app_len (a b : List Int) (h : a.length ≤ 63) (k : b.length ≤ 63) : (a ++ b).length ≤ 900 := by rw [List.length_append]; omega
set_option maxHeartbeats 16000000 in
set_option maxRecDepth 20000 in
theorem bad_walk (x0 : Option Addr) (y0 z0 : Nat) (l0 : List Int) (x1 : Option Addr) (y1 z1 : Nat) (l1 : List Int) (x how : Int) (W : World) (h0 : InB W x0 y0 z0 l0) (h1 : InB W x1 y1 z1 l1) (hx : 0 ≤ x ∧ x < 256) (hh : 0 ≤ how ∧ how < 256) :
    Calls Try.prog 7 #[.slice x0 y0 z0, .slice x1 y1 z1, .int .u8 x, .int .u8 how] W fun e w' => e = .returned (.bool true) ∧ Below W.heap.size W w' := by
  have H0 := hid h0
  have H1 := hid h1
  have cp0 := Nat.le_trans h0.giv.cap1 h0.giv.cap2
  have cp1 := Nat.le_trans h1.giv.cap1 h1.giv.cap2
  clear h0 h1
  have K0 := hid True.intro
  by_cases j0 : 60 < y0
  · have d0 : decide ((60 : Int) < (y0 : Int)) = true := decide_eq_true (by omega)
    have d0' : decide (60 < y0) = true := decide_eq_true j0
    go_enter Try.func7, Try.ntmps7
    go_wp2_with (go_at_call 9; have kill := K0.out; refine (known9 _).mono ?_; rintro e w1 ⟨rfl, b1⟩; have B1 := hid b1; clear b1 kill K0)
    go_ret
    exact ⟨rfl, B1.out⟩
  have d0 : decide ((60 : Int) < (y0 : Int)) = false := decide_eq_false (by omega)
  have d0' : decide (60 < y0) = false := decide_eq_false j0
  by_cases j1 : 60 < y1
  · have d1 : decide ((60 : Int) < (y1 : Int)) = true := decide_eq_true (by omega)
    have d1' : decide (60 < y1) = true := decide_eq_true j1
    go_enter Try.func7, Try.ntmps7
    go_wp2_with (go_at_call 9; have kill := K0.out; refine (known9 _).mono ?_; rintro e w1 ⟨rfl, b1⟩; have B1 := hid b1; clear b1 kill K0)
    go_ret
    exact ⟨rfl, B1.out⟩
  have d1 : decide ((60 : Int) < (y1 : Int)) = false := decide_eq_false (by omega)
  have d1' : decide (60 < y1) = false := decide_eq_false j1
  by_cases x0' : x = 0
  · subst x0'
    go_enter Try.func7, Try.ntmps7
    go_wp2_with (go_at_call 9; have kill := K0.out; refine (known9 _).mono ?_; rintro e w1 ⟨rfl, b1⟩; have B1 := hid b1; clear b1 kill K0)
    go_ret
    exact ⟨rfl, B1.out⟩
  have xe : (x == 0) = false := by simpa using x0'
  have xd : decide (x = 0) = false := decide_eq_false x0'
  go_enter Try.func7, Try.ntmps7
  go_upto_region 5 with (go_at_call 9; have kill := K0.out; refine (known9 _).mono ?_; rintro e w1 ⟨rfl, b1⟩; have B1 := hid b1; clear b1 kill K0)
  have G0 := hid (H0.out.giv.below B1.out)
  obtain ⟨F0, hF0⟩ : ∃ F, frOk l0 = F := ⟨_, rfl⟩
  obtain ⟨F1, hF1⟩ : ∃ F, frOk l1 = F := ⟨_, rfl⟩
  have HF0 := hid hF0
  have HF1 := hid hF1
  clear hF0 hF1
  go_upto_region 6 with (go_at_call 18; refine (frame18 _ _ _ l0 _ G0.out H0.out.nil).mono ?_; rintro e w2 ⟨a2, n2, c2, rfl, m2⟩; rw [HF0.out]; have M2 := hid m2; clear m2)
  have G1 := hid (H1.out.giv.below (sq B1.out M2.out.2))
  go_upto_region 7 with (go_at_call 18; refine (frame18 _ _ _ l1 _ G1.out H1.out.nil).mono ?_; rintro e w3 ⟨a3, n3, c3, rfl, m3⟩; rw [HF1.out]; have M3 := hid m3; clear m3)
  have B3 : Hid (Below W.heap.size W w3) := sq (sq B1.out M2.out.2) M3.out.2
  cases F0
  · go_wp2
    go_ret
    exact ⟨rfl, B3.out⟩
  cases F1
  · go_wp2
    go_ret
    exact ⟨rfl, B3.out⟩
  have hl0 : l0.length = y0 := H0.out.giv.leq
  have hl1 : l1.length = y1 := H1.out.giv.leq
  have m2 := M2.out
  have m3 := M3.out
  rw [frX_yes HF0.out] at m2
  rw [frX_yes HF1.out] at m3
  have q2 := m2.1.len
  have q3 := m3.1.len
  rw [fr_len, hl0] at q2
  rw [fr_len, hl1] at q3
  subst q2
  have hn3 : n3 ≤ 63 := by omega
  have hb0 := hid H0.out.giv.byt
  have hb1 := hid H1.out.giv.byt
  have LG : Hid ((frL l1).length = n3) := m3.1.len
  have NG : Hid (a3 = none → n3 = 0 ∧ c3 = 0) := m3.1.caps.1
  have BF1 := hid (fr_byt hb1.out)
  obtain ⟨m, hm⟩ : ∃ m, how % 3 = m := ⟨_, rfl⟩
  have hm' : how.tmod 3 = m := by rw [Int.tmod_eq_emod_of_nonneg hh.1, hm]
  have hm2 : m = 0 ∨ m = 1 ∨ m = 2 := by omega
  have HL0 := hid hl0
  have HM2 := hid m2
  have HM3 := hid m3
  have w2w3 := hid M3.out.2
  clear M2 M3 m2 m3 q3 hm hh hl0 hl1
  rcases hm2 with rfl | rfl | rfl
  · obtain ⟨g, eg, ce, fr, st⟩ := (HM2.out.more w2w3.out).put (y0 + 2) (by omega)
    subst eg
    have hg : Hid (g < w2.heap.size) := HM2.out.1.at.lt (by simp [frL]) ⟨g, 0, none⟩ rfl
    rw [show (frL l0).getD (y0 + 2) 0 = sumL l0 by rw [← HL0.out]; exact fr_at4 l0] at ce
    obtain ⟨V, hV⟩ : ∃ V, sumL l0 = V := ⟨_, rfl⟩
    rw [hV] at ce
    obtain ⟨V', hV'⟩ : ∃ V', bits .xor .u8 V x = V' := ⟨_, rfl⟩
    have V8 : B8 V := by rw [← hV]; exact sum_b8 hb0.out
    have V8' : Hid (B8 V') := by unfold Hid; rw [← hV']; exact xr_b8 V8 ⟨hx.1, hx.2⟩
    have VN : Hid (¬ V' = V) := by unfold Hid; rw [← hV']; exact xr_ne V8 ⟨hx.1, hx.2⟩ x0'
    have e1 : ((y0 + 3 : Nat) : Int) - 1 = ((y0 + 2 : Nat) : Int) := by omega
    have hix : ((y0 + 2 : Nat) : Int) < ((y0 + 3 : Nat) : Int) := by omega
    have HVV := hid hV
    have ST := hid (st V')
    have RG4 : Hid (RowAt (w3.setCell ⟨g, y0 + 2, none⟩ (.int .u8 V')) a3 (frL l1)) := (HM3.out.1.setOther ⟨g, y0 + 2, none⟩ (.int .u8 V') hg.out).at
    clear st hV V8
    go_upto_region 13 with (fail)
    generalize w3.setCell ⟨g, y0 + 2, none⟩ (.int .u8 V') = w4 at *
    have gs := ST.out.1.len
    have B4 : Hid (Below W.heap.size W w4) := sq B1.out ST.out.2
    have hcc : w4.cell? ⟨g, y0 + 2, none⟩ = some (.int .u8 V') := by
      rcases ST.out.1.at with h | ⟨b, o, eb, hc⟩
      · rw [h] at gs; simp at gs
      · cases eb
        have := hc (y0 + 2) (by rw [gs]; omega)
        rw [Nat.zero_add] at this
        rw [this]
        have := get_set2 l0 V'
        rw [HL0.out] at this
        rw [this]
    by_cases v2 : V' = 2
    · subst v2
      clear gs hV'
      go_wp2
      go_ret
      exact ⟨rfl, B4.out⟩
    · have v2' : (V' == 2) = false := by simpa using v2
      have HU := unf_bad 0 none l0 l1 V' HF0.out (by rw [HVV.out]; exact VN.out) v2 HF1.out
      have hset : (frL l0).set (y0 + 2) V' = 2 :: (l0 ++ [3, V']) := by rw [← HL0.out]; exact fr_set l0 V'
      have ST' := ST.out
      rw [hset] at ST'
      obtain ⟨l5, hl5⟩ : ∃ l5, (2 :: (l0 ++ [3, V']) : List Int) = l5 := ⟨_, rfl⟩
      have hll : l5.length = y0 + 3 := by rw [← hl5]; simp; exact HL0.out
      have BY : Hid (Byt (l5 ++ frL l1)) := by unfold Hid; rw [← hl5]; exact byt_app (byt_33 hb0.out V8'.out) BF1.out
      have HU : unf none 0 (l5 ++ frL l1) = some (l1, l5.length + (frL l1).length) := by rw [hll, ← hl5, HU, HL0.out, Nat.zero_add]
      have BL : (l5 ++ frL l1).length ≤ 900 := app_len _ _ (by omega) (by rw [LG.out]; exact hn3)
      rw [hl5] at ST'
      obtain ⟨n5, hn5⟩ : ∃ n5, y0 + 3 = n5 := ⟨_, rfl⟩
      rw [hn5] at hll
      rw [hn5] at ST' e1 hix
      rw [hn5] at HM2 ST gs
      rw [hn5]
      have R5 : Hid (RowAt w4 (some ⟨g, 0, none⟩) l5) := ST'.1.at
      have L5 : Hid (l5.length = n5) := hll
      have N5 : Hid ((some ⟨g, 0, none⟩ : Option Addr) = none → n5 = 0 ∧ c2 = 0) := fun e => by cases e
      have RG : Hid (RowAt w4 a3 (frL l1)) := RG4.out
      clear ST' hset hl5 hll gs hV' ST RG4 HM2 HM3 ce fr hn5
      obtain ⟨e1, e2, e3⟩ := uf_some HU
      rw [List.length_append] at BL
      rw [L5.out, LG.out] at e2
      have U1 := hid e1
      have U2 := hid e2
      have U3 := hid e3
      have hcast : (n5 : Int) + (n3 : Int) = ((n5 + n3 : Nat) : Int) := by omega
      have BL' : n5 + n3 ≤ 900 := by rw [← L5.out, ← LG.out]; exact BL
      clear e1 e2 e3 HU BL
      generalize frL l1 = fl at *
      obtain ⟨s, hs⟩ : ∃ s, n5 + n3 = s := ⟨_, rfl⟩
      rw [hs] at hcast U2
      have hs' := hid hs
      clear hs
      have n5b : n5 ≤ 900 := by omega
      have n3b : n3 ≤ 900 := by omega
      have sb : s ≤ 900 := by have := hs'.out; omega
      go_upto_region 18 with (first
        | (go_at_call 19; have kill := D3.out; refine (unf19 _ _ _ _ _ (D3.out.given BY.out) (by omega)).mono ?_; rintro e w7 ⟨a7, n7, c7, rfl, m7⟩; rw [U2.out, U3.out]; rw [U1.out] at m7; have M7 := hid m7; clear m7 kill)
        | (at_builtin; have kill := R6.out; refine app_row (l2 := fl) D1.out.1 R6.out LG.out NG.out D1.out.2.size (by omega) rfl _ _ rfl rfl rfl ?_; intro a6 c6 w6 r6 t6; have D3 := hid (D1.out.next r6 t6); clear r6 t6 kill R6)
        | (at_builtin; have kill := R5.out; refine app_none (l2 := l5) R5.out L5.out N5.out (by omega) rfl _ _ rfl rfl rfl ?_; intro a8 c8 w8 m8; have D1 := hid m8; have R6 := hid (row_mono D1.out.2 RG.out); clear m8 kill R5))
      have BB : Hid (Below W.heap.size W w7) := sq (sq B4.out D3.out.2) M7.out.2
      have G7 := hid (H1.out.giv.below BB.out)
      have kc3 := run_str w7 a7 l1 n7 c7 M7.out.1.len M7.out.1.at
      have kc4 := run_str w7 x1 l1 y1 z1 G7.out.leq G7.out.row
      generalize strOfNums l1 = S2 at *
      go_wp2
      go_ret
      exact ⟨rfl, BB.out⟩
  · have gf := (HM2.out.more w2w3.out).given (fr_byt hb0.out)
    obtain ⟨b, o, rfl, _⟩ := gf.cell 0 (by omega)
    obtain ⟨n2, hn2⟩ : ∃ n2, y0 + 3 = n2 := ⟨_, rfl⟩
    rw [hn2] at HM2 gf
    rw [hn2]
    obtain ⟨n5, hn5⟩ : ∃ n5, y0 + 1 = n5 := ⟨_, rfl⟩
    have ht2 : (n2 : Int) - 2 = (n5 : Int) := by omega
    obtain ⟨a5, r5, g5, n5'⟩ := sub_h (ao := some ⟨b, o, none⟩) (len := n2) (cap := c2) n5 (n5 : Int) rfl (by omega) gf.cap1
    have G5 := g5 _ _ gf
    have HU := unf_open none 0 l0 l1 (frOk_parts HF0.out).2 HF1.out
    have ht : (frL l0).take n5 = 2 :: l0 := by rw [← hn5, ← HL0.out]; exact fr_take l0
    rw [ht] at G5
    obtain ⟨l5, hl5⟩ : ∃ l5, (2 :: l0 : List Int) = l5 := ⟨_, rfl⟩
    have hll : l5.length = n5 := by rw [← hl5, List.length_cons, HL0.out, hn5]
    have BY : Hid (Byt (l5 ++ frL l1)) := by unfold Hid; rw [← hl5]; exact byt_app (byt_c2 hb0.out) BF1.out
    have HU : unf none 0 (l5 ++ frL l1) = some (l1, l5.length + (frL l1).length) := by rw [hll, ← hl5, HU, HL0.out]; congr 2; omega
    have BL : (l5 ++ frL l1).length ≤ 900 := app_len _ _ (by omega) (by rw [LG.out]; exact hn3)
    rw [hl5] at G5
    have R5 : Hid (RowAt w3 a5 l5) := G5.row
    have L5 : Hid (l5.length = n5) := hll
    have N5 : Hid (a5 = none → n5 = 0 ∧ c2 = 0) := fun e => by cases n5' e
    have RG : Hid (RowAt w3 a3 (frL l1)) := HM3.out.1.at
    have B4 := hid B3.out
    clear g5 gf G5 ht hl5 hll hn5 n5' HM2 HM3 hn2
    obtain ⟨e1, e2, e3⟩ := uf_some HU
    rw [List.length_append] at BL
    rw [L5.out, LG.out] at e2
    have U1 := hid e1
    have U2 := hid e2
    have U3 := hid e3
    have hcast : (n5 : Int) + (n3 : Int) = ((n5 + n3 : Nat) : Int) := by omega
    have BL' : n5 + n3 ≤ 900 := by rw [← L5.out, ← LG.out]; exact BL
    clear e1 e2 e3 HU BL
    generalize frL l1 = fl at *
    obtain ⟨s, hs⟩ : ∃ s, n5 + n3 = s := ⟨_, rfl⟩
    rw [hs] at hcast U2
    have hs' := hid hs
    clear hs
    have n5b : n5 ≤ 900 := by omega
    have n3b : n3 ≤ 900 := by omega
    have sb : s ≤ 900 := by have := hs'.out; omega
    go_upto_region 18 with (first
      | (go_at_call 19; have kill := D3.out; refine (unf19 _ _ _ _ _ (D3.out.given BY.out) (by omega)).mono ?_; rintro e w7 ⟨a7, n7, c7, rfl, m7⟩; rw [U2.out, U3.out]; rw [U1.out] at m7; have M7 := hid m7; clear m7 kill)
      | (at_builtin; have kill := R6.out; refine app_row (l2 := fl) D1.out.1 R6.out LG.out NG.out D1.out.2.size (by omega) rfl _ _ rfl rfl rfl ?_; intro a6 c6 w6 r6 t6; have D3 := hid (D1.out.next r6 t6); clear r6 t6 kill R6)
      | (at_builtin; have kill := R5.out; refine app_none (l2 := l5) R5.out L5.out N5.out (by omega) rfl _ _ rfl rfl rfl ?_; intro a8 c8 w8 m8; have D1 := hid m8; have R6 := hid (row_mono D1.out.2 RG.out); clear m8 kill R5))
    have BB : Hid (Below W.heap.size W w7) := sq (sq B4.out D3.out.2) M7.out.2
    have G7 := hid (H1.out.giv.below BB.out)
    have kc3 := run_str w7 a7 l1 n7 c7 M7.out.1.len M7.out.1.at
    have kc4 := run_str w7 x1 l1 y1 z1 G7.out.leq G7.out.row
    generalize strOfNums l1 = S2 at *
    go_wp2
    go_ret
    exact ⟨rfl, BB.out⟩
  · have gf := (HM2.out.more w2w3.out).given (fr_byt hb0.out)
    obtain ⟨b, o, rfl, _⟩ := gf.cell 0 (by omega)
    obtain ⟨a5, r5, g5, n5'⟩ := sub_h (ao := some ⟨b, o, none⟩) (len := y0 + 3) (cap := c2) 1 1 rfl (by omega) gf.cap1
    have G5 := g5 _ _ gf
    have HU := unf_open none 0 [] l1 rfl HF1.out
    rw [fr_take1] at G5
    obtain ⟨l5, hl5⟩ : ∃ l5, ([2] : List Int) = l5 := ⟨_, rfl⟩
    have hll : l5.length = 1 := by rw [← hl5]; rfl
    have BY : Hid (Byt (l5 ++ frL l1)) := by unfold Hid; rw [← hl5]; exact byt_app (byt_c2 (fun x hx => by simp at hx)) BF1.out
    have HU : unf none 0 (l5 ++ frL l1) = some (l1, l5.length + (frL l1).length) := by rw [hll, ← hl5, HU]; rfl
    have BL : (l5 ++ frL l1).length ≤ 900 := app_len _ _ (by omega) (by rw [LG.out]; exact hn3)
    rw [hl5] at G5
    obtain ⟨n5, hn5⟩ : ∃ n5, 1 = n5 := ⟨_, rfl⟩
    rw [hn5] at hll G5 r5
    have R5 : Hid (RowAt w3 a5 l5) := G5.row
    have L5 : Hid (l5.length = n5) := hll
    have N5 : Hid (a5 = none → n5 = 0 ∧ c2 = 0) := fun e => by cases n5' e
    have RG : Hid (RowAt w3 a3 (frL l1)) := HM3.out.1.at
    have B4 := hid B3.out
    clear g5 gf G5 hl5 hll hn5 n5' HM2 HM3
    obtain ⟨e1, e2, e3⟩ := uf_some HU
    rw [List.length_append] at BL
    rw [L5.out, LG.out] at e2
    have U1 := hid e1
    have U2 := hid e2
    have U3 := hid e3
    have hcast : (n5 : Int) + (n3 : Int) = ((n5 + n3 : Nat) : Int) := by omega
    have BL' : n5 + n3 ≤ 900 := by rw [← L5.out, ← LG.out]; exact BL
    clear e1 e2 e3 HU BL
    generalize frL l1 = fl at *
    obtain ⟨s, hs⟩ : ∃ s, n5 + n3 = s := ⟨_, rfl⟩
    rw [hs] at hcast U2
    have hs' := hid hs
    clear hs
    have n5b : n5 ≤ 900 := by omega
    have n3b : n3 ≤ 900 := by omega
    have sb : s ≤ 900 := by have := hs'.out; omega
    go_upto_region 18 with (first
      | (go_at_call 19; have kill := D3.out; refine (unf19 _ _ _ _ _ (D3.out.given BY.out) (by omega)).mono ?_; rintro e w7 ⟨a7, n7, c7, rfl, m7⟩; rw [U2.out, U3.out]; rw [U1.out] at m7; have M7 := hid m7; clear m7 kill)
      | (at_builtin; have kill := R6.out; refine app_row (l2 := fl) D1.out.1 R6.out LG.out NG.out D1.out.2.size (by omega) rfl _ _ rfl rfl rfl ?_; intro a6 c6 w6 r6 t6; have D3 := hid (D1.out.next r6 t6); clear r6 t6 kill R6)
      | (at_builtin; have kill := R5.out; refine app_none (l2 := l5) R5.out L5.out N5.out (by omega) rfl _ _ rfl rfl rfl ?_; intro a8 c8 w8 m8; have D1 := hid m8; have R6 := hid (row_mono D1.out.2 RG.out); clear m8 kill R5))
    have BB : Hid (Below W.heap.size W w7) := sq (sq B4.out D3.out.2) M7.out.2
    have G7 := hid (H1.out.giv.below BB.out)
    have kc3 := run_str w7 a7 l1 n7 c7 M7.out.1.len M7.out.1.at
    have kc4 := run_str w7 x1 l1 y1 z1 G7.out.leq G7.out.row
    generalize strOfNums l1 = S2 at *
    go_wp2
    go_ret
    exact ⟨rfl, BB.out⟩
theorem wireBad_own : ownKnob Try.prog.godebug = none := by kernel_rfl
theorem wireBad_laid : laidOutB Try.prog = true := by kernel_rfl

set_option maxRecDepth 100000 in
set_option maxHeartbeats 1000000 in
theorem wireBad_lifted (os : Os) (started : os.Started) (H : Type) (enc : TypeId × Value → H) :
    ReturnsInHanded {} Try.checked os 7 .any (Rows.wireBadSpec.pre6 enc Try.prog Try.f7 Rows.wireBadRow.domain false) (Rows.wireBadSpec.post enc Try.prog Try.f7 false true false false) := by
  refine returnsInHanded_of_change (C := Try.checked) wireBad_own started (by kernel_rfl) Try.func7
    (ChangeSpec.witness6 (enc := enc) (C := Try.checked) false ⟨#[], #[.slice none 0 0, .slice none 0 0, .int .u8 0, .int .u8 0], []⟩ 8 (by kernel_rfl) (by kernel_rfl) (by kernel_rfl) (by kernel_rfl)) ?_
  intro W base args ds gs before hval0 hW hcnd _
  have hval : ∀ (j : Nat) t v, Try.f7.params[j]? = some t → args[j]? = some v → Value.okWide Try.prog W .any base t v := hval0
  have hW' := hW
  obtain ⟨p, q, hA0, hV, rfl, hfz, hnd⟩ := hW
  have hA : DataW.TrodAll enc Try.prog W 0 (fun _ => true) true Try.f7.params.toList args.toList ds p := hA0
  rw [Try.params7] at hA hval
  obtain ⟨v0, vs0, d0, ds0, p0, q0, hargs, rfl, rfl, h0, r0⟩ := trodAll_cons hA
  obtain ⟨v1, vs1, d1, ds1, p1, q1, rfl, rfl, rfl, h1, r1⟩ := trodAll_cons r0
  obtain ⟨v2, vs2, d2, ds2, p2, q2, rfl, rfl, rfl, h2, r2⟩ := trodAll_cons r1
  obtain ⟨v3, vs3, d3, ds3, p3, q3, rfl, rfl, rfl, h3, r3⟩ := trodAll_cons r2
  obtain ⟨rfl, rfl, rfl⟩ := trodAll_nil r3
  obtain rfl : args = #[v0, v1, v2, v3] := by cases args; simp_all
  obtain ⟨rfl, rfl⟩ := trodVars_none hV
  obtain ⟨x0, y0, z0, rfl⟩ := okWide_slice Try.underlying22 (hval 0 22 v0 rfl rfl)
  have k0 := h0
  have lt0 : ∀ x ∈ p0, x.block < W.heap.size := by obtain ⟨m, hm⟩ := k0; exact DataW.trod_lt m _ _ _ hm
  obtain ⟨a0, len0, cap0, l0, e0, w0⟩ : ∃ a len cap l, Value.slice x0 y0 z0 = .slice a len cap ∧ InB W a len cap l := by
    obtain ⟨fuel, hf⟩ := h0
    exact open_inB hf
  cases e0
  obtain ⟨x1, y1, z1, rfl⟩ := okWide_slice Try.underlying22 (hval 1 22 v1 rfl rfl)
  have k1 := h1
  have lt1 : ∀ x ∈ p1, x.block < W.heap.size := by obtain ⟨m, hm⟩ := k1; exact DataW.trod_lt m _ _ _ hm
  obtain ⟨a1, len1, cap1, l1, e1, w1⟩ : ∃ a len cap l, Value.slice x1 y1 z1 = .slice a len cap ∧ InB W a len cap l := by
    obtain ⟨fuel, hf⟩ := h1
    exact open_inB hf
  cases e1
  obtain ⟨a2, rfl, rfl, rfl, w2⟩ := open_int Try.underlying5 (hval 2 5 v2 rfl rfl) h2
  obtain ⟨a3, rfl, rfl, rfl, w3⟩ := open_int Try.underlying5 (hval 3 5 v3 rfl rfl) h3
  clear hA0 hval0
  refine (bad_walk x0 y0 z0 l0 x1 y1 z1 l1 a2 a3 W w0 w1 (by have := bounds_u8 w2; omega) (by have := bounds_u8 w3; omega)).mono fun e W' ⟨he, bel⟩ => ?_
  subst he
  exact ⟨_, rfl, _, _, _, [], _, [], hW', trodAll_mk1 (shut_bool Try.underlying4 _), (trodAll_cons_mk (Below.trod wireBad_laid (by kernel_rfl) (of_decide_eq_true (by kernel_rfl)) k0 bel lt0) (trodAll_cons_mk (Below.trod wireBad_laid (by kernel_rfl) (of_decide_eq_true (by kernel_rfl)) k1 bel lt1) (trodAll_cons_mk (shut_int Try.underlying5 w2) (trodAll_cons_mk (shut_int Try.underlying5 w3) trodAll_mk0)))), rfl, bel.frame _, fun h => by cases h⟩

theorem wireBad_over : Rows.wireBadRow.holds Try.pinned (OpenSpec.ofChange Rows.wireBadSpec) :=
  OpenClaim.holds_of_wide 7 Try.f7 rfl rfl rfl rfl rfl rfl rfl ⟨rfl, rfl, rfl, rfl, rfl⟩ rfl rfl rfl rfl rfl (by kernel_rfl) Try.func7 (by kernel_rfl)
    (of_decide_eq_true (by kernel_rfl)) (by unfold Func.isWrapper; first | (rw [if_pos (by decide +kernel)]; kernel_rfl) | (rw [if_neg (by decide +kernel)]; exact ⟨rfl, rfl⟩))
    (fun os started H enc _ => wireBad_lifted os started H enc)

/-- The statement. -/
theorem wireBad_holds : Rows.WireBadSaid := wireBad_over
#print axioms wireBad_holds
end Go.Proofs.Ytecfcfagpciccaa
