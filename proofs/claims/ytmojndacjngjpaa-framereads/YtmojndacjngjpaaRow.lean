/- FrameRow: records that stand one behind another are read one by one, and a cut one ends that. For every input. -/
import Derived.Test.YtmojndacjngjpaaCats
namespace Go.Proofs.Ytmojndacjngjpaa
open Go.ChangeShapes Go.WideShapes Go.ChangeAt Go.RowKit

def rowR (ks : List Int) (k : Int) (i : Nat) : Rc := seatR (ks.getD i 0) k ((i : Int) % 256) (k + (i : Int))
theorem row_right {ks : List Int} {k : Int} (k0 : 0 ≤ k) (k1 : k < 256) (i : Nat) : rightB (rowR ks k i) = true := seat_right k0 k1 (by omega) (by omega)
theorem row_size {ks : List Int} {k : Int} (k0 : 0 ≤ k) (k1 : k < 256) (i : Nat) : (rowR ks k i).pan.size ≤ 19 := (rt_of (row_right k0 k1 i)).size
theorem Given.cut {w : World} {b o len cap : Nat} {l : List Int} (h : Given w (some ⟨b, o, none⟩) len cap l) (c : Nat) (hc : c ≤ len) : Given w (some ⟨b, o, none⟩) c cap (l.take c) := by
  have hl := h.leq
  have h1 := h.cap1
  refine ⟨by rw [List.length_take]; omega, byt_take h.byt c, ?_, by omega, h.cap2⟩
  have := h.row.piece 0 c (by omega)
  simpa [pc] using this
theorem Given.tail {w : World} {b o len cap : Nat} {l : List Int} (h : Given w (some ⟨b, o, none⟩) len cap l) (i : Nat) : Given w (some ⟨b, o + i, none⟩) (len - i) (cap - i) (l.drop i) :=
  ⟨by rw [List.length_drop, h.leq], byt_drop h.byt i, h.row.tail i, by have := h.cap1; omega, by have := h.cap2; omega⟩
/-- Where each record ends. -/
def endL (R : Nat → Rc) (m : Nat) : List Int := (List.range m).map fun i => (lnL R (i + 1) : Int)
theorem end_succ (R : Nat → Rc) (m : Nat) : endL R (m + 1) = endL R m ++ [(lnL R (m + 1) : Int)] := by simp [endL, List.range_succ]
theorem end_get (R : Nat → Rc) {i m : Nat} (h : i < m) : (endL R m).getD i 0 = (lnL R (i + 1) : Int) := by simp [endL, h]

set_option maxRecDepth 10000 in
set_option maxHeartbeats 2000000 in
theorem row_walk (a0 : Option Addr) (N cap0 : Nat) (ks : List Int) (k cut : Int) (w : World) (h0 : InB w a0 N cap0 ks) (hk : 0 ≤ k ∧ k < 256) (hc : 0 ≤ cut ∧ cut < 65536) (h20 : N ≤ 20) :
    Calls Try.prog 6 #[.slice a0 N cap0, .int .u8 k, .int .u16 cut] w fun e w' => e = .returned (.bool true) ∧ Below w.heap.size w w' := by
  obtain ⟨k0, k1⟩ := hk
  obtain ⟨c0, c1⟩ := hc
  obtain ⟨R, hR⟩ : ∃ R, rowR ks k = R := ⟨_, rfl⟩
  have HRR : Hid (∀ i, rightB (R i) = true) := by unfold Hid; rw [← hR]; exact row_right k0 k1
  have HRO : Hid (∀ i, (R i).Ok) := by unfold Hid; rw [← hR]; exact fun i => seat_ok
  have HRS : Hid (∀ i, (R i).pan.size ≤ 19) := by unfold Hid; rw [← hR]; exact row_size k0 k1
  have HR : Hid (∀ i, seatR (ks.getD i 0) k ((i : Int) % 256) (k + (i : Int)) = R i) := by unfold Hid; rw [← hR]; exact fun i => rfl
  have G0 := hid h0
  have HLK := hid h0.giv.leq
  have HBK := hid h0.giv.byt
  have i1 : (N : Int) ≤ 20 := by omega
  have i2 : ¬ (20 : Int) < (N : Int) := by omega
  clear hR h0
  go_enter Try.func6, Try.ntmps6
  go_wp2_with (go_at_call 8; refine (known8 _).mono ?_; rintro e w1 ⟨rfl, l1⟩; have L1 := hid l1; clear l1)
  go_loopw [7, 8, 9] (fun all ends i wr => ∃ (m : Nat) (ao : Option Addr) (cap : Nat) (ae : Option Addr) (ce : Nat), m ≤ N ∧ i = .int .i64 (m : Int) ∧ all = .slice ao (lnL R m) cap ∧ ends = .slice ae m ce ∧ Mk w wr (.slice ao (lnL R m) cap) (lnL R m) (catL R m) ∧ RowI w.heap.size wr (.slice ae m ce) m (endL R m)) (fun _ _ i _ => N - (intOf i).toNat)
  case atStart => exact ⟨0, none, 0, none, 0, by omega, rfl, rfl, rfl, ⟨(Row.nil _ _), L1.out⟩, RowI.nil _ _⟩
  case round =>
    obtain ⟨m, ao, cap, ae, ce, hm, rfl, rfl, rfl, hD, hE⟩ := hrel
    have D := hid hD
    have E := hid hE
    clear hD hE
    have hbd := ln_bd HRS.out m
    by_cases hlt : m < N
    · obtain ⟨b, o, rfl⟩ := G0.out.giv.row.some (by rw [HLK.out]; omega)
      have ck : wr.cell? ⟨b, o + m, none⟩ = some (.int .u8 (ks.getD m 0)) := by
        rcases (row_mono D.out.2 G0.out.giv.row) with h | ⟨b', o', e, h⟩
        · have := HLK.out; rw [h] at this; simp at this; omega
        · cases e; exact h m (by rw [HLK.out]; omega)
      have hkb := byt_getD HBK.out m
      have HRm := hid (HR.out m)
      generalize ks.getD m 0 = x at *
      obtain ⟨x0, x1⟩ := hkb
      have j1 : (0 : Int) ≤ (m : Int) := by omega
      have j2 : (m : Int) < (N : Int) := by omega
      have j3 : IntKind.u16.wrap (k + (m : Int)) = k + (m : Int) := by rw [IntKind.wrap_u16]; omega
      have j4 : IntKind.u8.wrap (m : Int) = (m : Int) := by rw [IntKind.wrap_u8]; omega
      have j5 : (m : Int) % 256 = (m : Int) := by omega
      have HRm' : Hid (seatR x k (m : Int) (k + (m : Int)) = R m) := by have := HRm.out; rw [j5] at this; exact hid this
      have hsz := HRS.out m
      obtain ⟨n, hn⟩ : ∃ n, 42 + (R m).pan.size = n := ⟨_, rfl⟩
      have HN := hid hn
      have HE1 : Hid (lnL R (m + 1) = lnL R m + n) := by unfold Hid; rw [ln_succ, putL_len, hn]
      have hn1 : n ≤ 61 := by omega
      clear hn hsz HRm
      generalize lnL R m = LM at *
      go_wp2_with (first | (at_builtin; refine app_int (z := ((LM + n : Nat) : Int)) (E4.out.below (bel1 w4 (.cells #[.int .i64 ((LM + n : Nat) : Int)] 3))) (by have := D4.out.2.size; simp; omega) (by omega) rfl _ _ rfl rfl w4.heap.size rfl (cell_of_head (heap_alloc_new w4 _) 0) ?_; intro ae5 ce5 w5 e5 t5; have E5 := hid e5; have D5 := hid (D4.out.more (bel1 w4 (.cells #[.int .i64 ((LM + n : Nat) : Int)] 3))); have T5 := hid t5; clear e5 t5) | (at_builtin; refine app_row D3.out.1 R3.out (by rw [putL_len]; exact HN.out) N3.out D3.out.2.size (by omega) rfl _ _ rfl rfl rfl ?_; intro ao4 cap4 w4 r4 t4; have D4 := hid (D3.out.next r4 t4); have E4 := hid (E3.out.turned D3.out.1 t4); clear r4 t4) | (go_at_call 10; refine (put_yes (R m) _ (HRR.out m) (HRO.out m) n HN.out).mono ?_; rintro e w3 ⟨ao3, cap3, rfl, d3⟩; have D3 := hid ((D.out.more l2.out).more d3.2); have E3 := hid ((E.out.below l2.out).below d3.2); have R3 := hid d3.1.at; have N3 := hid d3.1.caps.1; clear d3) | (go_at_call 9; refine (rec9 x k (m : Int) (k + (m : Int)) _ x0 x1 k0 k1 (by omega) (by omega) (by omega) (by omega)).mono ?_; rintro e w2 ⟨rfl, l2'⟩; rw [HRm'.out]; have l2 := hid l2'; clear l2'))
      go_roundw
      case rel =>
        refine ⟨m + 1, ao4, cap4, ae5, ce5, by omega, by go_num, by rw [HE1.out], rfl, ?_, ?_⟩
        · rw [HE1.out]
          exact ⟨D5.out.1.turned (E4.out.below (bel1 w4 _)) T5.out, D5.out.2.trans (T5.out.below (fun k e => (E4.out.below (bel1 w4 (.cells #[.int .i64 ((LM + n : Nat) : Int)] 3))).blk k e) D5.out.2.size)⟩
        · rw [end_succ, HE1.out]
          first | exact E5.out | (rw [show ((LM + n : Nat) : Int) = (LM : Int) + (n : Int) by omega]; exact E5.out)
      case measure => simp [intOf]; omega
    · have em : m = N := by omega
      subst em
      have hlen := D.out.1.len
      obtain ⟨q1, q2, q3⟩ := D.out.1.caps
      obtain ⟨LN, hLN⟩ : ∃ LN, lnL R m = LN := ⟨_, rfl⟩
      obtain ⟨c, hc⟩ : ∃ c : Nat, cut % ((LN : Int) + 1) = (c : Int) := ⟨(cut % ((LN : Int) + 1)).toNat, by have := Int.emod_nonneg cut (b := (LN : Int) + 1) (by omega); omega⟩
      have hc' : cut.tmod ((LN : Int) + 1) = (c : Int) := by rw [Int.tmod_eq_emod_of_nonneg c0, hc]
      have hcl : c ≤ LN := by have := Int.emod_lt_of_pos cut (b := (LN : Int) + 1) (by omega); omega
      rw [hLN] at D q1 q2 hlen hbd
      have HLN := hid hLN
      cases ao with
      | none =>
        obtain ⟨rfl, rfl⟩ := q1 rfl
        have hm0 : m = 0 := by omega
        subst hm0
        have hc0 : c = 0 := by omega
        subst hc0
        rw [hLN]
        clear hLN
        have DB := hid D.out.2
        go_wp2
        generalize wr = wa at *
        go_loopw [12, 13] (fun att i wr => i = .int .i64 0 ∧ att = .int .i64 0 ∧ Below wa.heap.size wa wr) (fun _ _ _ => 0)
        case atStart => exact ⟨rfl, rfl, Below.refl _ _⟩
        case round =>
          obtain ⟨rfl, rfl, hB⟩ := hrel
          go_wp2
          go_ret
          exact ⟨rfl, sq DB.out hB⟩
      | some ad =>
        have i3 : (c : Int) ≤ (cap : Int) := by omega
        rw [hLN]
        clear hLN
        obtain ⟨g, rfl⟩ : ∃ g, ad = ⟨g, 0, none⟩ := by
          rcases D.out.1.2 with ⟨e, _⟩ | ⟨g, _, _, e, _⟩
          · cases e
          · cases e; exact ⟨g, rfl⟩
        have GA : Hid (Given wr (some ⟨g, 0, none⟩) c cap ((catL R m).take c)) := hid ((D.out.given (cat_byt HRS.out m)).cut c hcl)
        have DB := hid D.out.2
        go_wp2
        generalize wr = wa at *
        go_loopw [12, 13] (fun att i wr => ∃ (j : Nat), j ≤ m ∧ i = .int .i64 (j : Int) ∧ att = .int .i64 (lnL R j : Int) ∧ lnL R j ≤ c ∧ Below wa.heap.size wa wr) (fun _ i _ => m - (intOf i).toNat)
        case atStart => exact ⟨0, by omega, rfl, rfl, by simp [lnL, catL], Below.refl _ _⟩
        case round =>
          obtain ⟨j, hj, rfl, rfl, hA, hB⟩ := hrel
          have LB := hid hB
          clear hB
          by_cases hjm : j < m
          · obtain ⟨b, o, rfl⟩ := G0.out.giv.row.some (by rw [HLK.out]; omega)
            have ck : ∀ w', Below wa.heap.size wa w' → w'.cell? ⟨b, o + j, none⟩ = some (.int .u8 (ks.getD j 0)) := by
              intro w' hb
              rcases (row_mono (sq DB.out hb) G0.out.giv.row) with h | ⟨b', o', e, h⟩
              · have := HLK.out; rw [h] at this; simp at this; omega
              · cases e; exact h j (by rw [HLK.out]; omega)
            obtain ⟨ge, rfl, _⟩ := E.out.cell 0 (by omega)
            have ce1 : ∀ w', Below wa.heap.size wa w' → w'.cell? ⟨ge, j, none⟩ = some (.int .i64 (lnL R (j + 1) : Int)) := by
              intro w' hb
              obtain ⟨ge', e, hc⟩ := (E.out.below hb).cell j hjm
              cases e; rw [hc, end_get R hjm]
            have hln := ln_succ R j
            have hle := ln_le R hjm
            rw [HLN.out] at hle
            have hpl := putL_len (R j)
            have KC := hid ck
            have KE := hid ce1
            have hkb := byt_getD HBK.out j
            have HRm : Hid (seatR (ks.getD j 0) k (j : Int) (k + (j : Int)) = R j) := by have := HR.out j; rw [show (j : Int) % 256 = (j : Int) by omega] at this; exact hid this
            clear ck ce1
            generalize ks.getD j 0 = x at *
            obtain ⟨x0, x1⟩ := hkb
            have j1 : (0 : Int) ≤ (j : Int) := by omega
            have j2 : (j : Int) < (m : Int) := by omega
            have j3 : IntKind.u16.wrap (k + (j : Int)) = k + (j : Int) := by rw [IntKind.wrap_u16]; omega
            have j4 : IntKind.u8.wrap (j : Int) = (j : Int) := by rw [IntKind.wrap_u8]; omega
            have j5 : IntKind.u16.wrap (j : Int) = (j : Int) := by rw [IntKind.wrap_u16]; omega
            have j6 : IntKind.u16.wrap k = k := by rw [IntKind.wrap_u16]; omega
            obtain ⟨A, hAe⟩ : ∃ A, lnL R j = A := ⟨_, rfl⟩
            obtain ⟨B1, hBe⟩ : ∃ B1, lnL R (j + 1) = B1 := ⟨_, rfl⟩
            have j7 : (0 : Int) ≤ (A : Int) := by omega
            have j8 : (A : Int) ≤ (c : Int) := by omega
            have j9 : ¬ cap = A := by omega
            have j10 : (A : Int) ≤ (cap : Int) := by omega
            have GT : Hid (∀ w', Below wa.heap.size wa w' → Given w' (some ⟨g, A, none⟩) (c - A) (cap - A) (((catL R m).take c).drop A)) := hid fun w' hb => by have := (GA.out.below hb).tail A; rwa [Nat.zero_add] at this
            by_cases hcut : c < lnL R (j + 1)
            · obtain ⟨y1, y2⟩ := seg_no (R := R) hjm hA hcut
              rw [hAe] at y1 y2
              have Y1 := hid y1
              have Y2 := hid y2
              rw [hAe] at hA
              rw [hBe] at KE hcut
              rw [hAe]
              have j11 : (c : Int) < (B1 : Int) := by omega
              clear hln hpl y1 y2 hAe hBe
              go_wp2_with (first | (refine st29 (r := _) V5.out L5.out hb5 rfl _ _ rfl rfl rfl ?_; intro w6 v6 l6; have L6 := hid (sq L4.out l6); have ce6 := KE.out w6 (sq L4.out l6); clear v6 l6) | (refine al29 rfl rfl ?_; intro b5 w5 hb5 v5 l5; have V5 := hid v5; have L5 := hid l5; clear v5 l5) | (go_at_call 14; refine (read_any (GT.out _ LB.out)).mono ?_; rintro e w4 ⟨rfl, l4⟩; rw [Y1.out, Y2.out]; have L4 := hid (sq LB.out l4); clear l4))
              go_ret
              exact ⟨rfl, sq DB.out L6.out⟩
            · obtain ⟨y1, y2, y3⟩ := seg_yes (R := R) hjm (by omega : lnL R (j + 1) ≤ c) (HRR.out j) (HRO.out j)
              rw [hAe] at y1 y2 y3
              obtain ⟨n, hn⟩ : ∃ n, (putL (R j)).length = n := ⟨_, rfl⟩
              rw [hn] at y3 hln
              have Y1 := hid y1
              have Y2 := hid y2
              have Y3 := hid y3
              rw [hAe] at hA
              rw [hAe, hBe] at hln
              rw [hBe] at KE hcut
              have HB1 := hid hBe
              rw [hAe]
              have j11 : ¬ (c : Int) < (B1 : Int) := by omega
              have j12 : (A : Int) + (n : Int) = (B1 : Int) := by omega
              have qg := fun u v w => (eqg29 (R j) (R j) u v w).2
              have qb := fun w => (bin29 (R j) w).2
              have j13 : n ≤ 100000 := by have := (ln_bd HRS.out m).2; omega
              have HLQ := hid hln
              clear hpl y1 y2 y3 hAe hBe hn hln
              go_wp2_with (first | (refine st29 (r := R j) V5.out L5.out hb5 rfl _ _ rfl rfl rfl ?_; intro w6 v6 l6; have V6 := hid v6; have L6 := hid (sq L4.out l6); have ce6 := KE.out w6 (sq L4.out l6); have C6 := hid (KC.out w6 (sq L4.out l6)); clear v6 l6) | (refine al29 rfl rfl ?_; intro b5 w5 hb5 v5 l5; have V5 := hid v5; have L5 := hid l5; clear v5 l5) | (go_at_call 14; refine (read_any (GT.out _ LB.out)).mono ?_; rintro e w4 ⟨rfl, l4⟩; rw [Y1.out, Y2.out, Y3.out]; have L4 := hid (sq LB.out l4); clear l4))
              refine wp_region_noPanic ?_
              refine wp_region_held_drew (S := (fun w' => w'.rangeAt b5 0 (R j).cells ∧ w'.cell? ⟨b, o + j, none⟩ = some (.int .u8 x))) (by kernel_rfl) (⟨V6.out.at0, C6.out⟩) (fun hHeld => ?_)
              (refine tk_yes (v := ?_) 0 (some 90) rfl rfl (by kernel_rfl) (by kernel_rfl) (by kernel_rfl) (fun _ _ _ h => h) (by rfl) ?_ hHeld ?_; rotate_left; focus (intro w hSw; go_simp; try with_reducible rfl))
              simp only [Act.put, List.setIfInBounds_toArray, List.set_cons_zero, List.set_cons_succ]
              (refine tk_yes (v := ?_) 1 (some 91) rfl rfl (by kernel_rfl) (by kernel_rfl) (by kernel_rfl) (fun _ _ _ h => h) (by rfl) ?_ hHeld ?_; rotate_left; focus (intro w hSw; go_simp; try with_reducible rfl))
              simp only [Act.put, List.setIfInBounds_toArray, List.set_cons_zero, List.set_cons_succ]
              (refine tk_yes (v := ?_) 2 (some 92) rfl rfl (by kernel_rfl) (by kernel_rfl) (by kernel_rfl) (fun _ _ _ h => h) (by rfl) ?_ hHeld ?_; rotate_left; focus (intro w hSw; go_simp; try with_reducible rfl))
              simp only [Act.put, List.setIfInBounds_toArray, List.set_cons_zero, List.set_cons_succ]
              refine tk_rec 3 (some 93) (R j) rfl rfl (by kernel_rfl) (by kernel_rfl) (by kernel_rfl) (fun _ _ _ h => h) (by rfl) _ rfl rfl (fun w h => h.1) hHeld ?_
              simp only [Act.put, List.setIfInBounds_toArray, List.set_cons_zero, List.set_cons_succ]
              (refine tk_yes (v := ?_) 4 (some 94) rfl rfl (by kernel_rfl) (by kernel_rfl) (by kernel_rfl) (fun _ _ _ h => h) (by rfl) ?_ hHeld ?_; rotate_left; focus (intro w hSw; go_simp; try with_reducible rfl))
              simp only [Act.put, List.setIfInBounds_toArray, List.set_cons_zero, List.set_cons_succ]
              (refine tk_yes (v := ?_) 5 (some 95) rfl rfl (by kernel_rfl) (by kernel_rfl) (by kernel_rfl) (fun _ _ _ h => h) (by rfl) ?_ hHeld ?_; rotate_left; focus (intro w hSw; go_simp; try with_reducible rfl))
              simp only [Act.put, List.setIfInBounds_toArray, List.set_cons_zero, List.set_cons_succ]
              (refine tk_yes (v := ?_) 6 (some 96) rfl rfl (by kernel_rfl) (by kernel_rfl) (by kernel_rfl) (fun _ _ _ h => h) (by rfl) ?_ hHeld ?_; rotate_left; focus (intro w hSw; go_simp; try with_reducible rfl))
              simp only [Act.put, List.setIfInBounds_toArray, List.set_cons_zero, List.set_cons_succ]
              (refine tk_yes (v := ?_) 7 (some 97) rfl rfl (by kernel_rfl) (by kernel_rfl) (by kernel_rfl) (fun _ _ _ h => h) (by rfl) ?_ hHeld ?_; rotate_left; focus (intro w hSw; go_simp; try with_reducible rfl))
              simp only [Act.put, List.setIfInBounds_toArray, List.set_cons_zero, List.set_cons_succ]
              (refine tk_yes (v := ?_) 8 (some 98) rfl rfl (by kernel_rfl) (by kernel_rfl) (by kernel_rfl) (fun _ _ _ h => h) (by rfl) ?_ hHeld ?_; rotate_left; focus (intro w hSw; go_simp; try with_reducible rfl))
              simp only [Act.put, List.setIfInBounds_toArray, List.set_cons_zero, List.set_cons_succ]
              (refine tk_yes (v := ?_) 9 (some 99) rfl rfl (by kernel_rfl) (by kernel_rfl) (by kernel_rfl) (fun _ _ _ h => h) (by rfl) ?_ hHeld ?_; rotate_left; focus (intro w hSw; go_simp; try with_reducible rfl))
              simp only [Act.put, List.setIfInBounds_toArray, List.set_cons_zero, List.set_cons_succ]
              (refine tk_yes (v := ?_) 10 (some 100) rfl rfl (by kernel_rfl) (by kernel_rfl) (by kernel_rfl) (fun _ _ _ h => h) (by rfl) ?_ hHeld ?_; rotate_left; focus (intro w hSw; go_simp; try with_reducible rfl))
              simp only [Act.put, List.setIfInBounds_toArray, List.set_cons_zero, List.set_cons_succ]
              (refine tk_yes (v := ?_) 11 (some 101) rfl rfl (by kernel_rfl) (by kernel_rfl) (by kernel_rfl) (fun _ _ _ h => h) (by rfl) ?_ hHeld ?_; rotate_left; focus (intro w hSw; go_simp; try with_reducible rfl))
              simp only [Act.put, List.setIfInBounds_toArray, List.set_cons_zero, List.set_cons_succ]
              (refine tk_yes (v := ?_) 12 (some 102) rfl rfl (by kernel_rfl) (by kernel_rfl) (by kernel_rfl) (fun _ _ _ h => h) (by rfl) ?_ hHeld ?_; rotate_left; focus (intro w hSw; go_simp; try with_reducible rfl))
              simp only [Act.put, List.setIfInBounds_toArray, List.set_cons_zero, List.set_cons_succ]
              (refine tk_yes (v := ?_) 13 (some 103) rfl rfl (by kernel_rfl) (by kernel_rfl) (by kernel_rfl) (fun _ _ _ h => h) (by rfl) ?_ hHeld ?_; rotate_left; focus (intro w hSw; go_simp; try with_reducible rfl))
              simp only [Act.put, List.setIfInBounds_toArray, List.set_cons_zero, List.set_cons_succ]
              (refine tk_yes (v := ?_) 14 (some 104) rfl rfl (by kernel_rfl) (by kernel_rfl) (by kernel_rfl) (fun _ _ _ h => h) (by rfl) ?_ hHeld ?_; rotate_left; focus (intro w hSw; go_simp; try with_reducible rfl))
              simp only [Act.put, List.setIfInBounds_toArray, List.set_cons_zero, List.set_cons_succ]
              (refine tk_yes (v := ?_) 15 (some 105) rfl rfl (by kernel_rfl) (by kernel_rfl) (by kernel_rfl) (fun _ _ _ h => h) (by rfl) ?_ hHeld ?_; rotate_left; focus (intro w hSw; go_simp; try with_reducible rfl))
              simp only [Act.put, List.setIfInBounds_toArray, List.set_cons_zero, List.set_cons_succ]
              refine wpAnyH_ready (rs := [16]) (by kernel_rfl) (by simp) ?_
              refine AllReadyH.cons rfl (fun K hK => ?_) AllReadyH.nil
              go_simp
              go_at_call 9
              refine (rec9 x k (j : Int) (k + (j : Int)) _ x0 x1 k0 k1 (by omega) (by omega) (by omega) (by omega)).mono ?_
              rintro e w7 ⟨rfl, l7⟩
              rw [HRm.out]
              have b7 := sq (Below.refl _ w6).drew l7
              have L7 := hid (sq L6.out b7)
              have V7 := hid (V6.out.below b7)
              clear l7 b7
              go_wp2_with fail
              refine hK.out _ _ (⟨V7.out.at0, KC.out w7 L7.out⟩) (fun hHeld => ?_)
              clear hK K
              try simp only [Act.put, List.setIfInBounds_toArray, List.set_cons_zero, List.set_cons_succ]
              (refine tk_yes (v := ?_) 17 (some 107) rfl rfl (by kernel_rfl) (by kernel_rfl) (by kernel_rfl) (fun _ _ _ h => h) (by rfl) ?_ hHeld ?_; rotate_left; focus (intro w hSw; go_simp; try with_reducible rfl))
              simp only [Act.put, List.setIfInBounds_toArray, List.set_cons_zero, List.set_cons_succ]
              (refine tk_yes (v := ?_) 18 (some 108) rfl rfl (by kernel_rfl) (by kernel_rfl) (by kernel_rfl) (fun _ _ _ h => h) (by rfl) ?_ hHeld ?_; rotate_left; focus (intro w hSw; go_simp; try with_reducible rfl))
              simp only [Act.put, List.setIfInBounds_toArray, List.set_cons_zero, List.set_cons_succ]
              refine wpAnyH_done (by kernel_rfl) ?_ _
              refine NoPanic.normal ?_
              clear hHeld ce6 qg qb j3 j4 j5 j6 j9 j10 j13
              have ce7 := KE.out w7 L7.out
              have j14 : (B1 : Int) ≤ 100000 := by have := (ln_bd HRS.out m).2; have := HLN.out; omega
              go_wp2
              go_roundw
              case rel => exact ⟨j + 1, by omega, by go_num, by rw [HB1.out]; try rfl, by rw [HB1.out]; omega, L7.out⟩
              case measure => simp [intOf]; omega
          · have ej : j = m := by omega
            subst ej
            rw [HLN.out] at hA
            have ec : LN = c := by omega
            rw [HLN.out]
            subst ec
            go_wp2
            go_ret
            exact ⟨rfl, sq DB.out LB.out⟩
set_option maxRecDepth 10000 in
set_option maxHeartbeats 1000000 in
theorem row_long (a0 : Option Addr) (N cap0 : Nat) (k cut : Int) (w : World) (h20 : ¬ N ≤ 20) :
    Calls Try.prog 6 #[.slice a0 N cap0, .int .u8 k, .int .u16 cut] w fun e w' => e = .returned (.bool true) ∧ Below w.heap.size w w' := by
  have i2 : (20 : Int) < (N : Int) := by omega
  go_enter Try.func6, Try.ntmps6
  go_wp2_with (go_at_call 8; refine (known8 _).mono ?_; rintro e w1 ⟨rfl, l1⟩; have L1 := hid l1; clear l1)
  go_ret
  exact ⟨rfl, L1.out⟩
theorem row_any (a0 : Option Addr) (N cap0 : Nat) (ks : List Int) (k cut : Int) (w : World) (h0 : InB w a0 N cap0 ks) (hk : 0 ≤ k ∧ k < 256) (hc : 0 ≤ cut ∧ cut < 65536) :
    Calls Try.prog 6 #[.slice a0 N cap0, .int .u8 k, .int .u16 cut] w fun e w' => e = .returned (.bool true) ∧ Below w.heap.size w w' := by
  by_cases h20 : N ≤ 20
  · exact row_walk a0 N cap0 ks k cut w h0 hk hc h20
  · exact row_long a0 N cap0 k cut w h20
theorem frameRow_own : ownKnob Try.prog.godebug = none := by kernel_rfl
theorem frameRow_laid : laidOutB Try.prog = true := by kernel_rfl

set_option maxRecDepth 100000 in
theorem frameRow_lifted (os : Os) (started : os.Started) (H : Type) (enc : TypeId × Value → H) :
    ReturnsInHanded {} Try.checked os 6 .any (Rows.frameRowSpec.pre6 enc Try.prog Try.f6 Rows.frameRowRow.domain false) (Rows.frameRowSpec.post enc Try.prog Try.f6 false true false false) := by
  refine returnsInHanded_of_change (C := Try.checked) frameRow_own started (by kernel_rfl) Try.func6
    (ChangeSpec.witness6 (enc := enc) (C := Try.checked) false ⟨#[], #[.slice none 0 0, .int .u8 0, .int .u16 0], []⟩ 8 (by kernel_rfl) (by kernel_rfl) (by kernel_rfl) (by kernel_rfl)) ?_
  intro W base args ds gs before hval0 hW hcnd _
  have hval : ∀ (j : Nat) t v, Try.f6.params[j]? = some t → args[j]? = some v → Value.okWide Try.prog W .any base t v := hval0
  have hW' := hW
  obtain ⟨p, q, hA0, hV, rfl, hfz, hnd⟩ := hW
  have hA : DataW.TrodAll enc Try.prog W 0 (fun _ => true) true Try.f6.params.toList args.toList ds p := hA0
  rw [Try.params6] at hA hval
  obtain ⟨v0, vs0, d0, ds0, p0, q0, hargs, rfl, rfl, h0, r0⟩ := trodAll_cons hA
  obtain ⟨v1, vs1, d1, ds1, p1, q1, rfl, rfl, rfl, h1, r1⟩ := trodAll_cons r0
  obtain ⟨v2, vs2, d2, ds2, p2, q2, rfl, rfl, rfl, h2, r2⟩ := trodAll_cons r1
  obtain ⟨rfl, rfl, rfl⟩ := trodAll_nil r2
  obtain rfl : args = #[v0, v1, v2] := by cases args; simp_all
  obtain ⟨rfl, rfl⟩ := trodVars_none hV
  obtain ⟨x0, y0, z0, rfl⟩ := okWide_slice Try.underlying30 (hval 0 30 v0 rfl rfl)
  have k0 := h0
  have lt0 : ∀ x ∈ p0, x.block < W.heap.size := by obtain ⟨m, hm⟩ := k0; exact DataW.trod_lt m _ _ _ hm
  obtain ⟨a0, len0, cap0, l0, e0, w0⟩ : ∃ a len cap l, Value.slice x0 y0 z0 = .slice a len cap ∧ InB W a len cap l := by
    obtain ⟨fuel, hf⟩ := h0
    exact open_inB hf
  cases e0
  obtain ⟨a1, rfl, rfl, rfl, w1⟩ := open_int Try.underlying5 (hval 1 5 v1 rfl rfl) h1
  obtain ⟨a2, rfl, rfl, rfl, w2⟩ := open_int Try.underlying22 (hval 2 22 v2 rfl rfl) h2
  clear hA0 hval0
  refine (row_any x0 y0 z0 l0 a1 a2 W w0 (by have := bounds_u8 w1; omega) (by have := bounds_u16 w2; omega)).mono fun e W' ⟨he, bel⟩ => ?_
  subst he
  exact ⟨_, rfl, _, _, _, [], _, [], hW', trodAll_mk1 (shut_bool Try.underlying4 _), (trodAll_cons_mk (Below.trod frameRow_laid (by kernel_rfl) (of_decide_eq_true (by kernel_rfl)) k0 bel lt0) (trodAll_cons_mk (shut_int Try.underlying5 w1) (trodAll_cons_mk (shut_int Try.underlying22 w2) trodAll_mk0))), rfl, bel.frame _, fun h => by cases h⟩

theorem frameRow_over : Rows.frameRowRow.holds Try.pinned (OpenSpec.ofChange Rows.frameRowSpec) :=
  OpenClaim.holds_of_wide 6 Try.f6 rfl rfl rfl rfl rfl rfl rfl ⟨rfl, rfl, rfl, rfl, rfl⟩ rfl rfl rfl rfl rfl (by kernel_rfl) Try.func6 (by kernel_rfl)
    (of_decide_eq_true (by kernel_rfl)) (by unfold Func.isWrapper; first | (rw [if_pos (by decide +kernel)]; kernel_rfl) | (rw [if_neg (by decide +kernel)]; exact ⟨rfl, rfl⟩))
    (fun os started H enc _ => frameRow_lifted os started H enc)

/-- The statement. -/
theorem frameRow_holds : Rows.FrameRowSaid := frameRow_over
#print axioms frameRow_holds
end Go.Proofs.Ytmojndacjngjpaa
