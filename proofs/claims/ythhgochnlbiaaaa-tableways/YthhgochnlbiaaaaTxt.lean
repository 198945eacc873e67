/- Text: the code's and the document's, by the same plain function. -/
import Derived.Test.YthhgochnlbiaaaaBld
import Derived.Test.YthhgochnlbiaaaaPar
import Derived.Test.YthhgochnlbiaaaaChk
namespace Go.Proofs.Ythhgochnlbiaaaa
open Go.ChangeShapes Go.WideShapes Go.ChangeAt Go.RowKit

def TxAns (w : World) (l : List St) (e : Ending) (w' : World) : Prop := e = .returned (.string (strOfNums (textL l))) ∧ Below w.heap.size w w'
theorem tx_no {w w' : World} {l : List St} (h : textL l = []) (hb : Below w.heap.size w w') : TxAns w l (.returned (.string ⟨#[]⟩)) w' := ⟨by rw [h]; rfl, hb⟩
theorem ok_s {l : List St} (h : OkT l) (k : Nat) : OkS (sAt l k) := ⟨(h k).1, ⟨(h k).2.2.2.1, (h k).2.2.2.2⟩, (h k).2.1, (h k).2.2.1⟩
theorem textX_byt {l : List St} (h : ∀ k, k < l.length → lineK (sAt l k) = true) : Byt (textX l) := by rw [← text_yes h]; exact textL_byt l
theorem takeS_all (l : List St) {k : Nat} (h : k = l.length) : l.take k = l := List.take_of_length_le (by omega)
set_option maxRecDepth 20000 in
set_option maxHeartbeats 8000000 in
theorem text13 (ao : Option Addr) (len cap : Nat) (l : List St) (w : World) (h : SG w ao len cap l) (hs : len ≤ 1000) (hok : OkT l) :
    Calls Try.prog 13 #[.slice ao len cap] w (TxAns w l) := by
  have hm : len ≤ 9223372036854775807 := by omega
  have HQ := hid h.leq
  have HG := hid h
  have HOK := hid hok
  clear h hok
  go_enter Try.func13, Try.ntmps13
  go_wp2_with (refine alB rfl rfl ?_; intro bb w1 h1 l1; have H1 := hid h1; have L1 := hid l1; clear h1 l1)
  go_loopw [10] (fun i wr => ∃ (k : Nat), k ≤ len ∧ i = .int .i64 (k : Int) ∧ HB w.heap.size bb (textX (l.take k)) wr ∧ (∀ j, j < k → lineK (sAt l j) = true) ∧ Below w.heap.size w wr) (fun i _ => len - (intOf i).toNat)
  case atStart => exact ⟨0, by omega, rfl, H1.out, fun _ h => by omega, L1.out⟩
  case round =>
    obtain ⟨k, hk, rfl, hb, hl, be⟩ := hrel
    have B1 := hid hb
    have LK := hid hl
    have E1 := hid be
    clear hb hl be H1 L1
    by_cases hlt : k < len
    · have hkl : k < l.length := by rw [HQ.out]; exact hlt
      have hget := sAt_get hkl
      have hsn := textX_snoc l k hkl
      have OS := hid (ok_s HOK.out k)
      obtain ⟨r, hr⟩ : ∃ r, sAt l k = r := ⟨_, rfl⟩
      rw [hr] at hget hsn OS
      obtain ⟨b, o, rfl, hc⟩ := (HG.out.below E1.out).at hget
      have HC := hid hc
      have HR := hid hr
      have HKL := hid hkl
      have HSN := hid hsn
      clear hc hget hr hkl hsn
      cases hkk : lineK r
      · have HF : Hid (textL l = []) := text_no HKL.out (by rw [HR.out]; exact hkk)
        have HK := hid hkk
        clear hkk
        go_wp2_with (first | (go_at_call 21; have kill := V4.out; refine (line21 r _ OS.out).mono ?_; rintro e w5 ⟨rfl, l5⟩; rw [HK.out]; have L5 := hid (sq L4.out l5); clear l5 kill V4 L4) | (have kill := V4.out; refine ld34 V4.out rfl _ rfl rfl ?_) | (have kill := V3.out; refine st34 (r := r) (w0 := wr) V3.out L3.out hb3 rfl _ _ rfl rfl rfl ?_; intro w4 v4 l4; have V4 := hid v4; have L4 := hid (sq E1.out l4); have B4 := hid (B1.out.below l4); clear v4 l4 kill V3 L3 B1) | (have kill := HC.out; refine ldS HC.out rfl _ rfl rfl ?_) | (have kill := B1.out; refine al34 rfl rfl ?_; intro b3 w3 hb3 v3 l3; have V3 := hid v3; have L3 := hid l3; clear v3 l3 kill))
        go_ret
        exact tx_no HF.out L5.out
      · have HK := hid hkk
        have HLS : Hid (lineS r = strOfNums (lineL r)) := line_yes hkk
        have HPL : Hid (panL (strOfNums (lineL r)) = lineL r) := panL_strN (lineL_byt (kind_byt (line_parts hkk).2.2.2))
        have HSZ : Hid ((textX (l.take k)).length + (strOfNums (lineL r)).size ≤ 1000000) := by unfold Hid; rw [textX_len, List.length_take, strOfNums_size, lineL_len]; omega
        have HLK : Hid (∀ j, j < k + 1 → lineK (sAt l j) = true) := upto (p := fun j => lineK (sAt l j) = true) LK.out (by rw [HR.out]; exact hkk)
        clear hkk
        go_wp2_with (first | (go_at_call 22; have kill := B5.out; refine (write22 w.heap.size bb _ (strOfNums (lineL r)) _ B5.out HSZ.out L5.out.size).mono ?_; rintro e w7 ⟨rfl, h7, l7⟩; rw [HPL.out] at h7; have B7 := hid h7; have L7 := hid (L5.out.trans l7); clear h7 l7 kill B5 L5) | (go_at_call 21; have kill := V4.out; refine (line21 r _ OS.out).mono ?_; rintro e w5 ⟨rfl, l5⟩; rw [HK.out, HLS.out]; have L5 := hid (sq L4.out l5); have B5 := hid (B4.out.below l5); clear l5 kill V4 L4 B4) | (have kill := V4.out; refine ld34 V4.out rfl _ rfl rfl ?_) | (have kill := V3.out; refine st34 (r := r) (w0 := wr) V3.out L3.out hb3 rfl _ _ rfl rfl rfl ?_; intro w4 v4 l4; have V4 := hid v4; have L4 := hid (sq E1.out l4); have B4 := hid (B1.out.below l4); clear v4 l4 kill V3 L3 B1) | (have kill := HC.out; refine ldS HC.out rfl _ rfl rfl ?_) | (have kill := B1.out; refine al34 rfl rfl ?_; intro b3 w3 hb3 v3 l3; have V3 := hid v3; have L3 := hid l3; clear v3 l3 kill))
        go_roundw
        case rel => exact ⟨k + 1, by omega, by go_num, by rw [HSN.out]; exact B7.out, HLK.out, L7.out⟩
        case measure => simp [intOf]; omega
    · obtain rfl : len = k := by omega
      have HT : Hid (textL l = textX l) := text_yes (fun j hj => LK.out j (by rw [HQ.out] at hj; exact hj))
      have HBY : Hid (Byt (textX l)) := textX_byt (fun j hj => LK.out j (by rw [HQ.out] at hj; exact hj))
      have B2 : Hid (HB w.heap.size bb (textX l) wr) := by have := B1.out; rw [takeS_all l HQ.out.symm] at this; exact this
      clear B1
      go_wp2_with (go_at_call 23; have kill := B2.out; refine (string23 w.heap.size bb (textX l) _ B2.out HBY.out E1.out.size).mono ?_; rintro e w5 ⟨rfl, l5⟩; have L9 := hid (E1.out.trans l5); clear l5 kill B2)
      go_ret
      exact ⟨by rw [HT.out]; rfl, L9.out⟩
set_option maxRecDepth 20000 in
set_option maxHeartbeats 8000000 in
theorem text14 (ao : Option Addr) (len cap : Nat) (l : List St) (w : World) (h : SG w ao len cap l) (hs : len ≤ 1000) (hok : OkT l) :
    Calls Try.prog 14 #[.slice ao len cap] w (TxAns w l) := by
  have hm : len ≤ 9223372036854775807 := by omega
  have HQ := hid h.leq
  have HG := hid h
  have HOK := hid hok
  clear h hok
  go_enter Try.func14, Try.ntmps14
  go_wp2
  go_loopw [3, 4] (fun x i wr => ∃ (k : Nat), k ≤ len ∧ i = .int .i64 (k : Int) ∧ x = .string (strOfNums (textX (l.take k))) ∧ (∀ j, j < k → lineK (sAt l j) = true) ∧ Below w.heap.size w wr) (fun _ i _ => len - (intOf i).toNat)
  case atStart => exact ⟨0, by omega, rfl, rfl, fun _ h => by omega, Below.refl _ _⟩
  case round =>
    obtain ⟨k, hk, rfl, rfl, hl, be⟩ := hrel
    have LK := hid hl
    have E1 := hid be
    clear hl be
    by_cases hlt : k < len
    · have hkl : k < l.length := by rw [HQ.out]; exact hlt
      have hget := sAt_get hkl
      have hsn := textX_snoc l k hkl
      have OS := hid (ok_s HOK.out k)
      obtain ⟨r, hr⟩ : ∃ r, sAt l k = r := ⟨_, rfl⟩
      rw [hr] at hget hsn OS
      obtain ⟨b, ob, rfl, hc⟩ := (HG.out.below E1.out).at hget
      have c0 : wr.cell? ⟨b, ob + k * 4, none⟩ = some (.int .i64 r.id) := hc 0 _ rfl
      have c1 : wr.cell? ⟨b, ob + k * 4 + 1, none⟩ = some (.int .u8 r.kind) := hc 1 _ rfl
      have c2 : wr.cell? ⟨b, ob + k * 4 + 2, none⟩ = some (.int .i64 r.next) := hc 2 _ rfl
      have c3 : wr.cell? ⟨b, ob + k * 4 + 3, none⟩ = some (.int .i64 r.other) := hc 3 _ rfl
      have hstr : strOfNums (textX (l.take (k + 1))) = strOfNums (textX (l.take k)) ++ strOfNums (lineL r) := by rw [hsn, strN_app]
      have hTs : (strOfNums (textX (l.take k))).size ≤ 14000 := by rw [strOfNums_size, textX_len, List.length_take]; omega
      obtain ⟨T, hT⟩ : ∃ T, strOfNums (textX (l.take k)) = T := ⟨_, rfl⟩
      rw [hT] at hstr hTs ⊢
      have HR := hid hr
      have HKL := hid hkl
      have HNO : Hid (lineK r = false → textL l = []) := fun e => text_no HKL.out (by rw [HR.out]; exact e)
      obtain ⟨i, kd, n, oo⟩ := r
      have HI : Hid (i ≤ 9223372036854775807) := Int.le_of_lt_add_one OS.out.1.2
      have HN : Hid (n ≤ 9223372036854775807) := Int.le_of_lt_add_one OS.out.2.2.1.2
      have HO : Hid (oo ≤ 9223372036854775807) := Int.le_of_lt_add_one OS.out.2.2.2.2
      have hline : lineK ⟨i, kd, n, oo⟩ = (digOk i 3 && digOk n 3 && digOk oo 3 && kindB kd) := rfl
      clear hc hget hr hkl hsn hT
      have K1 : Hid True := trivial
      cases h1 : digOk i 3
      · have HF := hid (HNO.out (by rw [hline, h1]; rfl))
        have H1 := hid h1
        clear hline h1 HNO
        go_wp2_with (first | (go_at_call 24; have kill := K3.out; refine (digits11 _ _ _ HO.out).mono ?_; rintro e wd ⟨rfl, rfl⟩; have K4 : Hid True := trivial; clear kill K3) | (go_at_call 24; have kill := K2.out; refine (digits11 _ _ _ HN.out).mono ?_; rintro e wd ⟨rfl, rfl⟩; have K3 : Hid True := trivial; clear kill K2) | (go_at_call 24; have kill := K1.out; refine (digits11 _ _ _ HI.out).mono ?_; rintro e wd ⟨rfl, rfl⟩; rw [H1.out]; have K2 : Hid True := trivial; clear kill K1))
        go_ret
        exact tx_no HF.out E1.out
      cases h2 : digOk n 3
      · have HF := hid (HNO.out (by rw [hline, h1, h2]; rfl))
        have H1 := hid h1
        have H2 := hid h2
        clear hline h1 h2 HNO
        go_wp2_with (first | (go_at_call 24; have kill := K3.out; refine (digits11 _ _ _ HO.out).mono ?_; rintro e wd ⟨rfl, rfl⟩; have K4 : Hid True := trivial; clear kill K3) | (go_at_call 24; have kill := K2.out; refine (digits11 _ _ _ HN.out).mono ?_; rintro e wd ⟨rfl, rfl⟩; rw [H2.out]; have K3 : Hid True := trivial; clear kill K2) | (go_at_call 24; have kill := K1.out; refine (digits11 _ _ _ HI.out).mono ?_; rintro e wd ⟨rfl, rfl⟩; rw [H1.out]; have K2 : Hid True := trivial; clear kill K1))
        go_ret
        exact tx_no HF.out E1.out
      cases h3 : digOk oo 3
      · have HF := hid (HNO.out (by rw [hline, h1, h2, h3]; rfl))
        have H1 := hid h1
        have H2 := hid h2
        have H3 := hid h3
        clear hline h1 h2 h3 HNO
        go_wp2_with (first | (go_at_call 24; have kill := K3.out; refine (digits11 _ _ _ HO.out).mono ?_; rintro e wd ⟨rfl, rfl⟩; rw [H3.out]; have K4 : Hid True := trivial; clear kill K3) | (go_at_call 24; have kill := K2.out; refine (digits11 _ _ _ HN.out).mono ?_; rintro e wd ⟨rfl, rfl⟩; rw [H2.out]; have K3 : Hid True := trivial; clear kill K2) | (go_at_call 24; have kill := K1.out; refine (digits11 _ _ _ HI.out).mono ?_; rintro e wd ⟨rfl, rfl⟩; rw [H1.out]; have K2 : Hid True := trivial; clear kill K1))
        go_ret
        exact tx_no HF.out E1.out
      cases h4 : kindB kd
      · have HF := hid (HNO.out (by rw [hline, h1, h2, h3, h4]; rfl))
        have H1 := hid h1
        have H2 := hid h2
        have H3 := hid h3
        have H4 := hid h4
        clear hline h1 h2 h3 h4 HNO
        go_wp2_with (first | (go_at_call 25; have kill := K4.out; refine (kind25 kd _).mono ?_; rintro e wk ⟨rfl, rfl⟩; rw [H4.out]; have K5 : Hid True := trivial; clear kill K4) | (go_at_call 24; have kill := K3.out; refine (digits11 _ _ _ HO.out).mono ?_; rintro e wd ⟨rfl, rfl⟩; rw [H3.out]; have K4 : Hid True := trivial; clear kill K3) | (go_at_call 24; have kill := K2.out; refine (digits11 _ _ _ HN.out).mono ?_; rintro e wd ⟨rfl, rfl⟩; rw [H2.out]; have K3 : Hid True := trivial; clear kill K2) | (go_at_call 24; have kill := K1.out; refine (digits11 _ _ _ HI.out).mono ?_; rintro e wd ⟨rfl, rfl⟩; rw [H1.out]; have K2 : Hid True := trivial; clear kill K1))
        go_ret
        exact tx_no HF.out E1.out
      have HT : Hid (lineK ⟨i, kd, n, oo⟩ = true) := by unfold Hid; rw [hline, h1, h2, h3, h4]; rfl
      have e1 := dig3_yes h1
      have e2 := dig3_yes h2
      have e3 := dig3_yes h3
      obtain ⟨D1, hd1⟩ : ∃ D, digS i 3 = D := ⟨_, rfl⟩
      obtain ⟨D2, hd2⟩ : ∃ D, digS n 3 = D := ⟨_, rfl⟩
      obtain ⟨D3, hd3⟩ : ∃ D, digS oo 3 = D := ⟨_, rfl⟩
      rw [hd1] at e1
      rw [hd2] at e2
      rw [hd3] at e3
      have z1 := e1.2
      have z2 := e2.2
      have z3 := e3.2
      obtain ⟨KS, hks⟩ : ∃ D, strOfNums [kd] = D := ⟨_, rfl⟩
      have zk : KS.size = 1 := by rw [← hks, strOfNums_size]; rfl
      have HX : Hid (T ++ D1 ++ ⟨#[32]⟩ ++ KS ++ ⟨#[32]⟩ ++ D2 ++ ⟨#[32]⟩ ++ D3 ++ ⟨#[10]⟩ = strOfNums (textX (l.take (k + 1)))) := by
        unfold Hid; rw [hstr, ← line_cat ⟨i, kd, n, oo⟩, e1.1, e2.1, e3.1, ← hks]; simp only [ByteArray.append_assoc]
      have HLK : Hid (∀ j, j < k + 1 → lineK (sAt l j) = true) := upto (p := fun j => lineK (sAt l j) = true) LK.out (by rw [HR.out]; exact HT.out)
      have H1 := hid h1
      have H2 := hid h2
      have H3 := hid h3
      have H4 := hid h4
      have HD1 := hid hd1
      have HD2 := hid hd2
      have HD3 := hid hd3
      have HKS := hid hks
      clear hline h1 h2 h3 h4 e1 e2 e3 hd1 hd2 hd3 hks hstr HNO
      go_wp2_with (first | (have kill := K6.out; refine cvK R6.out rfl rfl _ rfl rfl ?_; rw [HKS.out]; have L7 := hid L6.out; clear kill K6 L6) | (have kill := K5.out; refine bsK rfl _ rfl rfl ?_; intro b6 w6 r6 l6; have R6 := hid r6; have L6 := hid (sq E1.out l6); have K6 : Hid True := trivial; clear r6 l6 kill K5) | (go_at_call 25; have kill := K4.out; refine (kind25 kd _).mono ?_; rintro e wk ⟨rfl, rfl⟩; rw [H4.out]; have K5 : Hid True := trivial; clear kill K4) | (go_at_call 24; have kill := K3.out; refine (digits11 _ _ _ HO.out).mono ?_; rintro e wd ⟨rfl, rfl⟩; rw [H3.out]; rw [HD3.out]; have K4 : Hid True := trivial; clear kill K3) | (go_at_call 24; have kill := K2.out; refine (digits11 _ _ _ HN.out).mono ?_; rintro e wd ⟨rfl, rfl⟩; rw [H2.out]; rw [HD2.out]; have K3 : Hid True := trivial; clear kill K2) | (go_at_call 24; have kill := K1.out; refine (digits11 _ _ _ HI.out).mono ?_; rintro e wd ⟨rfl, rfl⟩; rw [H1.out]; rw [HD1.out]; have K2 : Hid True := trivial; clear kill K1))
      go_roundw
      case rel => exact ⟨k + 1, by omega, by go_num, by rw [← HX.out], HLK.out, L7.out⟩
      case measure => simp [intOf]; omega
    · obtain rfl : len = k := by omega
      have HT : Hid (textL l = textX l) := text_yes (fun j hj => LK.out j (by rw [HQ.out] at hj; exact hj))
      rw [takeS_all l HQ.out.symm]
      go_wp2
      go_ret
      exact ⟨by rw [HT.out]; rfl, E1.out⟩
end Go.Proofs.Ythhgochnlbiaaaa
