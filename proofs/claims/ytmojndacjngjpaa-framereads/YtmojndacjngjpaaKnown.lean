/- The chapter's example. -/
import Derived.Test.YtmojndacjngjpaaEqs
import Derived.Lib.SlBytesConst
namespace Go.Proofs.Ytmojndacjngjpaa
open Go.ChangeShapes Go.WideShapes Go.ChangeAt Go.RowKit

theorem Mk.given {W0 w : World} {ao : Option Addr} {n cap : Nat} {l : List Int} (h : Mk W0 w (.slice ao n cap) n l) (hb : Byt l) : Given w ao n cap l :=
  ⟨h.1.len, hb, h.1.at, h.1.caps.2.1, h.1.caps.2.2⟩
theorem put_given {W0 w : World} {ao : Option Addr} {n cap : Nat} {r : Rc} (h : Mk W0 w (.slice ao n cap) n (putL r)) (hr : rightB r = true) : Given w ao n cap (putL r) := h.given (putL_byt (rt_of hr).size)
theorem Given.new (w : World) (l : List Int) (n : Nat) (hn : l.length = n) (hm : n ≤ 1000000) (hb : Byt l) : Given (w.alloc (.cells (cellsOf l) 5)) (some ⟨w.heap.size, 0, none⟩) n n l := (Mk.new w l n hn hm).given hb
theorem Given.newF (w : World) (l : List Int) (n : Nat) (fr : Nat × Nat) (hn : l.length = n) (hm : n ≤ 1000000) (hb : Byt l) : Given (w.alloc (.cells (cellsOf l) 5 fr)) (some ⟨w.heap.size, 0, none⟩) n n l :=
  ⟨hn, hb, .inr ⟨_, _, rfl, fun i hi => by
    have := heap_alloc_new w (.cells (cellsOf l) 5 fr)
    rw [Nat.zero_add, World.cell?]
    simp only [this]
    simp [cellsOf, hi]⟩, Nat.le_refl _, by omega⟩
theorem crc_nine : crcL [49, 50, 51, 52, 53, 54, 55, 56, 57] = 3808858755 := by kernel_rfl
theorem byt_nine : Byt [49, 50, 51, 52, 53, 54, 55, 56, 57] := by unfold Byt; decide
theorem byt_a5 : Byt [165] := by unfold Byt; decide
theorem err_a5 : errX [165] = 23 ∧ recX [165] = Rc.zero ∧ lenX [165] = 0 := err23a (by decide)
theorem zero_not : rightB Rc.zero = false := by decide
set_option maxHeartbeats 2000000 in
theorem known8 (w : World) : Calls Try.prog 8 #[] w fun e w' => e = .returned (.bool true) ∧ Below w.heap.size w w' := by
  obtain ⟨r, hr⟩ : ∃ r, seatR 0 1 2 300 = r := ⟨_, rfl⟩
  have HR := hid hr
  have HT : Hid (rightB r = true) := by unfold Hid; rw [← hr]; exact seat_right (by decide) (by decide) (by decide) (by decide)
  have HO : Hid r.Ok := by unfold Hid; rw [← hr]; exact seat_ok
  obtain ⟨n, hn⟩ : ∃ n, 42 + r.pan.size = n := ⟨_, rfl⟩
  have HN := hid hn
  have hp := (rt_of HT.out).size
  have hn1 : n ≤ 61 := by omega
  have HPS := hid (show r.pan.size ≤ 9223372036854775807 by omega)
  have HX : Hid (errX (putL r) = 0 ∧ recX (putL r) = r ∧ lenX (putL r) = (n : Int)) := by
    have := back0 HT.out HO.out
    rw [putL_len, hn] at this
    exact this
  have HA := hid err_a5
  have HC := hid crc_nine
  have qg := fun x y w => (eqg29 r r x y w).1
  have qb := fun w => (bin29 r w).1
  have kc := fun (w : World) (C : Array Value) (n c : Nat) => Lib.run_convert_bytes_const (P := Try.prog) w 30 5 C n c Try.underlying30 Try.underlying5
  clear hr hn hp
  go_enter Try.func8, Try.ntmps8
  go_wp2_with (first | (go_at_call 12; have R18 := V18.out.lt; refine (right_any Rc.zero _ (by decide)).mono ?_; rintro e w19 ⟨rfl, l19⟩; rw [zero_not]; have L19 := hid (sq L18.out l19); clear l19 R18) | (go_at_call 12; refine (right_any r _ HPS.out).mono ?_; rintro e w18 ⟨rfl, l18⟩; rw [HT.out]; have L18 := hid (sq L17.out l18); have V18 := hid (V17.out.below l18); clear l18) | (go_at_call 15; refine (sum_gv (zs := [49, 50, 51, 52, 53, 54, 55, 56, 57]) (Given.newF w16 _ 9 (9, 10) rfl (by omega) byt_nine)).mono ?_; rintro e w' ⟨rfl, rfl⟩; rw [HC.out]; have L17 := hid (sq L16.out (bel1 w16 (.cells (cellsOf [49, 50, 51, 52, 53, 54, 55, 56, 57]) 5 (9, 10)))); have V17 := hid (V16.out.below (bel1 w16 (.cells (cellsOf [49, 50, 51, 52, 53, 54, 55, 56, 57]) 5 (9, 10)))); have X17 := hid (X16.out.below (bel1 w16 (.cells (cellsOf [49, 50, 51, 52, 53, 54, 55, 56, 57]) 5 (9, 10))))) | (refine st29 (r := Rc.zero) Y15.out L15z.out hb15 rfl _ _ rfl rfl rfl ?_; intro w16 v16 l16; have L16 := hid (sq L14.out l16); have V16 := hid (V14.out.below l16); have X16 := hid (X14.out.below l16); clear v16 l16) | (refine al29 rfl rfl ?_; intro b15 w15 hb15 v15 l15; have G := V14; have Y15 := hid v15; have L15z := hid l15; clear v15 l15 G) | (go_at_call 14; refine (read_any (zs := [165]) (Given.new w13 _ 1 rfl (by omega) byt_a5)).mono ?_; rintro e w14 ⟨rfl, l14⟩; rw [HA.out.1, HA.out.2.1, HA.out.2.2]; have b13 := sq (bel1 w13 (.cells (cellsOf [165]) 5)) l14; have L14 := hid (sq L13.out b13); have V14 := hid (V13.out.below b13); have X14 := hid (X13.out.below b13); clear l14 b13) | (refine st29 (r := r) X12.out L12z.out hb12 rfl _ _ rfl rfl rfl ?_; intro w13 v13 l13; have L13 := hid (sq L11.out l13); have V13 := hid (V11.out.below l13); have X13 := hid v13; clear v13 l13) | (refine al29 rfl rfl ?_; intro b12 w12 hb12 v12 l12; have G := V11; have X12 := hid v12; have L12z := hid l12; clear v12 l12 G) | (go_at_call 14; refine (read_any (put_given D10.out HT.out)).mono ?_; rintro e w11 ⟨rfl, l11⟩; rw [HX.out.1, HX.out.2.1, HX.out.2.2]; have L11 := hid (sq L10.out l11); have V11 := hid (V10.out.below l11); clear l11) | (go_at_call 10; refine (put_yes r _ HT.out HO.out n HN.out).mono ?_; rintro e w10 ⟨ao10, cap10, rfl, d10⟩; have D10 := hid d10; have L10 := hid (sq L3.out d10.2); have V10 := hid (V3.out.below d10.2); clear d10) | refine ld29 V3.out rfl _ rfl rfl ?_ | (refine st29 (r := r) V2.out L2.out hb2 rfl _ _ rfl rfl rfl ?_; intro w3 v3 l3; have V3 := hid v3; have L3 := hid (sq L1.out l3); clear v3 l3) | (refine al29 rfl rfl ?_; intro b2 w2 hb2 v2 l2; have V2 := hid v2; have L2 := hid l2; clear v2 l2) | (go_at_call 9; refine (rec9 0 1 2 300 _ (by decide) (by decide) (by decide) (by decide) (by decide) (by decide) (by decide) (by decide)).mono ?_; rintro e w1 ⟨rfl, l1⟩; rw [HR.out]; have L1 := hid l1; clear l1) | refine ldw29 X17.out _ rfl (by kernel_rfl) rfl ?_ | refine ldw29 V17.out _ rfl (by kernel_rfl) rfl ?_ | refine bdw29 rfl (by kernel_rfl) ?_)
  go_ret
  exact ⟨rfl, L19.out⟩
end Go.Proofs.Ytmojndacjngjpaa
