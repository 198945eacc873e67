/- The chapter's example. -/
import Derived.Test.YtbipikbefokihaaDoorReadC
import Derived.Test.YtbipikbefokihaaDoorEq
import Derived.Lib.SlBytesConst
namespace Go.Proofs.YtbipikbefokihaaDoor
open Go.ChangeShapes Go.WideShapes Go.ChangeAt Go.RowKit

theorem bdKT0 {ops : Array Oper} {rest : List Oper} {op : Oper} {a : Act} {w : World} {Q : Exit → Act → World → Prop} {k t : Int} {r : Ms} (he : ({ Ms.of k with term := t } : Ms) = r) (hgd : op.guard = none) (x y : Operand) (ho : op.op = .build 27 #[(0, x), (1, y)]) (hx : a.eval x = .int .i64 k) (hy : a.eval y = .int .u16 t)
    (h : wpList Tryd.prog ops Q rest (a.put op.dst r.val) w) : wpList Tryd.prog ops Q (op :: rest) a w :=
  wpList_plain hgd fun K hK => by
    subst he
    have hz0 := zero27 w
    unfold Oper.wp execOp
    simp only [ho, List.map_toArray, List.map_cons, List.map_nil, hx, hy]
    simp [Instr.build, hz0, go_sem, Ms.val, Ms.cells, Ms.zero]
    exact hK _ _ h
def exM : Ms := { Ms.of 3 with term := 3 }
def exL : List Int := [49, 50, 28, 51]
theorem ex_right : rightL exM = true := by kernel_rfl
theorem ex_put : putL exM = exL := by
  have h3 : decS 3 = ⟨#[51]⟩ := by rw [decS_small (v := 3) (by omega) (by omega)]; kernel_rfl
  have hp : partsL exM = [⟨#[49, 50]⟩, decS 3] := rfl
  have e : jX (pans [⟨#[49, 50]⟩, ⟨#[51]⟩]) = exL := by kernel_rfl
  unfold putL
  rw [if_pos ex_right, hp, h3]
  exact e
theorem ex_e : putE exM = 0 := by unfold putE; rw [if_pos ex_right]
theorem ex_read : rdM exL = exM ∧ rdE exL = 0 := by
  have h := read_back ex_right
  rw [ex_put] at h
  exact rd_some h
theorem ex_byt : Byt exL := by unfold Byt exL; decide
theorem ex_ok : exM.Ok := ⟨⟨by show (0 : Int) ≤ 3; omega, by show (3 : Int) < 65536; omega⟩, by show (0 : Int) ≤ 0; omega, by show (0 : Int) < 4294967296; omega⟩
theorem ex_pan : exM.pan.size ≤ 9223372036854775807 := by decide
theorem ex_none : rdM [57, 57] = Ms.zero ∧ rdE [57, 57] = 23 := rd_none (by kernel_rfl)
theorem byt_99 : Byt [57, 57] := by unfold Byt; decide
theorem zero_not : rightL Ms.zero = false := by kernel_rfl
theorem zero_Ok : Ms.zero.Ok := ⟨⟨by show (0 : Int) ≤ 0; omega, by show (0 : Int) < 65536; omega⟩, by show (0 : Int) ≤ 0; omega, by show (0 : Int) < 4294967296; omega⟩
theorem zero_pan : Ms.zero.pan.size ≤ 9223372036854775807 := by decide
theorem str_ex : strOfNums exL = ⟨#[49, 50, 28, 51]⟩ := by kernel_rfl
theorem ex_same (w : World) : (binOp .eql 27 exM.val exM.val).run Tryd.prog w = .ok (.bool true) w := by
  have h := (gbin exM exM w).1
  simpa using h
set_option maxHeartbeats 4000000 in
theorem known7 (w : World) (ht : Tab w) : Calls Tryd.prog 7 #[] w fun e w' => e = .returned (.bool true) ∧ Below w.heap.size w w' := by
  obtain ⟨r, hr⟩ : ∃ r, exM = r := ⟨_, rfl⟩
  have HT := hid ht
  have HRT : Hid (rightL r = true) := by rw [← hr]; exact ex_right
  have HOK : Hid r.Ok := by rw [← hr]; exact ex_ok
  have HPZ : Hid (r.pan.size ≤ 9223372036854775807) := by rw [← hr]; exact ex_pan
  have HPL : Hid (putL r = exL) := by rw [← hr]; exact ex_put
  have HPE : Hid (putE r = 0) := by rw [← hr]; exact ex_e
  have HRD : Hid (rdM exL = r ∧ rdE exL = 0) := by rw [← hr]; exact ex_read
  have HNN := hid ex_none
  have HZN := hid zero_not
  have HZP := hid zero_pan
  have hrv : Hid (({ Ms.of 3 with term := 3 } : Ms) = r) := hr
  have qg := fun x y w => (eqg27 r r x y w).1
  have qb : ∀ w, (binOp .eql 27 r.val r.val).run Tryd.prog w = .ok (.bool true) w := by rw [← hr]; exact ex_same
  have kc := fun (w : World) (C : Array Value) (n c : Nat) => Lib.run_convert_bytes_const (P := Tryd.prog) w 31 5 C n c Tryd.underlying31 Tryd.underlying5
  have HSX := hid str_ex
  clear hr ht
  go_enter Tryd.func7, Tryd.ntmps7
  go_wp2_with (first | (go_at_call 11; have kill := L19.out; refine (right11 Ms.zero _ zero_Ok HZP.out).mono ?_; rintro e w20 ⟨rfl, l20⟩; rw [HZN.out]; have L20 := hid (sq L19.out l20); clear l20 kill L19) | (have kill := L19.out; refine bdw27 rfl (by kernel_rfl) ?_) | (go_at_call 11; have kill := V18.out; refine (right11 r _ HOK.out HPZ.out).mono ?_; rintro e w19 ⟨rfl, l19⟩; rw [HRT.out]; have L19 := hid (sq L18.out l19); clear l19 kill V18 L18) | (have kill := X18.out; refine ldw27 X18.out _ rfl (by kernel_rfl) rfl ?_) | (have kill := V18.out; refine ldw27 V18.out _ rfl (by kernel_rfl) rfl ?_) | (have kill := Y15.out; refine st27 (r := Ms.zero) Y15.out Z15.out hb15 rfl _ _ rfl rfl rfl ?_; intro w16 v16 l16; have L18 := hid (sq L14.out l16); have V18 := hid (V14.out.below l16); have X18 := hid (X14.out.below l16); have D18 := hid (D14.out.more l16); have hcv := run_str w16 a10 exL n10 c10 D18.out.1.len D18.out.1.at; rw [HSX.out] at hcv; clear v16 l16 kill Y15 Z15 L14 V14 X14 D14) | (refine al27 rfl rfl ?_; have kill := X14.out; intro b15 w15 hb15 v15 l15; have Y15 := hid v15; have Z15 := hid l15; clear v15 l15 kill) | (go_at_call 13; have kill := X13.out; refine (read13 _ _ _ [57, 57] _ (Given.newF w13 _ 2 (2, 3) rfl (by omega) byt_99) (by omega)).mono ?_; rintro e w14 ⟨rfl, l14⟩; rw [HNN.out.1, HNN.out.2]; have b13 := sq (bel1 w13 (.cells (cellsOf [57, 57]) 5 (2, 3))) l14; have L14 := hid (sq L13.out b13); have V14 := hid (V13.out.below b13); have X14 := hid (X13.out.below b13); have D14 := hid (D13.out.more b13); clear l14 b13 kill L13 V13 X13 D13) | (have kill := X12.out; refine st27 (r := r) X12.out Z12.out hb12 rfl _ _ rfl rfl rfl ?_; intro w13 v13 l13; have L13 := hid (sq L11.out l13); have V13 := hid (V11.out.below l13); have D13 := hid (D11.out.more l13); have X13 := hid v13; clear v13 l13 kill X12 Z12 L11 V11 D11) | (refine al27 rfl rfl ?_; have kill := D11.out; intro b12 w12 hb12 v12 l12; have X12 := hid v12; have Z12 := hid l12; clear v12 l12 kill) | (go_at_call 13; have kill := D10.out; refine (read13 _ _ _ exL _ (D10.out.given ex_byt) (by have := D10.out.1.len; unfold exL at this; simp at this; omega)).mono ?_; rintro e w11 ⟨rfl, l11⟩; rw [HRD.out.1, HRD.out.2]; have L11 := hid (sq L10.out l11); have V11 := hid (V10.out.below l11); have D11 := hid (D10.out.more l11); clear l11 kill D10 V10 L10) | (go_at_call 9; have kill := V3.out; refine (put9 r _ HOK.out HPZ.out (HT.out.below L3.out)).mono ?_; rintro e w10 ⟨a10, n10, c10, rfl, d10⟩; rw [HPL.out] at d10; rw [HPE.out]; have D10 := hid d10; have L10 := hid (sq L3.out d10.2); have V10 := hid (V3.out.below d10.2); clear d10 kill V3 L3) | (have kill := V3.out; refine ld27 V3.out rfl _ rfl rfl ?_) | (have kill := V2.out; refine st27 (r := r) V2.out L2.out hb2 rfl _ _ rfl rfl rfl ?_; intro w3 v3 l3; have V3 := hid v3; have L3 := hid l3; clear v3 l3 kill V2 L2) | (refine al27 rfl rfl ?_; intro b2 w2 hb2 v2 l2; have V2 := hid v2; have L2 := hid l2; clear v2 l2) | (refine bdKT0 hrv.out rfl _ _ rfl rfl rfl ?_))
  go_ret
  exact ⟨rfl, L20.out⟩
end Go.Proofs.YtbipikbefokihaaDoor
