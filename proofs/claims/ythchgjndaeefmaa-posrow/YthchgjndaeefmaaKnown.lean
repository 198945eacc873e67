/- The chapter's example. -/
import Derived.Test.YthchgjndaeefmaaEq
namespace Go.Proofs.Ythchgjndaeefmaa
open Go.ChangeShapes Go.WideShapes Go.ChangeAt Go.RowKit

theorem bdE25 {ops : Array Oper} {rest : List Oper} {op : Oper} {a : Act} {w : World} {Q : Exit → Act → World → Prop} {r0 r : Ps} (he : r0 = r) (hgd : op.guard = none) (x0 x1 x2 x3 : Operand) (ho : op.op = .build 25 #[(0, x0), (1, x1), (2, x2), (3, x3)]) (h0 : a.eval x0 = .int .u16 r0.term) (h1 : a.eval x1 = .int .u32 r0.seq) (h2 : a.eval x2 = .string r0.pan) (h3 : a.eval x3 = .int .i64 r0.amt)
    (h : wpList Try.prog ops Q rest (a.put op.dst r.val) w) : wpList Try.prog ops Q (op :: rest) a w := by
  subst he
  exact bdP25 hgd x0 x1 x2 x3 ho h0 h1 h2 h3 h
def exP : Ps := ⟨3, 4, ⟨#[53, 49]⟩, 600⟩
theorem ex_right : rightL exP = true := by kernel_rfl
theorem ex_ok : exP.Ok := ⟨⟨by show (0 : Int) ≤ 3; omega, by show (3 : Int) < 65536; omega⟩, by show (0 : Int) ≤ 4; omega, by show (4 : Int) < 4294967296; omega⟩
theorem ex_pan : exP.pan.size ≤ 9223372036854775807 := by decide
theorem ex_none : rdP [120] = Ps.zero ∧ ((ufN [120] : Nat) : Int) = 0 ∧ rdE [120] = 23 := by
  have h : ufB [120] = false := by kernel_rfl
  exact ⟨(rd_none h).1, by rw [uf_0 h]; rfl, (rd_none h).2⟩
theorem byt_120 : Byt [120] := by unfold Byt; decide
theorem zero_not : rightL Ps.zero = false := by kernel_rfl
theorem zero_pan : Ps.zero.pan.size ≤ 9223372036854775807 := by decide
open Classical in
theorem val_same (r : Ps) (w : World) : (binOp .eql 25 r.val r.val).run Try.prog w = .ok (.bool true) w := by
  have h := (gbin r r w).1
  simpa using h
set_option maxHeartbeats 4000000 in
theorem known6 (w : World) : Calls Try.prog 6 #[] w fun e w' => e = .returned (.bool true) ∧ Below w.heap.size w w' := by
  obtain ⟨r, hr⟩ : ∃ r, exP = r := ⟨_, rfl⟩
  have HRT : Hid (rightL r = true) := by rw [← hr]; exact ex_right
  have HOK : Hid r.Ok := by rw [← hr]; exact ex_ok
  have HPZ : Hid (r.pan.size ≤ 9223372036854775807) := by rw [← hr]; exact ex_pan
  have HPE : Hid (putE r = 0) := putE_yes HRT.out
  obtain ⟨L, hL⟩ : ∃ L, putL r = L := ⟨_, rfl⟩
  have HPL := hid hL
  have HBY : Hid (Byt L) := by rw [← hL]; exact putL_byt r
  have HRD : Hid (rdP L = r ∧ rdE L = 0 ∧ ufN L = L.length) := by rw [← hL]; exact read_back HOK.out HRT.out
  have HLL : Hid (L.length ≤ 900000) := by unfold Hid; rw [← hL, putL_len HRT.out]; have := (right_parts HRT.out).p2; omega
  have HNN := hid ex_none
  have HZN := hid zero_not
  have HZP := hid zero_pan
  have hrv : Hid (exP = r) := hr
  have qg := fun x y w => (eqg25 r r x y w).1
  have qb := val_same r
  have kc := fun (w : World) (C : Array Value) (n c : Nat) => Lib.run_convert_bytes_const (P := Try.prog) w 26 5 C n c Try.underlying26 Try.underlying5
  clear hr hL
  go_enter Try.func6, Try.ntmps6
  go_wp2_with (first | (go_at_call 10; have kill := L12.out; refine (right10 Ps.zero _ HZP.out).mono ?_; rintro e w13 ⟨rfl, l13⟩; rw [HZN.out]; have L13 := hid (sq L12.out l13); clear l13 kill L12) | (have kill := L12.out; refine bdw25 rfl (by kernel_rfl) ?_) | (go_at_call 10; have kill := V11.out; refine (right10 r _ HPZ.out).mono ?_; rintro e w12 ⟨rfl, l12⟩; rw [HRT.out]; have L12 := hid (sq L11.out l12); clear l12 kill V11 L11) | (have kill := X11.out; refine ldw25 X11.out _ rfl (by kernel_rfl) rfl ?_) | (have kill := V11.out; refine ldw25 V11.out _ rfl (by kernel_rfl) rfl ?_) | (have kill := Y10.out; refine st25 (r := Ps.zero) Y10.out Z10.out hb10 rfl _ _ rfl rfl rfl ?_; intro w11 v11 l11; have L11 := hid (sq L9.out l11); have V11 := hid (V9.out.below l11); have X11 := hid (X9.out.below l11); clear v11 l11 kill Y10 Z10 L9 V9 X9) | (have kill := X9.out; refine al25 rfl rfl ?_; intro b10 w10 hb10 v10 l10; have Y10 := hid v10; have Z10 := hid l10; clear v10 l10 kill) | (go_at_call 12; have kill := X8.out; refine (read12 _ _ _ [120] _ (Given.newF w8 _ 1 (1, 2) rfl (by omega) byt_120) (by omega)).mono ?_; rintro e w9 ⟨rfl, l9⟩; rw [HNN.out.1, HNN.out.2.1, HNN.out.2.2]; have k9 := sq (bel1 w8 (.cells (cellsOf [120]) 5 (1, 2))) l9; have L9 := hid (sq L8.out k9); have V9 := hid (V8.out.below k9); have X9 := hid (X8.out.below k9); clear l9 k9 kill L8 V8 X8) | (have kill := X5.out; refine st25 (r := r) X5.out Y5.out hb5 rfl _ _ rfl rfl rfl ?_; intro w8 v8 l8; have L8 := hid (sq L4.out l8); have V8 := hid (V4.out.below l8); have X8 := hid v8; clear v8 l8 kill X5 Y5 L4 V4) | (have kill := V4.out; refine al25 rfl rfl ?_; intro b5 w5 hb5 v5 l5; have X5 := hid v5; have Y5 := hid l5; clear v5 l5 kill) | (go_at_call 12; have kill := D3.out; have hn : ufN L = n3 := HRD.out.2.2.trans D3.out.1.len; refine (read12 _ _ _ L _ (D3.out.given HBY.out) (by have := D3.out.1.len; have := HLL.out; omega)).mono ?_; rintro e w4 ⟨rfl, l4⟩; rw [HRD.out.1, HRD.out.2.1, hn]; have L4 := hid (sq L3.out l4); have V4 := hid (V3.out.below l4); clear l4 kill D3 L3 V3 hn) | (go_at_call 8; have kill := V2.out; refine (put8 r _ HOK.out HPZ.out).mono ?_; rintro e w3 ⟨a3, n3, c3, rfl, d3⟩; rw [HPL.out] at d3; rw [HPE.out]; have D3 := hid d3; have L3 := hid (sq L2.out d3.2); have V3 := hid (V2.out.below d3.2); clear d3 kill V2 L2) | (have kill := V2.out; refine ld25 V2.out rfl _ rfl rfl ?_) | (have kill := V1.out; refine st25 (r := r) V1.out L1.out hb1 rfl _ _ rfl rfl rfl ?_; intro w2 v2 l2; have V2 := hid v2; have L2 := hid l2; clear v2 l2 kill V1 L1) | (refine al25 rfl rfl ?_; have kill := T1.out; intro b1 w1 hb1 v1 l1; have V1 := hid v1; have L1 := hid l1; clear v1 l1 kill T1) | (refine bdE25 hrv.out rfl _ _ _ _ rfl rfl rfl rfl rfl ?_; have T1 : Hid True := trivial))
  go_ret
  exact ⟨rfl, L13.out⟩
end Go.Proofs.Ythchgjndaeefmaa
