/- What the statements ask first: an end. -/
import Derived.Test.YthhgochnlbiaaaaTxt
import Derived.Test.YthhgochnlbiaaaaFind
import Derived.Test.YthhgochnlbiaaaaOpen
namespace Go.Proofs.Ythhgochnlbiaaaa
open Go.ChangeShapes Go.WideShapes Go.ChangeAt Go.RowKit

/-- A state made of three of its parts. -/
theorem bdQ34 {ops : Array Oper} {rest : List Oper} {op : Oper} {a : Act} {w : World} {Q : Exit → Act → World → Prop} {r : St} (hgd : op.guard = none) (x0 x1 x2 : Operand) (ho : op.op = .build 34 #[(0, x0), (1, x1), (2, x2)]) (h0 : a.eval x0 = .int .i64 r.id) (h1 : a.eval x1 = .int .u8 r.kind) (h2 : a.eval x2 = .int .i64 r.next) (h3 : r.other = 0)
    (h : wpList Try.prog ops Q rest (a.put op.dst r.val) w) : wpList Try.prog ops Q (op :: rest) a w :=
  wpList_plain hgd fun K hK => by
    have hz := zero34 w
    unfold Oper.wp execOp
    simp only [ho, List.map_toArray, List.map_cons, List.map_nil, h0, h1, h2]
    have e : r.val = .agg #[.int .i64 r.id, .int .u8 r.kind, .int .i64 r.next, .int .i64 0] := by simp [St.val, St.cells, h3]
    rw [e] at h
    simp [Instr.build, hz, go_sem, St.val, St.cells, St.zero]
    exact hK _ _ h
def X2 : List Int := [48, 48, 48, 32, 65, 32, 48, 48, 49, 32, 48, 48, 48, 10, 48, 48, 49, 32, 90, 32, 48, 48, 48, 32, 48, 48, 48, 10]
def L2 : List St := [⟨0, 65, 1, 0⟩, ⟨1, 90, 0, 0⟩]
def L1 : List St := [⟨1, 73, 1, 0⟩]
theorem x2_str : (⟨#[48, 48, 48, 32, 65, 32, 48, 48, 49, 32, 48, 48, 48, 10, 48, 48, 49, 32, 90, 32, 48, 48, 48, 32, 48, 48, 48, 10]⟩ : ByteArray) = strOfNums X2 := by rfl
theorem x1_str : (⟨#[120]⟩ : ByteArray) = strOfNums [120] := by rfl
theorem x2_byt : Byt X2 := by unfold Byt X2; decide
theorem x1_byt : Byt [120] := by unfold Byt; decide
theorem x2_prs : prsL X2 = (0, 0, 2) := by decide +kernel
theorem x1_prs : prsL [120] = (28, 1, 0) := by decide +kernel
theorem x2_sts : stsL X2 2 = L2 := by rfl
theorem l2_chk : checkL L2 = (0, 0) := by decide +kernel
theorem l1_chk : checkL L1 = (0, 30) := by decide +kernel
theorem l2_find : findL L2 1 = ⟨1, 90, 0, 0⟩ ∧ foundL L2 1 = true := ⟨by rfl, by decide +kernel⟩
theorem l2_text : textL L2 = X2 := by decide +kernel
theorem l2_ok : OkT L2 := okT_of fun s hs => by
  unfold L2 at hs
  rcases List.mem_cons.1 hs with rfl | hs
  · unfold OkSt I64; decide
  · rcases List.mem_cons.1 hs with rfl | hs
    · unfold OkSt I64; decide
    · cases hs
theorem l1_ok : OkT L1 := okT_of fun s hs => by
  unfold L1 at hs
  rcases List.mem_cons.1 hs with rfl | hs
  · unfold OkSt I64; decide
  · cases hs
set_option maxRecDepth 20000 in
set_option maxHeartbeats 8000000 in
theorem known7 (w : World) : Calls Try.prog 7 #[] w fun e w' => e = .returned (.bool true) ∧ Below w.heap.size w w' := by
  have HE := hid (Below.refl w.heap.size w)
  have K0 : Hid True := trivial
  have K1 : Hid True := trivial

  go_enter Try.func7, Try.ntmps7
  go_wp2_with (first | (go_at_call 13; have kill := K6.out; refine (text13 _ _ _ L2 _ G6.out (by omega) l2_ok).mono ?_; rintro e w9 ⟨rfl, l9⟩; rw [l2_text, ← x2_str]; have L9 := hid (sq E6.out l9); clear l9 kill K6 E6 G6) | (go_at_call 15; have kill := K5.out; rw [x1_str]; refine (parse15 [120] _ x1_byt (by decide)).mono ?_; rintro e w8 ⟨a8, n8, c8, rfl, m8⟩; rw [x1_prs]; have K6 : Hid True := trivial; have E6 := hid (sq E5.out m8.2); have G6 := hid (G5.out.below m8.2); have c1 := cellkept c1 m8.2; clear m8 kill K5 E5 G5) | (have kill := V4.out; refine st34 (r := ⟨1, 90, 0, 0⟩) V4.out F4.out hb4 rfl _ _ rfl rfl rfl ?_; intro w7 v7 l7; have c1 := v7.cell 1 rfl; have E5 := hid (sq E4.out l7); have G5 := hid (G4.out.below l7); have K5 : Hid True := trivial; clear v7 l7 kill V4 F4 E4 G4) | (have kill := E4.out; refine al34 rfl rfl ?_; intro b4 w6 hb4 v4 f4; have V4 := hid v4; have F4 := hid f4; clear v4 f4 kill) | (go_at_call 11; have kill := E3.out; refine (find11 _ _ _ L2 1 _ G3.out).mono ?_; rintro e w5 ⟨rfl, l5⟩; rw [l2_find.1, l2_find.2]; have E4 := hid (sq E3.out l5); have G4 := hid (G3.out.below l5); clear l5 kill E3 G3) | (go_at_call 9; have kill := G2b.out; refine (check9 _ _ _ L1 _ G2b.out (by omega) l1_ok).mono ?_; rintro e w4 ⟨rfl, l4⟩; rw [l1_chk]; have E3 := hid (sq E2.out l4); have G3 := hid (G2.out.below l4); clear l4 kill E2 G2 G2b) | (have kill := E1.out; refine bsS (r := ⟨1, 73, 1, 0⟩) rfl _ rfl rfl ?_; intro a3 w3 g3 l3; have G2b := hid g3; have E2 := hid (sq E1.out l3); have G2 := hid (G1.out.below l3); clear g3 l3 kill E1 G1) | (have kill := E1.out; refine bdQ34 (r := ⟨1, 73, 1, 0⟩) rfl _ _ _ rfl rfl rfl rfl rfl ?_; clear kill) | (go_at_call 9; have kill := K1.out; refine (check9 _ _ _ L2 _ G0.out (by omega) l2_ok).mono ?_; rintro e w2 ⟨rfl, l2⟩; rw [l2_chk]; have E1 := hid (sq E0.out l2); have G1 := hid (G0.out.below l2); clear l2 kill E0 G0 K1) | (go_at_call 15; have kill := K0.out; rw [x2_str]; refine (parse15 X2 _ x2_byt (by decide)).mono ?_; rintro e w1 ⟨a1, n1, c1, rfl, m1⟩; rw [x2_prs] at m1 ⊢; rw [x2_sts] at m1; have hn1 := m1.1.len; obtain rfl : n1 = 2 := hn1.symm; have G0 := hid m1.given; have E0 := hid m1.2; clear m1 hn1 kill K0))
  go_ret
  exact ⟨rfl, L9.out⟩
end Go.Proofs.Ythhgochnlbiaaaa
