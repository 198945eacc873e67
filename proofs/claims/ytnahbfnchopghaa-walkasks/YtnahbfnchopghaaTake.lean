/- One step of the code's walk. -/
import Derived.Test.YtnahbfnchopghaaInp
namespace Go.Proofs.Ytnahbfnchopghaa
open Go.ChangeShapes Go.WideShapes Go.ChangeAt Go.RowKit

theorem take_A1 {s : St} {x : ByteArray} (p : ByteArray) (a : Int) (h : s.kind = 65) (hB : panB x = true) : takeT s x = s.next ∧ takeP s x p = x ∧ takeA s x a = a := by
  unfold takeT takeP takeA; rw [h, hB]; exact ⟨rfl, rfl, rfl⟩
theorem take_A0 {s : St} {x : ByteArray} (p : ByteArray) (a : Int) (h : s.kind = 65) (hB : panB x = false) : takeT s x = s.id ∧ takeP s x p = p ∧ takeA s x a = a := by
  unfold takeT takeP takeA; rw [h, hB]; exact ⟨rfl, rfl, rfl⟩
theorem take_B1 {s : St} {x : ByteArray} (p : ByteArray) (a : Int) (h : s.kind = 66) (hB : pinB x = true) : takeT s x = s.next ∧ takeP s x p = p ∧ takeA s x a = a := by
  unfold takeT takeP takeA; rw [h, hB]; exact ⟨rfl, rfl, rfl⟩
theorem take_B0 {s : St} {x : ByteArray} (p : ByteArray) (a : Int) (h : s.kind = 66) (hB : pinB x = false) : takeT s x = s.other ∧ takeP s x p = p ∧ takeA s x a = a := by
  unfold takeT takeP takeA; rw [h, hB]; exact ⟨rfl, rfl, rfl⟩
theorem take_D1 {s : St} {x : ByteArray} (p : ByteArray) (a : Int) (h : s.kind = 68) (hB : numB 7 x = true) : takeT s x = s.next ∧ takeP s x p = p ∧ takeA s x a = numK 7 x := by
  have hz : x.size ≤ 7 := by unfold numB at hB; rw [Bool.and_eq_true] at hB; simpa using hB.1
  unfold takeT takeP takeA; rw [h, hB, (num_fit hz).1]; exact ⟨rfl, rfl, rfl⟩
theorem take_D0 {s : St} {x : ByteArray} (p : ByteArray) (a : Int) (h : s.kind = 68) (hB : numB 7 x = false) : takeT s x = s.other ∧ takeP s x p = p ∧ takeA s x a = a := by
  unfold takeT takeP takeA; rw [h, hB]; exact ⟨rfl, rfl, rfl⟩
theorem take_E {s : St} {x : ByteArray} (p : ByteArray) (a : Int) (h1 : ¬ s.kind = 65) (h2 : ¬ s.kind = 66) (h3 : ¬ s.kind = 68) : takeT s x = choL s x ∧ takeP s x p = p ∧ takeA s x a = a := by
  unfold takeT takeP takeA; rw [if_neg h1, if_neg h2, if_neg h3, if_neg h1, if_neg h3]; exact ⟨rfl, rfl, rfl⟩
/-- What the code's take answers, and what it leaves. -/
def TkAns (b : Nat) (k : Wk) (ao : Option Addr) (len cap : Nat) (s : St) (x : ByteArray) (w : World) (e : Ending) (w' : World) : Prop :=
  e = .returned (.int .i64 (takeT s x)) ∧ WV w' b { k with pan := takeP s x k.pan, amt := takeA s x k.amt } ao len cap ∧ One b w w'
set_option maxHeartbeats 4000000 in
theorem take23 (b : Nat) (k : Wk) (ao : Option Addr) (len cap : Nat) (s : St) (x : ByteArray) (w : World) (h : WV w b k ao len cap) (hx : x.size ≤ 9223372036854775807) :
    Calls Try.prog 23 #[.pointer (some ⟨b, 0, none⟩), s.val, .string x] w (TkAns b k ao len cap s x w) := by
  have H := hid h
  have HX := hid hx
  have hlt := h.lt
  clear h hx
  by_cases hA : s.kind = 65
  · cases hB : panB x
    · have HT := hid (take_A0 k.pan k.amt hA hB)
      have HK := hid hA
      have HB := hid hB
      clear hA hB
      go_enter Try.func23, Try.ntmps23
      go_wp2_with (first | (have kill := H1.out; go_at_call 27; refine (isPan27 x _ HX.out).mono ?_; rw [HB.out]; rintro e w2 ⟨rfl, l2⟩; have H2 := hid (H1.out.below l2); have v2 := V1.out.below l2; have c0 := v2.cell 0 (v := .int .i64 s.id) rfl; have c2 := v2.cell 2 (v := .int .i64 s.next) rfl; have c3 := v2.cell 3 (v := .int .i64 s.other) rfl; have V2 := hid v2; have L2 := hid (One.seq (One.of_below (b := b) L1.out) (One.of_below l2)); clear v2 l2 kill H1 V1) | (have kill := H.out; refine bx34 rfl _ rfl rfl ?_; intro b0 w1 hb0 v1 l1; have c0 := v1.cell 0 (v := .int .i64 s.id) rfl; have c1 := v1.cell 1 (v := .int .u8 s.kind) rfl; have c2 := v1.cell 2 (v := .int .i64 s.next) rfl; have c3 := v1.cell 3 (v := .int .i64 s.other) rfl; rw [HK.out] at c1; have V1 := hid v1; have L1 := hid l1; have H1 := hid (H.out.below l1); have hne : Hid (¬ b0 = b) := hid (by omega); clear v1 l1 kill H hb0))
      go_ret
      refine ⟨by rw [HT.out.1]; rfl, ?_, L2.out⟩
      rw [HT.out.2.1, HT.out.2.2]; exact H2.out
    · have HT := hid (take_A1 k.pan k.amt hA hB)
      have HK := hid hA
      have HB := hid hB
      clear hA hB
      go_enter Try.func23, Try.ntmps23
      go_wp2_with (first | (have kill := H2.out; refine sPan H2.out rfl _ _ rfl rfl rfl ?_; intro w3 v3 l3; have H3 := hid v3; have v := V2.out.kept (l3.block b0 V2.out.lt hne.out); have c0 := v.cell 0 (v := .int .i64 s.id) rfl; have c2 := v.cell 2 (v := .int .i64 s.next) rfl; have c3 := v.cell 3 (v := .int .i64 s.other) rfl; have L3 := hid (One.seq L2.out l3); clear v3 l3 v kill H2 V2) | (have kill := H1.out; go_at_call 27; refine (isPan27 x _ HX.out).mono ?_; rw [HB.out]; rintro e w2 ⟨rfl, l2⟩; have H2 := hid (H1.out.below l2); have v2 := V1.out.below l2; have c0 := v2.cell 0 (v := .int .i64 s.id) rfl; have c2 := v2.cell 2 (v := .int .i64 s.next) rfl; have c3 := v2.cell 3 (v := .int .i64 s.other) rfl; have V2 := hid v2; have L2 := hid (One.seq (One.of_below (b := b) L1.out) (One.of_below l2)); clear v2 l2 kill H1 V1) | (have kill := H.out; refine bx34 rfl _ rfl rfl ?_; intro b0 w1 hb0 v1 l1; have c0 := v1.cell 0 (v := .int .i64 s.id) rfl; have c1 := v1.cell 1 (v := .int .u8 s.kind) rfl; have c2 := v1.cell 2 (v := .int .i64 s.next) rfl; have c3 := v1.cell 3 (v := .int .i64 s.other) rfl; rw [HK.out] at c1; have V1 := hid v1; have L1 := hid l1; have H1 := hid (H.out.below l1); have hne : Hid (¬ b0 = b) := hid (by omega); clear v1 l1 kill H hb0))
      go_ret
      refine ⟨by rw [HT.out.1]; rfl, ?_, L3.out⟩
      rw [HT.out.2.1, HT.out.2.2]; exact H3.out
  have dA : (s.kind == 65) = false := by simpa using hA
  by_cases hQ : s.kind = 66
  · have dA : ((66 : Int) == 65) = false := rfl
    cases hB : pinB x
    · have HT := hid (take_B0 k.pan k.amt hQ hB)
      have HK := hid hQ
      have HB := hid hB
      clear hA hQ hB
      go_enter Try.func23, Try.ntmps23
      go_wp2_with (first | (have kill := H1.out; go_at_call 28; refine (isPin28 x _ HX.out).mono ?_; rw [HB.out]; rintro e w2 ⟨rfl, rfl⟩; have H2 := H1; clear kill H1) | (have kill := H.out; refine bx34 rfl _ rfl rfl ?_; intro b0 w1 hb0 v1 l1; have c0 := v1.cell 0 (v := .int .i64 s.id) rfl; have c1 := v1.cell 1 (v := .int .u8 s.kind) rfl; have c2 := v1.cell 2 (v := .int .i64 s.next) rfl; have c3 := v1.cell 3 (v := .int .i64 s.other) rfl; rw [HK.out] at c1; have V1 := hid v1; have L1 := hid l1; have H1 := hid (H.out.below l1); have hne : Hid (¬ b0 = b) := hid (by omega); clear v1 l1 kill H hb0))
      go_ret
      refine ⟨by rw [HT.out.1]; rfl, ?_, One.of_below L1.out⟩
      rw [HT.out.2.1, HT.out.2.2]; exact H2.out
    · have HT := hid (take_B1 k.pan k.amt hQ hB)
      have HK := hid hQ
      have HB := hid hB
      clear hA hQ hB
      go_enter Try.func23, Try.ntmps23
      go_wp2_with (first | (have kill := H1.out; go_at_call 28; refine (isPin28 x _ HX.out).mono ?_; rw [HB.out]; rintro e w2 ⟨rfl, rfl⟩; have H2 := H1; clear kill H1) | (have kill := H.out; refine bx34 rfl _ rfl rfl ?_; intro b0 w1 hb0 v1 l1; have c0 := v1.cell 0 (v := .int .i64 s.id) rfl; have c1 := v1.cell 1 (v := .int .u8 s.kind) rfl; have c2 := v1.cell 2 (v := .int .i64 s.next) rfl; have c3 := v1.cell 3 (v := .int .i64 s.other) rfl; rw [HK.out] at c1; have V1 := hid v1; have L1 := hid l1; have H1 := hid (H.out.below l1); have hne : Hid (¬ b0 = b) := hid (by omega); clear v1 l1 kill H hb0))
      go_ret
      refine ⟨by rw [HT.out.1]; rfl, ?_, One.of_below L1.out⟩
      rw [HT.out.2.1, HT.out.2.2]; exact H2.out
  have dQ : (s.kind == 66) = false := by simpa using hQ
  by_cases hD : s.kind = 68
  · cases hB : numB 7 x
    · have HT := hid (take_D0 k.pan k.amt hD hB)
      have HK := hid hD
      have HB := hid hB
      clear hA hQ hD hB
      go_enter Try.func23, Try.ntmps23
      go_wp2_with (first | (have kill := H1.out; go_at_call 29; refine (number29 x 7 _ HX.out).mono ?_; rw [HB.out]; rintro e w2 ⟨rfl, rfl⟩; have H2 := H1; clear kill H1) | (have kill := H.out; refine bx34 rfl _ rfl rfl ?_; intro b0 w1 hb0 v1 l1; have c0 := v1.cell 0 (v := .int .i64 s.id) rfl; have c1 := v1.cell 1 (v := .int .u8 s.kind) rfl; have c2 := v1.cell 2 (v := .int .i64 s.next) rfl; have c3 := v1.cell 3 (v := .int .i64 s.other) rfl; rw [HK.out] at c1; have V1 := hid v1; have L1 := hid l1; have H1 := hid (H.out.below l1); have hne : Hid (¬ b0 = b) := hid (by omega); clear v1 l1 kill H hb0))
      go_ret
      refine ⟨by rw [HT.out.1]; rfl, ?_, One.of_below L1.out⟩
      rw [HT.out.2.1, HT.out.2.2]; exact H2.out
    · have HT := hid (take_D1 k.pan k.amt hD hB)
      have HK := hid hD
      have HB := hid hB
      clear hA hQ hD hB
      go_enter Try.func23, Try.ntmps23
      go_wp2_with (first | (have kill := H2.out; refine sAmt H2.out rfl _ _ rfl rfl rfl ?_; intro w3 v3 l3; have H3 := hid v3; have v := V1.out.kept (l3.block b0 V1.out.lt hne.out); have c0 := v.cell 0 (v := .int .i64 s.id) rfl; have c2 := v.cell 2 (v := .int .i64 s.next) rfl; have c3 := v.cell 3 (v := .int .i64 s.other) rfl; have L3 := hid (One.seq (One.of_below L1.out) l3); clear v3 l3 v kill H2 V1) | (have kill := H1.out; go_at_call 29; refine (number29 x 7 _ HX.out).mono ?_; rw [HB.out]; rintro e w2 ⟨rfl, rfl⟩; have H2 := H1; clear kill H1) | (have kill := H.out; refine bx34 rfl _ rfl rfl ?_; intro b0 w1 hb0 v1 l1; have c0 := v1.cell 0 (v := .int .i64 s.id) rfl; have c1 := v1.cell 1 (v := .int .u8 s.kind) rfl; have c2 := v1.cell 2 (v := .int .i64 s.next) rfl; have c3 := v1.cell 3 (v := .int .i64 s.other) rfl; rw [HK.out] at c1; have V1 := hid v1; have L1 := hid l1; have H1 := hid (H.out.below l1); have hne : Hid (¬ b0 = b) := hid (by omega); clear v1 l1 kill H hb0))
      go_ret
      refine ⟨by rw [HT.out.1]; rfl, ?_, L3.out⟩
      rw [HT.out.2.1, HT.out.2.2]; exact H3.out
  have dD : (s.kind == 68) = false := by simpa using hD
  have HT := hid (take_E (x := x) k.pan k.amt hA hQ hD)
  clear hA hQ hD
  go_enter Try.func23, Try.ntmps23
  go_wp2_with (first | (have kill := H1.out; go_at_call 30; refine (choose30 s x _ HX.out).mono ?_; rintro e w2 ⟨rfl, l2⟩; have H2 := hid (H1.out.below l2); have L2 := hid (One.seq (One.of_below (b := b) L1.out) (One.of_below l2)); clear l2 kill H1 V1) | (have kill := V1.out; refine ld34 V1.out rfl _ rfl rfl ?_) | (have kill := H.out; refine bx34 rfl _ rfl rfl ?_; intro b0 w1 hb0 v1 l1; have c0 := v1.cell 0 (v := .int .i64 s.id) rfl; have c1 := v1.cell 1 (v := .int .u8 s.kind) rfl; have c2 := v1.cell 2 (v := .int .i64 s.next) rfl; have c3 := v1.cell 3 (v := .int .i64 s.other) rfl; have V1 := hid v1; have L1 := hid l1; have H1 := hid (H.out.below l1); have hne : Hid (¬ b0 = b) := hid (by omega); clear v1 l1 kill H hb0))
  go_ret
  refine ⟨by rw [HT.out.1]; rfl, ?_, L2.out⟩
  rw [HT.out.2.1, HT.out.2.2]; exact H2.out
end Go.Proofs.Ytnahbfnchopghaa
