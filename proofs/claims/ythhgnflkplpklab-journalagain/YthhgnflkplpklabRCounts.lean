/- parts: four numbers are taken. -/
import Derived.Test.YthhgnflkplpklabRParts
namespace Go.Proofs.Ythhgnflkplpklab.Frm
open Go.ChangeShapes Go.WideShapes Go.ChangeAt Go.RowKit

theorem Turned.to {F G : Nat → Prop} {w w' : World} (h : Turned F w w') (hF : ∀ k, k < w.heap.size → F k → G k) : Turned G w w' :=
  ⟨h.os, h.tape, h.output, h.size, fun k hk hn => h.block k hk (fun f => hn (hF k hk f))⟩
theorem Turned.own {F : Nat → Prop} {w w1 w2 : World} {b : Nat} (h : Turned F w w1) (k : Turned (fun k => k = b) w1 w2) (hb : w.heap.size ≤ b) : Turned F w w2 :=
  ⟨k.os.trans h.os, k.tape.trans h.tape, k.output.trans h.output, Nat.le_trans h.size k.size, fun i hi hn => (k.block i (Nat.lt_of_lt_of_le hi h.size) (fun e => by omega)).trans (h.block i hi hn)⟩
theorem pc_take (zs : List Int) (n : Nat) : zs.take n = pc zs 0 n := by simp [pc]
def kk (k j : Nat) (y : Int) : Int := if j < k then y else 0
theorem byt_pc {zs : List Int} (h : Byt zs) (i m : Nat) : Byt (pc zs i m) := byt_take (byt_drop h i) m
theorem pc_len {zs : List Int} {i m : Nat} (h : i + m ≤ zs.length) : (pc zs i m).length = m := by simp [pc]; omega
theorem num_pc2 {zs : List Int} (h : Byt zs) (i : Nat) (hl : i + 2 ≤ zs.length) : 0 ≤ num (pc zs i 2) ∧ num (pc zs i 2) < 65536 := by
  have := num_bd _ (byt_pc h i 2)
  rw [pc_len hl] at this
  exact ⟨this.1, by simpa using this.2⟩
set_option maxHeartbeats 1000000 in
theorem counts36 (B p : Nat) (zs : List Int) (ao : Option Addr) (cap : Nat) (w : World) (h : PS B w p zs ao cap) (hB : B ≤ w.heap.size) (hn : 8 ≤ zs.length) :
    Calls Try.prog 43 #[.pointer (some ⟨p, 0, none⟩)] w fun e w' => e = .returned (.agg #[.int .i64 (num (pc zs 0 2)), .int .i64 (num (pc zs 2 2)), .int .i64 (num (pc zs 4 2)), .int .i64 (num (pc zs 6 2))]) ∧ Turned (fun k => k = p) w w' ∧ ∃ ao' cap', PS B w' p (zs.drop 8) ao' cap' := by
  have hp := h.lt
  have hby := h.bytes
  have H := hid h
  clear h
  obtain ⟨y0, hy0, hy0'⟩ := (⟨_, rfl, num_pc2 hby 0 (by omega)⟩ : ∃ y, num (pc zs 0 2) = y ∧ 0 ≤ num (pc zs 0 2) ∧ num (pc zs 0 2) < 65536)
  obtain ⟨y1, hy1, hy1'⟩ := (⟨_, rfl, num_pc2 hby 2 (by omega)⟩ : ∃ y, num (pc zs 2 2) = y ∧ 0 ≤ num (pc zs 2 2) ∧ num (pc zs 2 2) < 65536)
  obtain ⟨y2, hy2, hy2'⟩ := (⟨_, rfl, num_pc2 hby 4 (by omega)⟩ : ∃ y, num (pc zs 4 2) = y ∧ 0 ≤ num (pc zs 4 2) ∧ num (pc zs 4 2) < 65536)
  obtain ⟨y3, hy3, hy3'⟩ := (⟨_, rfl, num_pc2 hby 6 (by omega)⟩ : ∃ y, num (pc zs 6 2) = y ∧ 0 ≤ num (pc zs 6 2) ∧ num (pc zs 6 2) < 65536)
  rw [hy0, hy1, hy2, hy3]
  rw [hy0] at hy0'
  rw [hy1] at hy1'
  rw [hy2] at hy2'
  rw [hy3] at hy3'
  have HY : Hid (num (pc zs 0 2) = y0 ∧ num (pc zs 2 2) = y1 ∧ num (pc zs 4 2) = y2 ∧ num (pc zs 6 2) = y3) := hid ⟨hy0, hy1, hy2, hy3⟩
  clear hy0 hy1 hy2 hy3
  obtain ⟨a0, b0⟩ := hy0'
  obtain ⟨a1, b1⟩ := hy1'
  obtain ⟨a2, b2⟩ := hy2'
  obtain ⟨a3, b3⟩ := hy3'
  go_enter Try.func43, Try.ntmps43
  go_wp2_with (first | (refine al27 rfl rfl ?_; intro q3 w3 hq3 v3 l3; have V3 := hid v3; have hq : q2 < q3 := Nat.lt_of_lt_of_le V2.out.lt hq3; have L3 := hid (sq L2.out l3); have V2 := hid (V2.out.below l3); clear v3 l3) | (refine al27 rfl rfl ?_; intro q2 w2 hq2 v2 l2; have V2 := hid v2; have L2 := hid l2; clear v2 l2))
  go_loopw [5] (fun i wr => ∃ (k : Nat) (ao1 : Option Addr) (cap1 : Nat), k ≤ 4 ∧ i = .int .i64 (k : Int) ∧ PS B wr p (zs.drop (2 * k)) ao1 cap1 ∧ QV wr q2 0 0 0 0 ∧ QV wr q3 (kk k 0 y0) (kk k 1 y1) (kk k 2 y2) (kk k 3 y3) ∧ Turned (fun k => k = p) w wr) (fun i _ => 4 - (intOf i).toNat)
  case atStart => exact ⟨0, ao, cap, by omega, rfl, H.out.below L3.out, V2.out, V3.out, Turned.of_below L3.out⟩
  case round =>
    obtain ⟨k, ao1, cap1, hk, rfl, hD, hV2, hV3, hT⟩ := hrel
    have D := hid hD
    have V2 := hid hV2
    have V3 := hid hV3
    have T := hid hT
    have hw3 := hT.size
    clear hD hV2 hV3 hT H L2 L3
    by_cases hlt : k < 4
    · have h4 : k = 0 ∨ k = 1 ∨ k = 2 ∨ k = 3 := by omega
      rcases h4 with rfl | rfl | rfl | rfl
      · have D0 : Hid (PS B wr p (zs.drop 0) ao1 cap1) := D
        have V3 : Hid (QV wr q3 0 0 0 0) := V3
        have HN : Hid (num ((zs.drop 0).take 2) = y0) := hid (HY.out.1)
        go_wp2_with (first | (refine st3 (y0 := y0) (y1 := 0) (y2 := 0) (y3 := 0) (v := y0) 0 (by omega) V4.out rfl rfl _ _ rfl rfl rfl ?_; intro w5 v5 t5; have V5 := hid v5; have T5 := hid t5; clear v5 t5) | (go_at_call 42; refine (number35 B p _ _ _ _ D0.out 2 (by omega) (by omega) (by rw [List.length_drop]; omega)).mono ?_; rintro e w4 ⟨rfl, t4, ao4, cap4, d4⟩; rw [HN.out]; have D4 := hid d4; have T4 := hid (T.out.then t4); have V2' := hid (V2.out.kept (t4.block _ V2.out.lt (by omega))); have V4 := hid (V3.out.kept (t4.block _ V3.out.lt (by omega))); clear t4 d4))
        go_roundw
        case rel => exact ⟨1, _, _, by omega, by go_num, (by have := D4.out.turned T5.out (by omega) (by omega); rwa [List.drop_drop] at this), V2'.out.kept (T5.out.block _ V2'.out.lt (by omega)), V5.out, T4.out.own T5.out (by omega)⟩
        case measure => simp [intOf]
      · have D0 : Hid (PS B wr p (zs.drop 2) ao1 cap1) := D
        have V3 : Hid (QV wr q3 y0 0 0 0) := V3
        have HN : Hid (num ((zs.drop 2).take 2) = y1) := hid (HY.out.2.1)
        go_wp2_with (first | (refine st3 (y0 := y0) (y1 := y1) (y2 := 0) (y3 := 0) (v := y1) 1 (by omega) V4.out rfl rfl _ _ rfl rfl rfl ?_; intro w5 v5 t5; have V5 := hid v5; have T5 := hid t5; clear v5 t5) | (go_at_call 42; refine (number35 B p _ _ _ _ D0.out 2 (by omega) (by omega) (by rw [List.length_drop]; omega)).mono ?_; rintro e w4 ⟨rfl, t4, ao4, cap4, d4⟩; rw [HN.out]; have D4 := hid d4; have T4 := hid (T.out.then t4); have V2' := hid (V2.out.kept (t4.block _ V2.out.lt (by omega))); have V4 := hid (V3.out.kept (t4.block _ V3.out.lt (by omega))); clear t4 d4))
        go_roundw
        case rel => exact ⟨2, _, _, by omega, by go_num, (by have := D4.out.turned T5.out (by omega) (by omega); rwa [List.drop_drop] at this), V2'.out.kept (T5.out.block _ V2'.out.lt (by omega)), V5.out, T4.out.own T5.out (by omega)⟩
        case measure => simp [intOf]
      · have D0 : Hid (PS B wr p (zs.drop 4) ao1 cap1) := D
        have V3 : Hid (QV wr q3 y0 y1 0 0) := V3
        have HN : Hid (num ((zs.drop 4).take 2) = y2) := hid (HY.out.2.2.1)
        go_wp2_with (first | (refine st3 (y0 := y0) (y1 := y1) (y2 := y2) (y3 := 0) (v := y2) 2 (by omega) V4.out rfl rfl _ _ rfl rfl rfl ?_; intro w5 v5 t5; have V5 := hid v5; have T5 := hid t5; clear v5 t5) | (go_at_call 42; refine (number35 B p _ _ _ _ D0.out 2 (by omega) (by omega) (by rw [List.length_drop]; omega)).mono ?_; rintro e w4 ⟨rfl, t4, ao4, cap4, d4⟩; rw [HN.out]; have D4 := hid d4; have T4 := hid (T.out.then t4); have V2' := hid (V2.out.kept (t4.block _ V2.out.lt (by omega))); have V4 := hid (V3.out.kept (t4.block _ V3.out.lt (by omega))); clear t4 d4))
        go_roundw
        case rel => exact ⟨3, _, _, by omega, by go_num, (by have := D4.out.turned T5.out (by omega) (by omega); rwa [List.drop_drop] at this), V2'.out.kept (T5.out.block _ V2'.out.lt (by omega)), V5.out, T4.out.own T5.out (by omega)⟩
        case measure => simp [intOf]
      · have D0 : Hid (PS B wr p (zs.drop 6) ao1 cap1) := D
        have V3 : Hid (QV wr q3 y0 y1 y2 0) := V3
        have HN : Hid (num ((zs.drop 6).take 2) = y3) := hid (HY.out.2.2.2)
        go_wp2_with (first | (refine st3 (y0 := y0) (y1 := y1) (y2 := y2) (y3 := y3) (v := y3) 3 (by omega) V4.out rfl rfl _ _ rfl rfl rfl ?_; intro w5 v5 t5; have V5 := hid v5; have T5 := hid t5; clear v5 t5) | (go_at_call 42; refine (number35 B p _ _ _ _ D0.out 2 (by omega) (by omega) (by rw [List.length_drop]; omega)).mono ?_; rintro e w4 ⟨rfl, t4, ao4, cap4, d4⟩; rw [HN.out]; have D4 := hid d4; have T4 := hid (T.out.then t4); have V2' := hid (V2.out.kept (t4.block _ V2.out.lt (by omega))); have V4 := hid (V3.out.kept (t4.block _ V3.out.lt (by omega))); clear t4 d4))
        go_roundw
        case rel => exact ⟨4, _, _, by omega, by go_num, (by have := D4.out.turned T5.out (by omega) (by omega); rwa [List.drop_drop] at this), V2'.out.kept (T5.out.block _ V2'.out.lt (by omega)), V5.out, T4.out.own T5.out (by omega)⟩
        case measure => simp [intOf]
    · have ek : k = 4 := by omega
      subst ek
      have D0 : Hid (PS B wr p (zs.drop 8) ao1 cap1) := D
      have V3 : Hid (QV wr q3 y0 y1 y2 y3) := V3
      go_wp2_with (first | refine ld27 V3.out rfl _ rfl rfl ?_ | (refine st27 (y0 := y0) (y1 := y1) (y2 := y2) (y3 := y3) V2.out rfl _ _ rfl rfl rfl ?_; intro w5 v5 t5; have V5 := hid v5; have T5 := hid t5; clear v5 t5))
      refine bodyPost_ret (results_q Try.results43 _ _ rfl V5.out) rfl ⟨rfl, T.out.own T5.out (by omega), _, _, D0.out.turned T5.out (by omega) (by omega)⟩
end Go.Proofs.Ythhgnflkplpklab.Frm
