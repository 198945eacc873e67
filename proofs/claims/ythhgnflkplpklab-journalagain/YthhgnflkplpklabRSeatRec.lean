/- The seat's Rec. -/
import Derived.Test.YthhgnflkplpklabRSeat
namespace Go.Proofs.Ythhgnflkplpklab.Frm
set_option maxRecDepth 20000
open Go.ChangeShapes Go.WideShapes Go.ChangeAt Go.RowKit

def seatB (d k s m : Int) : Rc := ⟨d % 9 + 1, k % 3, s % 4 + 1, ⟨#[]⟩, m % 5000, 0, 0, 0, 0, 0, 0, 0, 0, 0, 0, 0, 0⟩
def seatR (d k s m : Int) : Rc :=
  if d % 9 = 0 then { seatB d k s m with pan := panK (k % 4) }
  else if d % 9 = 4 ∨ d % 9 = 5 then { seatB d k s m with n0 := k % 4, n1 := k / 4 % 4, j0 := k / 16 % 2 }
  else if d % 9 = 7 then { seatB d k s m with l0 := k, l1 := k / 2, l2 := 10000, l3 := s, n0 := k / 3, n1 := s % 8 }
  else seatB d k s m
set_option maxHeartbeats 1000000 in
theorem rec9a (d k s m : Int) (w : World) (d0 : 0 ≤ d) (d1 : d < 256) (k0 : 0 ≤ k) (k1 : k < 256) (s0 : 0 ≤ s) (s1 : s < 256) (m0 : 0 ≤ m) (m1 : m < 65536) (h : d % 9 = 0) :
    Calls Try.prog 7 #[.int .u8 d, .int .u8 k, .int .u8 s, .int .u16 m] w fun e w' => e = .returned (seatR d k s m).val ∧ Below w.heap.size w w' := by
  have HS : Hid (seatR d k s m = ⟨1, k % 3, s % 4 + 1, panK (k % 4), m % 5000, 0, 0, 0, 0, 0, 0, 0, 0, 0, 0, 0, 0⟩) := by unfold Hid; rw [seatR, if_pos h, seatB, h]; rfl
  go_enter Try.func7, Try.ntmps7
  go_wp2_with (first | (refine st29 (r := _) (V1.out.below L5.out) (sq L1.out L5.out) hb8 rfl _ _ rfl rfl rfl ?_; intro w20 v20 l20; have V20 := hid v20; have L20 := hid l20; clear v20 l20) | refine ld29 V5.out rfl _ rfl rfl ?_ | (refine rv_pan V4.out L4.out hb9 rfl _ _ rfl rfl rfl ?_; intro w5 v5 l5; have V5 := hid v5; have L5 := hid l5; clear v5 l5) | (go_at_call 20; refine (pan19 k _ k0).mono ?_; rintro e w4 ⟨rfl, l4⟩; have V4 := hid (V3.out.below l4); have L4 := hid (sq L3.out l4); clear l4) | (refine al29 rfl rfl ?_; intro b9 w2 hb9 v2 l2; have V1' := V1; have V2 := hid v2; have L2 := hid l2; clear v2 l2 V1') | (refine al29 rfl rfl ?_; intro b8 w1 hb8 v1 l1; have V1 := hid v1; have L1 := hid l1; clear v1 l1) | (refine st29 (r := _) V2.out L2.out hb9 rfl _ _ rfl rfl rfl ?_; intro w3 v3 l3; have V3 := hid v3; have L3 := hid l3; have c3 : w3.cell? ⟨b9, 0, none⟩ = some (.int .i64 (1)) := v3.recAt.c0; clear v3 l3) | refine bdR rfl _ _ _ rfl rfl rfl rfl ?_)
  refine bodyPost_ret (results_c0 Try.results7 _ _ rfl V20.out) rfl ⟨?_, L20.out⟩
  rw [HS.out]
set_option maxHeartbeats 1000000 in
theorem rec9b (d k s m : Int) (w : World) (d0 : 0 ≤ d) (d1 : d < 256) (k0 : 0 ≤ k) (k1 : k < 256) (s0 : 0 ≤ s) (s1 : s < 256) (m0 : 0 ≤ m) (m1 : m < 65536) (h : d % 9 = 4) :
    Calls Try.prog 7 #[.int .u8 d, .int .u8 k, .int .u8 s, .int .u16 m] w fun e w' => e = .returned (seatR d k s m).val ∧ Below w.heap.size w w' := by
  have HS : Hid (seatR d k s m = ⟨5, k % 3, s % 4 + 1, ⟨#[]⟩, m % 5000, k % 4, k / 4 % 4, 0, 0, k / 16 % 2, 0, 0, 0, 0, 0, 0, 0⟩) := by unfold Hid; rw [seatR, if_neg (by omega), if_pos (by omega), seatB, h]; rfl
  go_enter Try.func7, Try.ntmps7
  go_wp2_with (first | (refine st29 (r := _) (V1.out.below L5.out) (sq L1.out L5.out) hb8 rfl _ _ rfl rfl rfl ?_; intro w20 v20 l20; have V20 := hid v20; have L20 := hid l20; clear v20 l20) | refine ld29 V5.out rfl _ rfl rfl ?_ | (refine rv_rej V4.out L4.out hb9 rfl _ _ rfl rfl rfl ?_; intro w5 v5 l5; have V5 := hid v5; have L5 := hid l5; clear v5 l5) | (refine rv_notes V3.out L3.out hb9 rfl _ _ rfl rfl rfl ?_; intro w4 v4 l4; have V4 := hid v4; have L4 := hid l4; clear v4 l4 c3) | (refine al29 rfl rfl ?_; intro b9 w2 hb9 v2 l2; have V1' := V1; have V2 := hid v2; have L2 := hid l2; clear v2 l2 V1') | (refine al29 rfl rfl ?_; intro b8 w1 hb8 v1 l1; have V1 := hid v1; have L1 := hid l1; clear v1 l1) | (refine st29 (r := _) V2.out L2.out hb9 rfl _ _ rfl rfl rfl ?_; intro w3 v3 l3; have V3 := hid v3; have L3 := hid l3; have c3 : w3.cell? ⟨b9, 0, none⟩ = some (.int .i64 (5)) := v3.recAt.c0; clear v3 l3) | refine bdR rfl _ _ _ rfl rfl rfl rfl ?_)
  refine bodyPost_ret (results_c0 Try.results7 _ _ rfl V20.out) rfl ⟨?_, L20.out⟩
  rw [HS.out]
set_option maxHeartbeats 1000000 in
theorem rec9c (d k s m : Int) (w : World) (d0 : 0 ≤ d) (d1 : d < 256) (k0 : 0 ≤ k) (k1 : k < 256) (s0 : 0 ≤ s) (s1 : s < 256) (m0 : 0 ≤ m) (m1 : m < 65536) (h : d % 9 = 5) :
    Calls Try.prog 7 #[.int .u8 d, .int .u8 k, .int .u8 s, .int .u16 m] w fun e w' => e = .returned (seatR d k s m).val ∧ Below w.heap.size w w' := by
  have HS : Hid (seatR d k s m = ⟨6, k % 3, s % 4 + 1, ⟨#[]⟩, m % 5000, k % 4, k / 4 % 4, 0, 0, k / 16 % 2, 0, 0, 0, 0, 0, 0, 0⟩) := by unfold Hid; rw [seatR, if_neg (by omega), if_pos (by omega), seatB, h]; rfl
  go_enter Try.func7, Try.ntmps7
  go_wp2_with (first | (refine st29 (r := _) (V1.out.below L5.out) (sq L1.out L5.out) hb8 rfl _ _ rfl rfl rfl ?_; intro w20 v20 l20; have V20 := hid v20; have L20 := hid l20; clear v20 l20) | refine ld29 V5.out rfl _ rfl rfl ?_ | (refine rv_rej V4.out L4.out hb9 rfl _ _ rfl rfl rfl ?_; intro w5 v5 l5; have V5 := hid v5; have L5 := hid l5; clear v5 l5) | (refine rv_notes V3.out L3.out hb9 rfl _ _ rfl rfl rfl ?_; intro w4 v4 l4; have V4 := hid v4; have L4 := hid l4; clear v4 l4 c3) | (refine al29 rfl rfl ?_; intro b9 w2 hb9 v2 l2; have V1' := V1; have V2 := hid v2; have L2 := hid l2; clear v2 l2 V1') | (refine al29 rfl rfl ?_; intro b8 w1 hb8 v1 l1; have V1 := hid v1; have L1 := hid l1; clear v1 l1) | (refine st29 (r := _) V2.out L2.out hb9 rfl _ _ rfl rfl rfl ?_; intro w3 v3 l3; have V3 := hid v3; have L3 := hid l3; have c3 : w3.cell? ⟨b9, 0, none⟩ = some (.int .i64 (6)) := v3.recAt.c0; clear v3 l3) | refine bdR rfl _ _ _ rfl rfl rfl rfl ?_)
  refine bodyPost_ret (results_c0 Try.results7 _ _ rfl V20.out) rfl ⟨?_, L20.out⟩
  rw [HS.out]
set_option maxHeartbeats 1000000 in
theorem rec9d (d k s m : Int) (w : World) (d0 : 0 ≤ d) (d1 : d < 256) (k0 : 0 ≤ k) (k1 : k < 256) (s0 : 0 ≤ s) (s1 : s < 256) (m0 : 0 ≤ m) (m1 : m < 65536) (h : d % 9 = 7) :
    Calls Try.prog 7 #[.int .u8 d, .int .u8 k, .int .u8 s, .int .u16 m] w fun e w' => e = .returned (seatR d k s m).val ∧ Below w.heap.size w w' := by
  have HS : Hid (seatR d k s m = ⟨8, k % 3, s % 4 + 1, ⟨#[]⟩, m % 5000, k / 3, s % 8, 0, 0, 0, 0, 0, 0, k, k / 2, 10000, s⟩) := by unfold Hid; rw [seatR, if_neg (by omega), if_neg (by omega), if_pos h, seatB, h]; rfl
  go_enter Try.func7, Try.ntmps7
  go_wp2_with (first | (refine st29 (r := _) (V1.out.below L5.out) (sq L1.out L5.out) hb8 rfl _ _ rfl rfl rfl ?_; intro w20 v20 l20; have V20 := hid v20; have L20 := hid l20; clear v20 l20) | refine ld29 V5.out rfl _ rfl rfl ?_ | (refine rv_notes V4.out L4.out hb9 rfl _ _ rfl rfl rfl ?_; intro w5 v5 l5; have V5 := hid v5; have L5 := hid l5; clear v5 l5) | (refine rv_loaded V3.out L3.out hb9 rfl _ _ rfl rfl rfl ?_; intro w4 v4 l4; have V4 := hid v4; have L4 := hid l4; clear v4 l4 c3) | (refine al29 rfl rfl ?_; intro b9 w2 hb9 v2 l2; have V1' := V1; have V2 := hid v2; have L2 := hid l2; clear v2 l2 V1') | (refine al29 rfl rfl ?_; intro b8 w1 hb8 v1 l1; have V1 := hid v1; have L1 := hid l1; clear v1 l1) | (refine st29 (r := _) V2.out L2.out hb9 rfl _ _ rfl rfl rfl ?_; intro w3 v3 l3; have V3 := hid v3; have L3 := hid l3; have c3 : w3.cell? ⟨b9, 0, none⟩ = some (.int .i64 (8)) := v3.recAt.c0; clear v3 l3) | refine bdR rfl _ _ _ rfl rfl rfl rfl ?_)
  refine bodyPost_ret (results_c0 Try.results7 _ _ rfl V20.out) rfl ⟨?_, L20.out⟩
  rw [HS.out]
set_option maxHeartbeats 1000000 in
theorem rec9e (d k s m : Int) (w : World) (d0 : 0 ≤ d) (d1 : d < 256) (k0 : 0 ≤ k) (k1 : k < 256) (s0 : 0 ≤ s) (s1 : s < 256) (m0 : 0 ≤ m) (m1 : m < 65536) (h1 : ¬ d % 9 = 0) (h2 : ¬ d % 9 = 4) (h3 : ¬ d % 9 = 5) (h4 : ¬ d % 9 = 7) :
    Calls Try.prog 7 #[.int .u8 d, .int .u8 k, .int .u8 s, .int .u16 m] w fun e w' => e = .returned (seatR d k s m).val ∧ Below w.heap.size w w' := by
  have HS : Hid (seatR d k s m = ⟨d % 9 + 1, k % 3, s % 4 + 1, ⟨#[]⟩, m % 5000, 0, 0, 0, 0, 0, 0, 0, 0, 0, 0, 0, 0⟩) := by unfold Hid; rw [seatR, if_neg h1, if_neg (by omega), if_neg h4]; rfl
  have g1 : ¬ d % 9 + 1 = 1 := by omega
  have g2 : ¬ d % 9 + 1 = 5 := by omega
  have g3 : ¬ d % 9 + 1 = 6 := by omega
  have g4 : ¬ d % 9 + 1 = 8 := by omega
  go_enter Try.func7, Try.ntmps7
  go_wp2_with (first | (refine st29 (r := _) (V1.out.below L3.out) (sq L1.out L3.out) hb8 rfl _ _ rfl rfl rfl ?_; intro w20 v20 l20; have V20 := hid v20; have L20 := hid l20; clear v20 l20) | refine ld29 V3.out rfl _ rfl rfl ?_ | (refine al29 rfl rfl ?_; intro b9 w2 hb9 v2 l2; have V1' := V1; have V2 := hid v2; have L2 := hid l2; clear v2 l2 V1') | (refine al29 rfl rfl ?_; intro b8 w1 hb8 v1 l1; have V1 := hid v1; have L1 := hid l1; clear v1 l1) | (refine st29 (r := _) V2.out L2.out hb9 rfl _ _ rfl rfl rfl ?_; intro w3 v3 l3; have V3 := hid v3; have L3 := hid l3; have c3 : w3.cell? ⟨b9, 0, none⟩ = some (.int .i64 (d % 9 + 1)) := v3.recAt.c0; clear v3 l3) | refine bdR rfl _ _ _ rfl rfl rfl rfl ?_)
  refine bodyPost_ret (results_c0 Try.results7 _ _ rfl V20.out) rfl ⟨?_, L20.out⟩
  rw [HS.out]
theorem rec9 (d k s m : Int) (w : World) (d0 : 0 ≤ d) (d1 : d < 256) (k0 : 0 ≤ k) (k1 : k < 256) (s0 : 0 ≤ s) (s1 : s < 256) (m0 : 0 ≤ m) (m1 : m < 65536) :
    Calls Try.prog 7 #[.int .u8 d, .int .u8 k, .int .u8 s, .int .u16 m] w fun e w' => e = .returned (seatR d k s m).val ∧ Below w.heap.size w w' := by
  by_cases h1 : d % 9 = 0
  · exact rec9a d k s m w d0 d1 k0 k1 s0 s1 m0 m1 h1
  by_cases h2 : d % 9 = 4
  · exact rec9b d k s m w d0 d1 k0 k1 s0 s1 m0 m1 h2
  by_cases h3 : d % 9 = 5
  · exact rec9c d k s m w d0 d1 k0 k1 s0 s1 m0 m1 h3
  by_cases h4 : d % 9 = 7
  · exact rec9d d k s m w d0 d1 k0 k1 s0 s1 m0 m1 h4
  exact rec9e d k s m w d0 d1 k0 k1 s0 s1 m0 m1 h1 h2 h3 h4
theorem panK_ok (j : Int) : panB (panK j) = true := by
  unfold panK
  split
  · decide
  · split
    · decide
    · split
      · decide
      · decide
theorem few_of {a b c e : Int} (h : (0 ≤ a ∧ a ≤ 10000) ∧ (0 ≤ b ∧ b ≤ 10000) ∧ (0 ≤ c ∧ c ≤ 10000) ∧ (0 ≤ e ∧ e ≤ 10000)) : fewB a b c e = true := fewB_iff.2 h
theorem right_of {r : Rc} (h1 : 0 < r.kind ∧ r.kind < 10) (h2 : panB r.pan = true) (h3 : 0 ≤ r.amt ∧ r.amt ≤ 1000000) (h4 : fewB r.n0 r.n1 r.n2 r.n3 = true) (h5 : fewB r.j0 r.j1 r.j2 r.j3 = true) (h6 : fewB r.l0 r.l1 r.l2 r.l3 = true) : rightB r = true := by
  simp [rightB, h1, h2, h3, h4, h5, h6]
theorem seat_right {d k s m : Int} (k0 : 0 ≤ k) (k1 : k < 256) (s0 : 0 ≤ s) (s1 : s < 256) : rightB (seatR d k s m) = true := by
  have pe : panB ⟨#[]⟩ = true := by decide
  have q1 : 0 < d % 9 + 1 ∧ d % 9 + 1 < 10 := by omega
  have q3 : 0 ≤ m % 5000 ∧ m % 5000 ≤ 1000000 := by omega
  have q0 : fewB 0 0 0 0 = true := by decide
  have f1 : fewB (k % 4) (k / 4 % 4) 0 0 = true := few_of (by omega)
  have f2 : fewB (k / 16 % 2) 0 0 0 = true := few_of (by omega)
  have f3 : fewB (k / 3) (s % 8) 0 0 = true := few_of (by omega)
  have f4 : fewB k (k / 2) 10000 s = true := few_of (by omega)
  unfold seatR
  split
  · exact right_of q1 (panK_ok _) q3 q0 q0 q0
  · split
    · exact right_of q1 pe q3 f1 f2 q0
    · split
      · exact right_of q1 pe q3 f3 q0 f4
      · exact right_of q1 pe q3 q0 q0 q0
theorem seat_ok {d k s m : Int} : (seatR d k s m).Ok := by
  have q1 : 0 ≤ k % 3 ∧ k % 3 < 65536 := by omega
  have q2 : 0 ≤ s % 4 + 1 ∧ s % 4 + 1 < 4294967296 := by omega
  unfold seatR
  split
  · exact ⟨q1, q2⟩
  · split
    · exact ⟨q1, q2⟩
    · split
      · exact ⟨q1, q2⟩
      · exact ⟨q1, q2⟩
end Go.Proofs.Ythhgnflkplpklab.Frm
