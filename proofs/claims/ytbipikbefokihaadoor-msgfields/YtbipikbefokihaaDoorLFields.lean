/- MsgFields: a message with something that is no part of it, or out of range, is refused. For every input. -/
import Derived.Test.YtbipikbefokihaaDoorLKinds
import Derived.Test.YtbipikbefokihaaDoorReadR
namespace Go.Proofs.YtbipikbefokihaaDoor
open Go.ChangeShapes Go.WideShapes Go.ChangeAt Go.RowKit

/-- One number of a message is set. -/
theorem cell_set (m : Ms) (j : Nat) (h5 : 5 ≤ j) (h26 : j < 26) (v : Int) (hm : m.Ok) : ∃ r : Ms, r.cells = m.cells.take j ++ [.int .i64 v] ++ m.cells.drop (j + ([.int .i64 v] : List Value).length) ∧ r.Ok ∧ r.pan = m.pan := by
  have h : j = 5 ∨ j = 6 ∨ j = 7 ∨ j = 8 ∨ j = 9 ∨ j = 10 ∨ j = 11 ∨ j = 12 ∨ j = 13 ∨ j = 14 ∨ j = 15 ∨ j = 16 ∨ j = 17 ∨ j = 18 ∨ j = 19 ∨ j = 20 ∨ j = 21 ∨ j = 22 ∨ j = 23 ∨ j = 24 ∨ j = 25 := by omega
  rcases h with rfl | rfl | rfl | rfl | rfl | rfl | rfl | rfl | rfl | rfl | rfl | rfl | rfl | rfl | rfl | rfl | rfl | rfl | rfl | rfl | rfl
  · exact ⟨{ m with n0 := v }, rfl, hm, rfl⟩
  · exact ⟨{ m with n1 := v }, rfl, hm, rfl⟩
  · exact ⟨{ m with n2 := v }, rfl, hm, rfl⟩
  · exact ⟨{ m with n3 := v }, rfl, hm, rfl⟩
  · exact ⟨{ m with j0 := v }, rfl, hm, rfl⟩
  · exact ⟨{ m with j1 := v }, rfl, hm, rfl⟩
  · exact ⟨{ m with j2 := v }, rfl, hm, rfl⟩
  · exact ⟨{ m with j3 := v }, rfl, hm, rfl⟩
  · exact ⟨{ m with c0 := v }, rfl, hm, rfl⟩
  · exact ⟨{ m with c1 := v }, rfl, hm, rfl⟩
  · exact ⟨{ m with c2 := v }, rfl, hm, rfl⟩
  · exact ⟨{ m with c3 := v }, rfl, hm, rfl⟩
  · exact ⟨{ m with d0 := v }, rfl, hm, rfl⟩
  · exact ⟨{ m with d1 := v }, rfl, hm, rfl⟩
  · exact ⟨{ m with d2 := v }, rfl, hm, rfl⟩
  · exact ⟨{ m with d3 := v }, rfl, hm, rfl⟩
  · exact ⟨{ m with loads := v }, rfl, hm, rfl⟩
  · exact ⟨{ m with l0 := v }, rfl, hm, rfl⟩
  · exact ⟨{ m with l1 := v }, rfl, hm, rfl⟩
  · exact ⟨{ m with l2 := v }, rfl, hm, rfl⟩
  · exact ⟨{ m with l3 := v }, rfl, hm, rfl⟩
/-- A message that may be held: its terminal and number fit, its account is no longer than a machine holds. -/
def Hv (w : World) (b : Nat) (W : World) : Prop := ∃ r : Ms, RV w b r ∧ r.Ok ∧ r.pan.size ≤ 9223372036854775807 ∧ Below W.heap.size W w
theorem ex_12a : (ByteArray.mk #[49, 50, 97]).size ≤ 9223372036854775807 := by decide
theorem lt_msg {w : World} {b : Nat} {r : Ms} (h : w.rangeAt b 0 r.cells) : b < w.heap.size := World.block_lt_of_cell? w _ (h 0 _ rfl)
theorem and_one (n : Int) : bits .and .i64 n 1 = n % 2 := by
  have h : (BitVec.ofInt 64 1).toNat = 2 ^ 1 - 1 := by decide
  have key : (BitVec.ofInt 64 n &&& BitVec.ofInt 64 1).toNat = (n % ((2 ^ 64 : Nat) : Int)).toNat % 2 ^ 1 := by
    rw [BitVec.toNat_and, BitVec.toNat_ofInt, h, Nat.and_two_pow_sub_one_eq_mod]
  show IntKind.i64.wrap ((BitVec.ofInt 64 n &&& BitVec.ofInt 64 1).toNat : Nat) = n % 2
  rw [key, IntKind.wrap_i64]
  omega
set_option maxRecDepth 20000 in
set_option maxHeartbeats 16000000 in
theorem fields_walk (d k s t q v : Int) (W : World) (hd : 0 ≤ d ∧ d < 256) (hk : 0 ≤ k ∧ k < 256) (hs : 0 ≤ s ∧ s < 65536) (ht : 0 ≤ t ∧ t < 65536) (hq : 0 ≤ q ∧ q < 256) (hv : -9223372036854775808 ≤ v ∧ v ≤ 9223372036854775807) (hT : Tab W) :
    Calls Tryd.prog 5 #[.int .u8 d, .int .u8 k, .int .u16 s, .int .u16 t, .int .u8 q, .int .i64 v] W fun e w' => e = .returned (.bool true) ∧ Below W.heap.size W w' := by
  obtain ⟨X, hX⟩ : ∃ X, seatM d k s t = X := ⟨_, rfl⟩
  have MX : Hid (∀ w, Calls Tryd.prog 8 #[.int .u8 d, .int .u8 k, .int .u16 s, .int .u16 t] w fun e w' => e = .returned X.val ∧ Below w.heap.size w w') := fun w => by
    rw [← hX]; exact msg8 d k s t w hd.1 hd.2 hk.1 hk.2 hs.1 hs.2 ht.1 ht.2
  have XO : Hid X.Ok := by rw [← hX]; exact seat_ok
  have XP : Hid (X.pan.size ≤ 9223372036854775807) := by rw [← hX]; exact seat_pan
  have HT := hid hT
  have K0 := hid True.intro
  obtain ⟨q0, q1⟩ := hq
  obtain ⟨v0, v1⟩ := hv
  clear hX hd hk hs ht hT
  go_enter Tryd.func5, Tryd.ntmps5
  go_upto_region 4 with (first | (have kill := V3.out; refine rv_whole V3.out B3.out hb13 X rfl _ _ rfl rfl rfl ?_; intro w4 v4 l4 k4; have V4 := hid v4; have B4 := hid l4; clear v4 l4 k4 kill V3 B3) | (refine al27 rfl rfl ?_; have kill := B2.out; intro b13 w3 hx v3 l3; have V3 := hid v3; have B3 := hid (sq B2.out l3); have hb13 : W.heap.size ≤ b13 := Nat.le_trans B2.out.size hx; clear v3 l3 hx kill B2) | (go_at_call 8; have kill := B1.out; refine (MX.out _).mono ?_; rintro e w2 ⟨rfl, l2⟩; have B2 := hid (sq B1.out l2); clear l2 kill B1) | (go_at_call 7; have kill := K0.out; refine (known7 _ HT.out).mono ?_; rintro e w1 ⟨rfl, b1⟩; have B1 := hid b1; clear b1 kill K0))
  try simp only [Act.put, List.setIfInBounds_toArray, List.set_cons_zero, List.set_cons_succ]
  go_cut [14] from 26 (fun x wx => x = .int .i64 v ∧ wx = w4)
  case first =>
    go_wp2
    go_meet
    case rel => exact ⟨rfl, rfl⟩
  case rest =>
    obtain ⟨hx, rfl⟩ := hcut
    subst hx
    rename_i KR hKR
    refine hKR _ _ ?_
    apply wp_seq_k
    intro _ _
    go_cut [] from 19 (fun wx => Hv wx b13 W)
    case first =>
      obtain ⟨z, hz⟩ : ∃ z, q % 12 = z := ⟨_, rfl⟩
      have hz' : q.tmod 12 = z := by rw [Int.tmod_eq_emod_of_nonneg q0]; exact hz
      obtain ⟨p, hp⟩ : ∃ p, q / 12 = p := ⟨_, rfl⟩
      have hp' : q.tdiv 12 = p := by rw [Int.tdiv_eq_ediv_of_nonneg q0]; exact hp
      have hp0 : 0 ≤ p ∧ p < 22 := by omega
      obtain ⟨i, hi⟩ : ∃ i, p % 4 = i := ⟨_, rfl⟩
      have hi' : p.tmod 4 = i := by rw [Int.tmod_eq_emod_of_nonneg hp0.1]; exact hi
      have hi4 : i = 0 ∨ i = 1 ∨ i = 2 ∨ i = 3 := by omega
      obtain ⟨hp0, hp1⟩ := hp0
      have hz12 : z = 0 ∨ z = 1 ∨ z = 2 ∨ z = 3 ∨ z = 4 ∨ z = 5 ∨ z = 6 ∨ z = 7 ∨ z = 8 ∨ z = 9 ∨ z = 10 ∨ z = 11 := by omega
      have hb13' : W.heap.size ≤ b13 := hb13
      clear hp hi hz
      rcases hz12 with rfl | rfl | rfl | rfl | rfl | rfl | rfl | rfl | rfl | rfl | rfl | rfl
      · obtain ⟨U, hU⟩ : ∃ U, IntKind.u32.wrap v = U := ⟨_, rfl⟩
        have U0 : 0 ≤ U ∧ U < 4294967296 := by rw [← hU, IntKind.wrap_u32]; omega
        have HU := hid U0
        have FC : Hid (({ X with stan := U } : Ms).cells = X.cells.take 2 ++ [.int .u32 U] ++ X.cells.drop (2 + ([.int .u32 U] : List Value).length)) := rfl
        clear U0
        go_wp2_with ((have kill := V4.out; refine rv_store V4.out B4.out hb13' 23 2 [.int .u32 U] { X with stan := U } (by simp) FC.out n23 (one1 rfl) rfl _ _ rfl rfl rfl rfl ?_; intro w5 v5 l5; have V5 := hid v5; have B5 := hid l5; clear v5 l5 kill V4 B4))
        go_meet
        case rel => exact ⟨_, V5.out, ⟨XO.out.1, HU.out⟩, XP.out, B5.out⟩
      · obtain ⟨U, hU⟩ : ∃ U, IntKind.u64.wrap v = U := ⟨_, rfl⟩
        have U0 : 0 ≤ U ∧ U < 18446744073709551616 := by rw [← hU, IntKind.wrap_u64]; omega
        obtain ⟨g, hg⟩ : ∃ g : Nat, q % 25 = (g : Int) := ⟨(q % 25).toNat, by omega⟩
        have hg' : q.tmod 25 = (g : Int) := by rw [Int.tmod_eq_emod_of_nonneg q0]; exact hg
        have hgb : g ≤ 24 := by omega
        have HU := hid U0
        clear U0 hg
        go_wp2_with (first | (have kill := T6.out; refine rv_store V4.out B4.out hb13' 9 3 [.string tx] { X with pan := tx } (by simp) FC.out n9 (one1 rfl) rfl _ _ rfl rfl rfl rfl ?_; intro w5 v5 l5; have V5 := hid v5; have B5 := hid l5; clear v5 l5 kill V4 B4) | (go_at_call 16; have kill := HU.out; refine (digits7 U g _ HU.out.1 HU.out.2 (by omega)).mono ?_; rintro e w' ⟨tx, rfl, htx, hd, rfl⟩; have T6 := hid htx; have FC : Hid (({ X with pan := tx } : Ms).cells = X.cells.take 3 ++ [.string tx] ++ X.cells.drop (3 + ([.string tx] : List Value).length)) := rfl; clear htx hd kill HU))
        go_meet
        case rel => exact ⟨_, V5.out, XO.out, by have := T6.out; show tx.size ≤ 9223372036854775807; omega, B5.out⟩
      · have FC : Hid (({ X with amt := v } : Ms).cells = X.cells.take 4 ++ [.int .i64 v] ++ X.cells.drop (4 + ([.int .i64 v] : List Value).length)) := rfl
        go_wp2_with ((have kill := V4.out; refine rv_store V4.out B4.out hb13' 2 4 [.int .i64 v] { X with amt := v } (by simp) FC.out n2 (one1 rfl) rfl _ _ rfl rfl rfl rfl ?_; intro w5 v5 l5; have V5 := hid v5; have B5 := hid l5; clear v5 l5 kill V4 B4))
        go_meet
        case rel => exact ⟨_, V5.out, XO.out, XP.out, B5.out⟩
      · rcases hi4 with rfl | rfl | rfl | rfl
        · obtain ⟨r, hr, ro, rp⟩ := cell_set X 5 (by omega) (by omega) v XO.out
          have HR := hid hr
          have RO := hid ro
          have RP : Hid (r.pan.size ≤ 9223372036854775807) := by rw [rp]; exact XP.out
          clear hr ro rp
          go_wp2_with ((have kill := V4.out; refine rv_store V4.out B4.out hb13' 3 5 [.int .i64 v] r (by simp) HR.out n3 (one1 rfl) rfl _ _ rfl rfl rfl rfl ?_; intro w5 v5 l5; have V5 := hid v5; have B5 := hid l5; clear v5 l5 kill V4 B4))
          go_meet
          case rel => exact ⟨_, V5.out, RO.out, RP.out, B5.out⟩
        · obtain ⟨r, hr, ro, rp⟩ := cell_set X 6 (by omega) (by omega) v XO.out
          have HR := hid hr
          have RO := hid ro
          have RP : Hid (r.pan.size ≤ 9223372036854775807) := by rw [rp]; exact XP.out
          clear hr ro rp
          go_wp2_with ((have kill := V4.out; refine rv_store V4.out B4.out hb13' 3 6 [.int .i64 v] r (by simp) HR.out n3 (one1 rfl) rfl _ _ rfl rfl rfl rfl ?_; intro w5 v5 l5; have V5 := hid v5; have B5 := hid l5; clear v5 l5 kill V4 B4))
          go_meet
          case rel => exact ⟨_, V5.out, RO.out, RP.out, B5.out⟩
        · obtain ⟨r, hr, ro, rp⟩ := cell_set X 7 (by omega) (by omega) v XO.out
          have HR := hid hr
          have RO := hid ro
          have RP : Hid (r.pan.size ≤ 9223372036854775807) := by rw [rp]; exact XP.out
          clear hr ro rp
          go_wp2_with ((have kill := V4.out; refine rv_store V4.out B4.out hb13' 3 7 [.int .i64 v] r (by simp) HR.out n3 (one1 rfl) rfl _ _ rfl rfl rfl rfl ?_; intro w5 v5 l5; have V5 := hid v5; have B5 := hid l5; clear v5 l5 kill V4 B4))
          go_meet
          case rel => exact ⟨_, V5.out, RO.out, RP.out, B5.out⟩
        · obtain ⟨r, hr, ro, rp⟩ := cell_set X 8 (by omega) (by omega) v XO.out
          have HR := hid hr
          have RO := hid ro
          have RP : Hid (r.pan.size ≤ 9223372036854775807) := by rw [rp]; exact XP.out
          clear hr ro rp
          go_wp2_with ((have kill := V4.out; refine rv_store V4.out B4.out hb13' 3 8 [.int .i64 v] r (by simp) HR.out n3 (one1 rfl) rfl _ _ rfl rfl rfl rfl ?_; intro w5 v5 l5; have V5 := hid v5; have B5 := hid l5; clear v5 l5 kill V4 B4))
          go_meet
          case rel => exact ⟨_, V5.out, RO.out, RP.out, B5.out⟩
      · rcases hi4 with rfl | rfl | rfl | rfl
        · obtain ⟨r, hr, ro, rp⟩ := cell_set X 9 (by omega) (by omega) v XO.out
          have HR := hid hr
          have RO := hid ro
          have RP : Hid (r.pan.size ≤ 9223372036854775807) := by rw [rp]; exact XP.out
          clear hr ro rp
          go_wp2_with ((have kill := V4.out; refine rv_store V4.out B4.out hb13' 3 9 [.int .i64 v] r (by simp) HR.out n3 (one1 rfl) rfl _ _ rfl rfl rfl rfl ?_; intro w5 v5 l5; have V5 := hid v5; have B5 := hid l5; clear v5 l5 kill V4 B4))
          go_meet
          case rel => exact ⟨_, V5.out, RO.out, RP.out, B5.out⟩
        · obtain ⟨r, hr, ro, rp⟩ := cell_set X 10 (by omega) (by omega) v XO.out
          have HR := hid hr
          have RO := hid ro
          have RP : Hid (r.pan.size ≤ 9223372036854775807) := by rw [rp]; exact XP.out
          clear hr ro rp
          go_wp2_with ((have kill := V4.out; refine rv_store V4.out B4.out hb13' 3 10 [.int .i64 v] r (by simp) HR.out n3 (one1 rfl) rfl _ _ rfl rfl rfl rfl ?_; intro w5 v5 l5; have V5 := hid v5; have B5 := hid l5; clear v5 l5 kill V4 B4))
          go_meet
          case rel => exact ⟨_, V5.out, RO.out, RP.out, B5.out⟩
        · obtain ⟨r, hr, ro, rp⟩ := cell_set X 11 (by omega) (by omega) v XO.out
          have HR := hid hr
          have RO := hid ro
          have RP : Hid (r.pan.size ≤ 9223372036854775807) := by rw [rp]; exact XP.out
          clear hr ro rp
          go_wp2_with ((have kill := V4.out; refine rv_store V4.out B4.out hb13' 3 11 [.int .i64 v] r (by simp) HR.out n3 (one1 rfl) rfl _ _ rfl rfl rfl rfl ?_; intro w5 v5 l5; have V5 := hid v5; have B5 := hid l5; clear v5 l5 kill V4 B4))
          go_meet
          case rel => exact ⟨_, V5.out, RO.out, RP.out, B5.out⟩
        · obtain ⟨r, hr, ro, rp⟩ := cell_set X 12 (by omega) (by omega) v XO.out
          have HR := hid hr
          have RO := hid ro
          have RP : Hid (r.pan.size ≤ 9223372036854775807) := by rw [rp]; exact XP.out
          clear hr ro rp
          go_wp2_with ((have kill := V4.out; refine rv_store V4.out B4.out hb13' 3 12 [.int .i64 v] r (by simp) HR.out n3 (one1 rfl) rfl _ _ rfl rfl rfl rfl ?_; intro w5 v5 l5; have V5 := hid v5; have B5 := hid l5; clear v5 l5 kill V4 B4))
          go_meet
          case rel => exact ⟨_, V5.out, RO.out, RP.out, B5.out⟩
      · rcases hi4 with rfl | rfl | rfl | rfl
        · obtain ⟨r, hr, ro, rp⟩ := cell_set X 13 (by omega) (by omega) v XO.out
          have HR := hid hr
          have RO := hid ro
          have RP : Hid (r.pan.size ≤ 9223372036854775807) := by rw [rp]; exact XP.out
          clear hr ro rp
          go_wp2_with ((have kill := V4.out; refine rv_store V4.out B4.out hb13' 3 13 [.int .i64 v] r (by simp) HR.out n3 (one1 rfl) rfl _ _ rfl rfl rfl rfl ?_; intro w5 v5 l5; have V5 := hid v5; have B5 := hid l5; clear v5 l5 kill V4 B4))
          go_meet
          case rel => exact ⟨_, V5.out, RO.out, RP.out, B5.out⟩
        · obtain ⟨r, hr, ro, rp⟩ := cell_set X 14 (by omega) (by omega) v XO.out
          have HR := hid hr
          have RO := hid ro
          have RP : Hid (r.pan.size ≤ 9223372036854775807) := by rw [rp]; exact XP.out
          clear hr ro rp
          go_wp2_with ((have kill := V4.out; refine rv_store V4.out B4.out hb13' 3 14 [.int .i64 v] r (by simp) HR.out n3 (one1 rfl) rfl _ _ rfl rfl rfl rfl ?_; intro w5 v5 l5; have V5 := hid v5; have B5 := hid l5; clear v5 l5 kill V4 B4))
          go_meet
          case rel => exact ⟨_, V5.out, RO.out, RP.out, B5.out⟩
        · obtain ⟨r, hr, ro, rp⟩ := cell_set X 15 (by omega) (by omega) v XO.out
          have HR := hid hr
          have RO := hid ro
          have RP : Hid (r.pan.size ≤ 9223372036854775807) := by rw [rp]; exact XP.out
          clear hr ro rp
          go_wp2_with ((have kill := V4.out; refine rv_store V4.out B4.out hb13' 3 15 [.int .i64 v] r (by simp) HR.out n3 (one1 rfl) rfl _ _ rfl rfl rfl rfl ?_; intro w5 v5 l5; have V5 := hid v5; have B5 := hid l5; clear v5 l5 kill V4 B4))
          go_meet
          case rel => exact ⟨_, V5.out, RO.out, RP.out, B5.out⟩
        · obtain ⟨r, hr, ro, rp⟩ := cell_set X 16 (by omega) (by omega) v XO.out
          have HR := hid hr
          have RO := hid ro
          have RP : Hid (r.pan.size ≤ 9223372036854775807) := by rw [rp]; exact XP.out
          clear hr ro rp
          go_wp2_with ((have kill := V4.out; refine rv_store V4.out B4.out hb13' 3 16 [.int .i64 v] r (by simp) HR.out n3 (one1 rfl) rfl _ _ rfl rfl rfl rfl ?_; intro w5 v5 l5; have V5 := hid v5; have B5 := hid l5; clear v5 l5 kill V4 B4))
          go_meet
          case rel => exact ⟨_, V5.out, RO.out, RP.out, B5.out⟩
      · rcases hi4 with rfl | rfl | rfl | rfl
        · obtain ⟨r, hr, ro, rp⟩ := cell_set X 17 (by omega) (by omega) v XO.out
          have HR := hid hr
          have RO := hid ro
          have RP : Hid (r.pan.size ≤ 9223372036854775807) := by rw [rp]; exact XP.out
          clear hr ro rp
          go_wp2_with ((have kill := V4.out; refine rv_store V4.out B4.out hb13' 3 17 [.int .i64 v] r (by simp) HR.out n3 (one1 rfl) rfl _ _ rfl rfl rfl rfl ?_; intro w5 v5 l5; have V5 := hid v5; have B5 := hid l5; clear v5 l5 kill V4 B4))
          go_meet
          case rel => exact ⟨_, V5.out, RO.out, RP.out, B5.out⟩
        · obtain ⟨r, hr, ro, rp⟩ := cell_set X 18 (by omega) (by omega) v XO.out
          have HR := hid hr
          have RO := hid ro
          have RP : Hid (r.pan.size ≤ 9223372036854775807) := by rw [rp]; exact XP.out
          clear hr ro rp
          go_wp2_with ((have kill := V4.out; refine rv_store V4.out B4.out hb13' 3 18 [.int .i64 v] r (by simp) HR.out n3 (one1 rfl) rfl _ _ rfl rfl rfl rfl ?_; intro w5 v5 l5; have V5 := hid v5; have B5 := hid l5; clear v5 l5 kill V4 B4))
          go_meet
          case rel => exact ⟨_, V5.out, RO.out, RP.out, B5.out⟩
        · obtain ⟨r, hr, ro, rp⟩ := cell_set X 19 (by omega) (by omega) v XO.out
          have HR := hid hr
          have RO := hid ro
          have RP : Hid (r.pan.size ≤ 9223372036854775807) := by rw [rp]; exact XP.out
          clear hr ro rp
          go_wp2_with ((have kill := V4.out; refine rv_store V4.out B4.out hb13' 3 19 [.int .i64 v] r (by simp) HR.out n3 (one1 rfl) rfl _ _ rfl rfl rfl rfl ?_; intro w5 v5 l5; have V5 := hid v5; have B5 := hid l5; clear v5 l5 kill V4 B4))
          go_meet
          case rel => exact ⟨_, V5.out, RO.out, RP.out, B5.out⟩
        · obtain ⟨r, hr, ro, rp⟩ := cell_set X 20 (by omega) (by omega) v XO.out
          have HR := hid hr
          have RO := hid ro
          have RP : Hid (r.pan.size ≤ 9223372036854775807) := by rw [rp]; exact XP.out
          clear hr ro rp
          go_wp2_with ((have kill := V4.out; refine rv_store V4.out B4.out hb13' 3 20 [.int .i64 v] r (by simp) HR.out n3 (one1 rfl) rfl _ _ rfl rfl rfl rfl ?_; intro w5 v5 l5; have V5 := hid v5; have B5 := hid l5; clear v5 l5 kill V4 B4))
          go_meet
          case rel => exact ⟨_, V5.out, RO.out, RP.out, B5.out⟩
      · skip
        obtain ⟨r, hr, ro, rp⟩ := cell_set X 21 (by omega) (by omega) v XO.out
        have HR := hid hr
        have RO := hid ro
        have RP : Hid (r.pan.size ≤ 9223372036854775807) := by rw [rp]; exact XP.out
        clear hr ro rp
        go_wp2_with ((have kill := V4.out; refine rv_store V4.out B4.out hb13' 3 21 [.int .i64 v] r (by simp) HR.out n3 (one1 rfl) rfl _ _ rfl rfl rfl rfl ?_; intro w5 v5 l5; have V5 := hid v5; have B5 := hid l5; clear v5 l5 kill V4 B4))
        go_meet
        case rel => exact ⟨_, V5.out, RO.out, RP.out, B5.out⟩
      · rcases hi4 with rfl | rfl | rfl | rfl
        · obtain ⟨r, hr, ro, rp⟩ := cell_set X 22 (by omega) (by omega) v XO.out
          have HR := hid hr
          have RO := hid ro
          have RP : Hid (r.pan.size ≤ 9223372036854775807) := by rw [rp]; exact XP.out
          clear hr ro rp
          go_wp2_with ((have kill := V4.out; refine rv_store V4.out B4.out hb13' 3 22 [.int .i64 v] r (by simp) HR.out n3 (one1 rfl) rfl _ _ rfl rfl rfl rfl ?_; intro w5 v5 l5; have V5 := hid v5; have B5 := hid l5; clear v5 l5 kill V4 B4))
          go_meet
          case rel => exact ⟨_, V5.out, RO.out, RP.out, B5.out⟩
        · obtain ⟨r, hr, ro, rp⟩ := cell_set X 23 (by omega) (by omega) v XO.out
          have HR := hid hr
          have RO := hid ro
          have RP : Hid (r.pan.size ≤ 9223372036854775807) := by rw [rp]; exact XP.out
          clear hr ro rp
          go_wp2_with ((have kill := V4.out; refine rv_store V4.out B4.out hb13' 3 23 [.int .i64 v] r (by simp) HR.out n3 (one1 rfl) rfl _ _ rfl rfl rfl rfl ?_; intro w5 v5 l5; have V5 := hid v5; have B5 := hid l5; clear v5 l5 kill V4 B4))
          go_meet
          case rel => exact ⟨_, V5.out, RO.out, RP.out, B5.out⟩
        · obtain ⟨r, hr, ro, rp⟩ := cell_set X 24 (by omega) (by omega) v XO.out
          have HR := hid hr
          have RO := hid ro
          have RP : Hid (r.pan.size ≤ 9223372036854775807) := by rw [rp]; exact XP.out
          clear hr ro rp
          go_wp2_with ((have kill := V4.out; refine rv_store V4.out B4.out hb13' 3 24 [.int .i64 v] r (by simp) HR.out n3 (one1 rfl) rfl _ _ rfl rfl rfl rfl ?_; intro w5 v5 l5; have V5 := hid v5; have B5 := hid l5; clear v5 l5 kill V4 B4))
          go_meet
          case rel => exact ⟨_, V5.out, RO.out, RP.out, B5.out⟩
        · obtain ⟨r, hr, ro, rp⟩ := cell_set X 25 (by omega) (by omega) v XO.out
          have HR := hid hr
          have RO := hid ro
          have RP : Hid (r.pan.size ≤ 9223372036854775807) := by rw [rp]; exact XP.out
          clear hr ro rp
          go_wp2_with ((have kill := V4.out; refine rv_store V4.out B4.out hb13' 3 25 [.int .i64 v] r (by simp) HR.out n3 (one1 rfl) rfl _ _ rfl rfl rfl rfl ?_; intro w5 v5 l5; have V5 := hid v5; have B5 := hid l5; clear v5 l5 kill V4 B4))
          go_meet
          case rel => exact ⟨_, V5.out, RO.out, RP.out, B5.out⟩
      · have FC : Hid (({ X with kind := v } : Ms).cells = X.cells.take 0 ++ [.int .i64 v] ++ X.cells.drop (0 + ([.int .i64 v] : List Value).length)) := rfl
        go_wp2_with ((have kill := V4.out; refine rv_store V4.out B4.out hb13' 3 0 [.int .i64 v] { X with kind := v } (by simp) FC.out n3 (one1 rfl) rfl _ _ rfl rfl rfl rfl ?_; intro w5 v5 l5; have V5 := hid v5; have B5 := hid l5; clear v5 l5 kill V4 B4))
        go_meet
        case rel => exact ⟨_, V5.out, XO.out, XP.out, B5.out⟩
      · have FC : Hid (({ X with pan := ⟨#[49, 50, 97]⟩ } : Ms).cells = X.cells.take 3 ++ [.string ⟨#[49, 50, 97]⟩] ++ X.cells.drop (3 + ([.string ⟨#[49, 50, 97]⟩] : List Value).length)) := rfl
        go_wp2_with ((have kill := V4.out; refine rv_store V4.out B4.out hb13' 9 3 [.string ⟨#[49, 50, 97]⟩] { X with pan := ⟨#[49, 50, 97]⟩ } (by simp) FC.out n9 (one1 rfl) rfl _ _ rfl rfl rfl rfl ?_; intro w5 v5 l5; have V5 := hid v5; have B5 := hid l5; clear v5 l5 kill V4 B4))
        go_meet
        case rel => exact ⟨_, V5.out, XO.out, ex_12a, B5.out⟩
      · skip
        obtain ⟨y, hy⟩ : ∃ y, v % 2 = y := ⟨_, rfl⟩
        have hy' : bits .and .i64 v 1 = y := by rw [← hy]; exact and_one v
        have hy2 : 0 ≤ y ∧ y < 2 := by omega
        obtain ⟨u, hu⟩ : ∃ u, 10000 + y = u := ⟨_, rfl⟩
        obtain ⟨hy0, hy1⟩ := hy2
        clear hy
        obtain ⟨r, hr, ro, rp⟩ := cell_set X 5 (by omega) (by omega) u XO.out
        have HR := hid hr
        have RO := hid ro
        have RP : Hid (r.pan.size ≤ 9223372036854775807) := by rw [rp]; exact XP.out
        clear hr ro rp
        go_wp2_with ((have kill := V4.out; refine rv_store V4.out B4.out hb13' 3 5 [.int .i64 u] r (by simp) HR.out n3 (one1 rfl) rfl _ _ rfl rfl rfl rfl ?_; intro w5 v5 l5; have V5 := hid v5; have B5 := hid l5; clear v5 l5 kill V4 B4))
        go_meet
        case rel => exact ⟨_, V5.out, RO.out, RP.out, B5.out⟩
    case rest =>
      obtain ⟨r, hr, ro, rp, hbel⟩ := hcut
      have R0 := hid hr
      have RO := hid ro
      have RP := hid rp
      have BR := hid hbel
      clear hr ro rp hbel V4 B4
      obtain ⟨PL, hPL⟩ : ∃ l, putL r = l := ⟨_, rfl⟩
      obtain ⟨PE, hPE⟩ : ∃ l, putE r = l := ⟨_, rfl⟩
      obtain ⟨RL, hRL⟩ : ∃ l, rightL r = l := ⟨_, rfl⟩
      obtain ⟨S, hS⟩ : ∃ l, strOfNums PL = l := ⟨_, rfl⟩
      have HPL := hid hPL
      have HPE := hid hPE
      have HRL := hid hRL
      have HS := hid hS
      clear hPL hPE hRL hS
      go_upto_region 31 with (first | (go_at_call 10; have kill := D5.out; refine (put10 r _ RO.out RP.out).mono ?_; rintro e w6 ⟨a6, n6, c6, rfl, d6⟩; rw [HPL.out] at d6; rw [HPE.out]; have D6 := hid d6; have E6 := hid (D5.out.more d6.2); have R6 := hid (R5.out.below d6.2); have B6 := hid (sq B5.out d6.2); clear d6 kill D5 R5 B5) | (have kill := D5.out; refine ld27 R5.out rfl _ rfl rfl ?_) | (go_at_call 9; have kill := BR.out; refine (put9 r _ RO.out RP.out (HT.out.below BR.out)).mono ?_; rintro e w5 ⟨a5, n5, c5, rfl, d5⟩; rw [HPL.out] at d5; rw [HPE.out]; have D5 := hid d5; have R5 := hid (R0.out.below d5.2); have B5 := hid (sq BR.out d5.2); clear d5 kill BR R0) | (have kill := R0.out; refine ld27 R0.out rfl _ rfl rfl ?_))
      have CX := hid (fun w (h : RowAt w a5 PL) => run_str w a5 PL n5 c5 E6.out.1.len h)
      have CY := hid (fun w (h : RowAt w a6 PL) => run_str w a6 PL n6 c6 D6.out.1.len h)
      rw [HS.out] at CX CY
      refine wp_region_noPanic ?_
      refine wp_region_held_drew (S := (fun w' : World => w'.rangeAt b13 0 r.cells ∧ (RowAt w' a5 PL ∧ RowAt w' a6 PL))) (by kernel_rfl) ⟨R6.out.at0, E6.out.1.at, D6.out.1.at⟩ (fun hHeld => ?_)
      have BZ := hid (B6.out.drew)
      refine tk_ms 0 (some 113) r rfl rfl (by kernel_rfl) (by kernel_rfl) (by kernel_rfl) (fun _ _ _ h => h) (by rfl) _ rfl rfl (fun w hSw => hSw.1) hHeld ?_
      simp only [Act.put, List.setIfInBounds_toArray, List.set_cons_zero, List.set_cons_succ]
      refine tk_ms 2 (some 115) r rfl rfl (by kernel_rfl) (by kernel_rfl) (by kernel_rfl) (fun _ _ _ h => h) (by rfl) _ rfl rfl (fun w hSw => hSw.1) hHeld ?_
      simp only [Act.put, List.setIfInBounds_toArray, List.set_cons_zero, List.set_cons_succ]
      refine wpAnyH_ready (rs := [1]) (by kernel_rfl) (by simp) ?_
      refine AllReadyH.cons rfl (fun K hK => ?_) AllReadyH.nil
      go_simp
      go_at_call 11
      refine (right11 r _ RO.out RP.out).mono ?_
      rintro e wk1 ⟨rfl, l1⟩
      rw [HRL.out]
      have BZ1 := hid (sq BZ.out l1)
      have HH1 : Hid (wk1.rangeAt b13 0 r.cells ∧ (RowAt wk1 a5 PL ∧ RowAt wk1 a6 PL)) := ⟨range_kept hHeld.1 (l1.block _ (lt_msg hHeld.1)), row_mono l1 hHeld.2.1, row_mono l1 hHeld.2.2⟩
      go_wp2_with fail
      refine hK.out _ _ HH1.out (fun hHeld => ?_)
      clear hK K l1
      try simp only [Act.put, List.setIfInBounds_toArray, List.set_cons_zero, List.set_cons_succ]
      refine wpAnyH_ready (rs := [3]) (by kernel_rfl) (by simp) ?_
      refine AllReadyH.cons rfl (fun K hK => ?_) AllReadyH.nil
      go_simp
      go_at_call 12
      refine (right12 r _ RO.out RP.out).mono ?_
      rintro e wk2 ⟨rfl, l2⟩
      rw [HRL.out]
      have BZ2 := hid (sq BZ1.out l2)
      have HH2 : Hid (wk2.rangeAt b13 0 r.cells ∧ (RowAt wk2 a5 PL ∧ RowAt wk2 a6 PL)) := ⟨range_kept hHeld.1 (l2.block _ (lt_msg hHeld.1)), row_mono l2 hHeld.2.1, row_mono l2 hHeld.2.2⟩
      go_wp2_with fail
      refine hK.out _ _ HH2.out (fun hHeld => ?_)
      clear hK K l2
      try simp only [Act.put, List.setIfInBounds_toArray, List.set_cons_zero, List.set_cons_succ]
      (refine tk_yes (v := ?_) 4 (some 117) rfl rfl (by kernel_rfl) (by kernel_rfl) (by kernel_rfl) (fun _ _ _ h => h) (by rfl) ?_ hHeld ?_; rotate_left; focus (intro w hSw; go_simp; try with_reducible rfl))
      simp only [Act.put, List.setIfInBounds_toArray, List.set_cons_zero, List.set_cons_succ]
      (refine tk_yes (v := ?_) 5 (some 118) rfl rfl (by kernel_rfl) (by kernel_rfl) (by kernel_rfl) (fun _ _ _ h => h) (by rfl) ?_ hHeld ?_; rotate_left; focus (intro w hSw; go_simp; try with_reducible rfl))
      simp only [Act.put, List.setIfInBounds_toArray, List.set_cons_zero, List.set_cons_succ]
      (refine tk_yes (v := ?_) 6 (some 119) rfl rfl (by kernel_rfl) (by kernel_rfl) (by kernel_rfl) (fun _ _ _ h => h) (by rfl) ?_ hHeld ?_; rotate_left; focus (intro w hSw; go_simp; try with_reducible rfl))
      simp only [Act.put, List.setIfInBounds_toArray, List.set_cons_zero, List.set_cons_succ]
      (refine tk_yes (v := ?_) 7 (some 120) rfl rfl (by kernel_rfl) (by kernel_rfl) (by kernel_rfl) (fun _ _ _ h => h) (by rfl) ?_ hHeld ?_; rotate_left; focus (intro w hSw; go_simp; try with_reducible rfl))
      simp only [Act.put, List.setIfInBounds_toArray, List.set_cons_zero, List.set_cons_succ]
      (refine tk_yes (v := ?_) 8 (some 121) rfl rfl (by kernel_rfl) (by kernel_rfl) (by kernel_rfl) (fun _ _ _ h => h) (by rfl) ?_ hHeld ?_; rotate_left; focus (intro w hSw; go_simp; try with_reducible rfl))
      simp only [Act.put, List.setIfInBounds_toArray, List.set_cons_zero, List.set_cons_succ]
      (refine tk_yes (v := ?_) 9 (some 122) rfl rfl (by kernel_rfl) (by kernel_rfl) (by kernel_rfl) (fun _ _ _ h => h) (by rfl) ?_ hHeld ?_; rotate_left; focus (intro w hSw; go_simp; try with_reducible rfl))
      simp only [Act.put, List.setIfInBounds_toArray, List.set_cons_zero, List.set_cons_succ]
      (refine tk_yes (v := ?_) 10 (some 123) rfl rfl (by kernel_rfl) (by kernel_rfl) (by kernel_rfl) (fun _ _ _ h => h) (by rfl) ?_ hHeld ?_; rotate_left; focus (intro w hSw; go_simp; try with_reducible rfl))
      simp only [Act.put, List.setIfInBounds_toArray, List.set_cons_zero, List.set_cons_succ]
      (refine tk_yes (v := ?_) 11 (some 124) rfl rfl (by kernel_rfl) (by kernel_rfl) (by kernel_rfl) (fun _ _ _ h => h) (by rfl) ?_ hHeld ?_; rotate_left; focus (intro w hSw; go_simp; try with_reducible rfl))
      simp only [Act.put, List.setIfInBounds_toArray, List.set_cons_zero, List.set_cons_succ]
      (refine tk_yes (v := .string S) 12 (some 125) rfl rfl (by kernel_rfl) (by kernel_rfl) (by kernel_rfl) (fun _ _ _ h => h) (by rfl) ?_ hHeld ?_; focus (intro w hSw; have hcv := CX.out w hSw.2.1; go_simp; try with_reducible rfl))
      simp only [Act.put, List.setIfInBounds_toArray, List.set_cons_zero, List.set_cons_succ]
      (refine tk_yes (v := ?_) 13 (some 126) rfl rfl (by kernel_rfl) (by kernel_rfl) (by kernel_rfl) (fun _ _ _ h => h) (by rfl) ?_ hHeld ?_; rotate_left; focus (intro w hSw; go_simp; try with_reducible rfl))
      simp only [Act.put, List.setIfInBounds_toArray, List.set_cons_zero, List.set_cons_succ]
      (refine tk_yes (v := .string S) 14 (some 127) rfl rfl (by kernel_rfl) (by kernel_rfl) (by kernel_rfl) (fun _ _ _ h => h) (by rfl) ?_ hHeld ?_; focus (intro w hSw; have hcv := CY.out w hSw.2.2; go_simp; try with_reducible rfl))
      simp only [Act.put, List.setIfInBounds_toArray, List.set_cons_zero, List.set_cons_succ]
      (refine tk_yes (v := ?_) 15 (some 128) rfl rfl (by kernel_rfl) (by kernel_rfl) (by kernel_rfl) (fun _ _ _ h => h) (by rfl) ?_ hHeld ?_; rotate_left; focus (intro w hSw; go_simp; try with_reducible rfl))
      simp only [Act.put, List.setIfInBounds_toArray, List.set_cons_zero, List.set_cons_succ]
      (refine tk_yes (v := ?_) 16 (some 129) rfl rfl (by kernel_rfl) (by kernel_rfl) (by kernel_rfl) (fun _ _ _ h => h) (by rfl) ?_ hHeld ?_; rotate_left; focus (intro w hSw; go_simp; try with_reducible rfl))
      simp only [Act.put, List.setIfInBounds_toArray, List.set_cons_zero, List.set_cons_succ]
      (refine tk_yes (v := ?_) 17 (some 12) rfl rfl (by kernel_rfl) (by kernel_rfl) (by kernel_rfl) (fun _ _ _ h => h) (by rfl) ?_ hHeld ?_; rotate_left; focus (intro w hSw; go_simp; try with_reducible rfl))
      simp only [Act.put, List.setIfInBounds_toArray, List.set_cons_zero, List.set_cons_succ]
      refine wpAnyH_done (by kernel_rfl) ?_ _
      refine NoPanic.normal ?_
      go_wp2
      go_ret
      exact ⟨rfl, BZ2.out⟩
set_option maxRecDepth 100000 in
set_option maxHeartbeats 1000000 in
theorem msgFields_lifted (os : Os) (started : os.Started) (H : Type) (enc : TypeId × Value → H) :
    ReturnsInHanded {} Tryd.checked os 5 .any (fun w args => (Rows.msgFieldsSpec.pre enc Tryd.prog Tryd.f5 [] false w args ∧ laidMetH Tryd.prog lst w) ∧ sizedMet enc Tryd.prog Tryd.f5 (OpenSpec.ofChange Rows.msgFieldsSpec) false w args)
      (Rows.msgFieldsSpec.post enc Tryd.prog Tryd.f5 false true false false) := by
  refine returnsInHanded_of_change_and (C := Tryd.checked) (X := fun w _ => laidMetH Tryd.prog lst w) (fun _ _ _ hh h => h.of_heap hh) laid_own started (by kernel_rfl) Tryd.func5
    (ChangeSpec.witness_shaped (enc := enc) (C := Tryd.checked) (os := os) (X := fun w _ => laidMetH Tryd.prog lst w) false (World.doorLaid Tryd.prog 4000 os) #[.int .u8 0, .int .u8 0, .int .u16 0, .int .u16 0, .int .u8 0, .int .i64 0] 8 rfl (World.shaped_of_RefB (by kernel_rfl) (by kernel_rfl)) (by kernel_rfl) (by kernel_rfl) (by kernel_rfl) (door_met os _)) ?_
  intro W base args ds gs before hval0 hW _ _ hL _
  have hval : ∀ (j : Nat) t v, Tryd.f5.params[j]? = some t → args[j]? = some v → Value.okWide Tryd.prog W .any base t v := hval0
  have hW' := hW
  obtain ⟨p, q, hA0, hV, rfl, hfz, hnd⟩ := hW
  have hA : DataW.TrodAll enc Tryd.prog W 0 (fun _ => true) true Tryd.f5.params.toList args.toList ds p := hA0
  rw [Tryd.params5] at hA hval
  obtain ⟨v0, vs0, d0, ds0, p0, q0, hargs, rfl, rfl, h0, r0⟩ := trodAll_cons hA
  obtain ⟨v1, vs1, d1, ds1, p1, q1, rfl, rfl, rfl, h1, r1⟩ := trodAll_cons r0
  obtain ⟨v2, vs2, d2, ds2, p2, q2, rfl, rfl, rfl, h2, r2⟩ := trodAll_cons r1
  obtain ⟨v3, vs3, d3, ds3, p3, q3, rfl, rfl, rfl, h3, r3⟩ := trodAll_cons r2
  obtain ⟨v4, vs4, d4, ds4, p4, q4, rfl, rfl, rfl, h4, r4⟩ := trodAll_cons r3
  obtain ⟨v5, vs5, d5, ds5, p5, q5, rfl, rfl, rfl, h5, r5⟩ := trodAll_cons r4
  obtain ⟨rfl, rfl, rfl⟩ := trodAll_nil r5
  obtain rfl : args = #[v0, v1, v2, v3, v4, v5] := by cases args; simp_all
  obtain ⟨rfl, rfl⟩ := trodVars_none hV
  obtain ⟨a0, rfl, rfl, rfl, w0⟩ := open_int Tryd.underlying5 (hval 0 5 v0 rfl rfl) h0
  obtain ⟨a1, rfl, rfl, rfl, w1⟩ := open_int Tryd.underlying5 (hval 1 5 v1 rfl rfl) h1
  obtain ⟨a2, rfl, rfl, rfl, w2⟩ := open_int Tryd.underlying22 (hval 2 22 v2 rfl rfl) h2
  obtain ⟨a3, rfl, rfl, rfl, w3⟩ := open_int Tryd.underlying22 (hval 3 22 v3 rfl rfl) h3
  obtain ⟨a4, rfl, rfl, rfl, w4⟩ := open_int Tryd.underlying5 (hval 4 5 v4 rfl rfl) h4
  obtain ⟨a5, rfl, rfl, rfl, w5⟩ := open_int Tryd.underlying2 (hval 5 2 v5 rfl rfl) h5
  clear hA0 hval0
  refine (fields_walk a0 a1 a2 a3 a4 a5 W (by have := bounds_u8 w0; omega) (by have := bounds_u8 w1; omega) (by have := bounds_u16 w2; omega) (by have := bounds_u16 w3; omega) (by have := bounds_u8 w4; omega) (by have := bounds_i64 w5; omega) (tab_of hL)).mono fun e W' ⟨he, bel⟩ => ?_
  subst he
  exact ⟨_, rfl, _, _, _, [], _, [], hW', trodAll_mk1 (shut_bool Tryd.underlying4 _), (trodAll_cons_mk (shut_int Tryd.underlying5 w0) (trodAll_cons_mk (shut_int Tryd.underlying5 w1) (trodAll_cons_mk (shut_int Tryd.underlying22 w2) (trodAll_cons_mk (shut_int Tryd.underlying22 w3) (trodAll_cons_mk (shut_int Tryd.underlying5 w4) (trodAll_cons_mk (shut_int Tryd.underlying2 w5) trodAll_mk0)))))), rfl, bel.frame _, fun h => by cases h⟩

theorem msgFields_over : Rows.msgFieldsRow.holds Tryd.pinned (OpenSpec.ofChange Rows.msgFieldsSpec) :=
  OpenClaim.holds_of_wide 5 Tryd.f5 rfl rfl rfl rfl rfl rfl rfl ⟨rfl, rfl, rfl, rfl, rfl⟩ rfl rfl rfl rfl rfl (by kernel_rfl) Tryd.func5 (by kernel_rfl)
    (of_decide_eq_true (by kernel_rfl)) (by unfold Func.isWrapper; first | (rw [if_pos (by decide +kernel)]; kernel_rfl) | (rw [if_neg (by decide +kernel)]; exact ⟨rfl, rfl⟩))
    (fun os started H enc _ => msgFields_lifted os started H enc)

/-- The row's statement, tied to the program's text. -/
theorem msgFields_holds : Rows.MsgFieldsCardSaid :=
  Claim7.holds_tied_plain_at .later [] [.data, .data, .data] true (true, "1b93e6649467937dc11d5103653e4cbe1f2a4d61aec414c3f70a521379b88323") false
    msgFields_over (fun _ h => by cases h) (by kernel_rfl) (fun _ h => by cases h) msgFields_row_tie rfl ⟨rfl, rfl⟩ (by kernel_rfl) rfl
    (fun f fn hf hfn => by
      obtain rfl : f = 5 := Option.some.inj ((show Tryd.prog.funcNamed Rows.msgFieldsRow.func = some 5 by kernel_rfl).symm.trans hf) |>.symm
      obtain rfl : fn = Tryd.f5 := (Option.some.inj (Tryd.func5.symm.trans hfn)).symm
      exact ⟨by kernel_rfl, fun j t ht => by
        rw [Tryd.params5] at ht
        have hm : t ∈ [5, 5, 22, 22, 5, 2] := by have h := Array.mem_of_getElem? ht; rw [← Array.mem_toList_iff] at h; exact h
        have hall : ([5, 5, 22, 22, 5, 2].all fun u => !Tryd.prog.wantsStandIn u) = true := by kernel_rfl
        exact (show Tryd.prog.wantsStandIn t = false by simpa using List.all_eq_true.1 hall t hm)⟩)
    (by kernel_rfl)
#print axioms msgFields_holds
end Go.Proofs.YtbipikbefokihaaDoor
