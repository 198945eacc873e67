/- For every s, v, n and k the function BcdNumbers answers true: which number any text is, and which digits any number has. -/
import Derived.Test.YtinkdiomepjneaaKnown
namespace Go.Proofs.Ytinkdiomepjneaa
open Go.ChangeShapes Go.WideShapes Go.ChangeAt Go.RowKit

theorem and31 (n : Int) : bits .and .i64 n 31 = n % 32 := by
  have h : (31 : Int) = 2 ^ 5 - 1 := rfl
  show IntKind.i64.wrap ((BitVec.ofInt 64 n &&& BitVec.ofInt 64 31).toNat : Int) = _
  rw [BitVec.toNat_and]
  have h1 : (BitVec.ofInt 64 31).toNat = 2 ^ 5 - 1 := by decide
  rw [h1, Nat.and_two_pow_sub_one_eq_mod]
  have h2 : ((BitVec.ofInt 64 n).toNat : Int) = n % 18446744073709551616 := by
    rw [BitVec.toNat_ofInt]; omega
  have h3 : (((BitVec.ofInt 64 n).toNat % 2 ^ 5 : Nat) : Int) = n % 32 := by omega
  rw [IntKind.wrap_i64]
  omega
theorem shr_any (v : Int) (j : Nat) (h0 : -9223372036854775808 ≤ v) (h1 : v ≤ 9223372036854775807) : -9223372036854775808 ≤ v / 2 ^ j ∧ v / 2 ^ j ≤ 9223372036854775807 := by
  have hp : (1 : Int) ≤ 2 ^ j := by have : (0 : Int) < 2 ^ j := two_pow_pos j; omega
  constructor
  · rw [Int.le_ediv_iff_mul_le (by omega)]
    have : (-9223372036854775808 : Int) * 2 ^ j ≤ -9223372036854775808 * 1 := Int.mul_le_mul_of_nonpos_left (by omega) hp
    omega
  · by_cases hv : 0 ≤ v
    · exact Int.le_trans (Int.ediv_le_self _ hv) h1
    · have := Int.ediv_neg_of_neg_of_pos (a := v) (b := 2 ^ j) (by omega) (by omega)
      omega
/-- The block B holds two values of this make. -/
def Cs (P : Value → Prop) (B : Nat) (w : World) : Prop := ∀ j, j < 2 → ∃ u, P u ∧ w.cell? ⟨B, j, none⟩ = some u
theorem Cs.more {P : Value → Prop} {B : Nat} {w w' : World} (h : Cs P B w) (hb : Below w.heap.size w w') : Cs P B w' := by
  intro j hj
  obtain ⟨u, hu, hc⟩ := h j hj
  exact ⟨u, hu, (hb.cell (p := ⟨B, j, none⟩) (World.block_lt_of_cell? w _ hc)).trans hc⟩
theorem Cs.new {P : Value → Prop} (w : World) (a b : Value) (t : TypeId) (ha : P a) (hb : P b) : Cs P w.heap.size (w.alloc (.cells #[a, b] t)) := by
  intro j hj
  have h := heap_alloc_new w (.cells #[a, b] t)
  rcases (show j = 0 ∨ j = 1 by omega) with rfl | rfl
  · exact ⟨a, ha, by rw [cell_of_head h]; rfl⟩
  · exact ⟨b, hb, by rw [cell_of_head h]; rfl⟩
def IsT (u : Value) : Prop := ∃ t : ByteArray, u = .string t ∧ t.size ≤ 9223372036854775807
def IsN (u : Value) : Prop := ∃ m : Int, u = .int .i64 m
def IsV (u : Value) : Prop := ∃ m : Int, u = .int .i64 m ∧ m ≤ 9223372036854775807
set_option maxRecDepth 20000 in
set_option maxHeartbeats 2000000 in
theorem numbers_walk (s : ByteArray) (v n k : Int) (w : World) (hs : s.size ≤ maxLen) (hv : -9223372036854775808 ≤ v ∧ v ≤ 9223372036854775807) (_hn : -9223372036854775808 ≤ n ∧ n ≤ 9223372036854775807) (hk : 0 ≤ k ∧ k < 256) :
    Calls Try.prog 3 #[.string s, .int .i64 v, .int .i64 n, .int .u8 k] w fun e w' => e = .returned (.bool true) ∧ Below w.heap.size w w' := by
  unfold maxLen at hs
  by_cases h60 : 60 < s.size
  · go_enter Try.func3, Try.ntmps3
    go_wp2_with (go_at_call 6; refine (known6 _).mono ?_; rintro e w1 ⟨rfl, l1⟩; have L1 := hid l1; clear l1)
    go_ret
    exact ⟨rfl, L1.out⟩
  obtain ⟨v0, v1⟩ := hv
  obtain ⟨k0, k1⟩ := hk
  obtain ⟨vu, hvu, u0, u1⟩ : ∃ vu, IntKind.u64.wrap v = vu ∧ 0 ≤ vu ∧ vu < 18446744073709551616 := ⟨_, rfl, by rw [IntKind.wrap_u64]; omega, by rw [IntKind.wrap_u64]; omega⟩
  obtain ⟨r, hr, r1⟩ : ∃ r : Nat, k % 22 = (r : Int) ∧ r < 22 := ⟨(k % 22).toNat, by omega, by omega⟩
  have e1 : k.tmod 22 = (r : Int) := by rw [Int.tmod_eq_emod_of_nonneg k0, hr]
  have e2 := and31 n
  have e3 := u8_and63 k k0 k1
  obtain ⟨z, hz, z1⟩ : ∃ z : Nat, k % 64 = (z : Int) ∧ z < 64 := ⟨(k % 64).toNat, by omega, by omega⟩
  rw [hz] at e3
  obtain ⟨b0, b1⟩ := shr_any v z v0 v1
  obtain ⟨v', hv'⟩ : ∃ v', v / 2 ^ z = v' := ⟨_, rfl⟩
  rw [hv'] at b0 b1
  obtain ⟨n', hn'⟩ : ∃ n', n % 32 = n' := ⟨_, rfl⟩
  rw [hn'] at e2
  have hsz : s.size ≤ 9223372036854775807 := by omega
  clear hr hz hn' hs
  go_enter Try.func3, Try.ntmps3
  go_wp2_with (first | (go_at_call 7; have kill := L1.out; refine (digits7 vu r _ u0 u1 (by omega)).mono ?_; rintro e w2 ⟨t, rfl, ts, td, rfl⟩; have TS := hid ts; have T1 := hid (Cs.new (P := IsT) w1 (.string s) (.string t) 9 ⟨s, rfl, hsz⟩ ⟨t, rfl, by omega⟩); have B1 := hid (sq L1.out (bel1 w1 (.cells #[.string s, .string t] 9))); clear kill ts td) | (go_at_call 6; refine (known6 _).mono ?_; rintro e w1 ⟨rfl, l1⟩; have L1 := hid l1; clear l1))
  go_loopw [39] (fun i wr => ∃ j : Nat, j ≤ 2 ∧ i = .int .i64 (j : Int) ∧ Cs IsT w1.heap.size wr ∧ Below w.heap.size w wr) (fun i _ => 2 - (intOf i).toNat)
  case atStart => exact ⟨0, by omega, rfl, T1.out, B1.out⟩
  case round =>
    obtain ⟨j, hj, rfl, ht1, hb1⟩ := hrel
    have T2 := hid ht1
    have B2 := hid hb1
    clear ht1 hb1 T1 B1
    by_cases hlt : j < 2
    · obtain ⟨u, ⟨x, rfl, hx⟩, hc⟩ := T2.out j hlt
      have j0 : (j : Int) < 2 := by omega
      go_wp2_with (first | (go_at_call 9; refine (num9 x _ hx).mono ?_; rintro e w2 ⟨rfl, rfl⟩) | (go_at_call 8; refine (number8 x _ hx).mono ?_; rintro e w2 ⟨rfl, rfl⟩))
      go_roundw
      case rel => exact ⟨j + 1, by omega, by go_num, T2.out, B2.out⟩
      case measure => simp [intOf]; omega
    · have j9 : ¬ (j : Int) < 2 := by omega
      generalize wr = wa at *
      have N0 : Hid (Cs IsN wa.heap.size (wa.alloc (.cells #[.int .i64 n, .int .i64 n'] 3))) := hid (Cs.new wa _ _ 3 ⟨n, rfl⟩ ⟨n', rfl⟩)
      have B0 : Hid (Below w.heap.size w (wa.alloc (.cells #[.int .i64 n, .int .i64 n'] 3))) := hid (sq B2.out (bel1 wa _))
      go_wp2
      go_loopw [67] (fun i wr => ∃ j : Nat, j ≤ 2 ∧ i = .int .i64 (j : Int) ∧ Cs IsN wa.heap.size wr ∧ Below w.heap.size w wr) (fun i _ => 2 - (intOf i).toNat)
      case atStart => exact ⟨0, by omega, rfl, N0.out, B0.out⟩
      case round =>
        obtain ⟨j, hj, rfl, ht1, hb1⟩ := hrel
        have T3 := hid ht1
        have B3 := hid hb1
        clear ht1 hb1 N0 B0
        generalize wr = wb at *
        by_cases hlt : j < 2
        · obtain ⟨u, ⟨m, rfl⟩, hc⟩ := T3.out j hlt
          have j0 : (j : Int) < 2 := by omega
          have V0 : Hid (Cs IsV wb.heap.size (wb.alloc (.cells #[.int .i64 v, .int .i64 v'] 2))) := hid (Cs.new wb _ _ 2 ⟨v, rfl, v1⟩ ⟨v', rfl, b1⟩)
          have N0 : Hid (Cs IsN wa.heap.size (wb.alloc (.cells #[.int .i64 v, .int .i64 v'] 2))) := hid (T3.out.more (bel1 wb _))
          have B0 : Hid (Below w.heap.size w (wb.alloc (.cells #[.int .i64 v, .int .i64 v'] 2))) := hid (sq B3.out (bel1 wb _))
          go_wp2
          go_loopw [78] (fun i wr => ∃ j : Nat, j ≤ 2 ∧ i = .int .i64 (j : Int) ∧ Cs IsV wb.heap.size wr ∧ Cs IsN wa.heap.size wr ∧ Below w.heap.size w wr) (fun i _ => 2 - (intOf i).toNat)
          case atStart => exact ⟨0, by omega, rfl, V0.out, N0.out, B0.out⟩
          case round =>
            obtain ⟨q, hq, rfl, hu1, ht1, hb1⟩ := hrel
            have U4 := hid hu1
            have T4 := hid ht1
            have B4 := hid hb1
            clear hu1 ht1 hb1 N0 B0 V0
            generalize wr = wc at *
            by_cases hlq : q < 2
            · obtain ⟨u, ⟨x, rfl, hx⟩, hcx⟩ := U4.out q hlq
              have q0 : (q : Int) < 2 := by omega
              have hds : (digS x m).size ≤ 9223372036854775807 := by
                unfold digS
                split
                · rename_i hok; simp [digOk] at hok; rw [strOfNums_size, decL_length]; omega
                · decide
              cases hok : digOk x m
              · have HO := hid hok
                clear hok
                obtain ⟨a, ha⟩ : ∃ a, digS x m = a := ⟨_, rfl⟩
                rw [ha] at hds
                have HA := hid ha
                clear ha
                go_wp2_with (first | (go_at_call 8; have kill := B5.out; refine (number8 a _ hds).mono ?_; rintro e w6 ⟨rfl, rfl⟩; clear kill) | (go_at_call 11; have kill := B5.out; refine (digits11 x m _ hx).mono ?_; rintro e w6 ⟨rfl, rfl⟩; rw [HA.out, HO.out]; clear kill) | (go_at_call 10; refine (digits10 x m _ hx).mono ?_; rintro e w5 ⟨rfl, l5⟩; rw [HA.out, HO.out]; have B5 := hid (sq B4.out l5); have U5 := hid (U4.out.more l5); have T5 := hid (T4.out.more l5); clear l5))
                go_roundw
                case rel => exact ⟨q + 1, by omega, by go_num, U5.out, T5.out, B5.out⟩
                case measure => simp [intOf]; omega
              · have HO := hid hok
                have HBK := hid (digS_back hok)
                clear hok
                obtain ⟨a, ha⟩ : ∃ a, digS x m = a := ⟨_, rfl⟩
                rw [ha] at hds HBK
                have HA := hid ha
                clear ha
                go_wp2_with (first | (go_at_call 8; have kill := B5.out; refine (number8 a _ hds).mono ?_; rintro e w6 ⟨rfl, rfl⟩; rw [HBK.out.1, HBK.out.2]; clear kill) | (go_at_call 11; have kill := B5.out; refine (digits11 x m _ hx).mono ?_; rintro e w6 ⟨rfl, rfl⟩; rw [HA.out, HO.out]; clear kill) | (go_at_call 10; refine (digits10 x m _ hx).mono ?_; rintro e w5 ⟨rfl, l5⟩; rw [HA.out, HO.out]; have B5 := hid (sq B4.out l5); have U5 := hid (U4.out.more l5); have T5 := hid (T4.out.more l5); clear l5))
                go_roundw
                case rel => exact ⟨q + 1, by omega, by go_num, U5.out, T5.out, B5.out⟩
                case measure => simp [intOf]; omega
            · have q0 : ¬ (q : Int) < 2 := by omega
              go_wp2
              go_roundw
              case rel => exact ⟨j + 1, by omega, by go_num, T4.out, B4.out⟩
              case measure => simp [intOf]; omega
        · have j0 : ¬ (j : Int) < 2 := by omega
          go_wp2
          go_ret
          exact ⟨rfl, B3.out⟩
theorem bcdNumbers_own : ownKnob Try.prog.godebug = none := by kernel_rfl
theorem bcdNumbers_laid : laidOutB Try.prog = true := by kernel_rfl

set_option maxRecDepth 100000 in
set_option maxHeartbeats 1000000 in
theorem bcdNumbers_lifted (os : Os) (started : os.Started) (H : Type) (enc : TypeId × Value → H) :
    ReturnsInHanded {} Try.checked os 3 .any (Rows.bcdNumbersSpec.pre6 enc Try.prog Try.f3 Rows.bcdNumbersRow.domain false) (Rows.bcdNumbersSpec.post enc Try.prog Try.f3 false true false false) := by
  refine returnsInHanded_of_change (C := Try.checked) bcdNumbers_own started (by kernel_rfl) Try.func3
    (ChangeSpec.witness6 (enc := enc) (C := Try.checked) false ⟨#[], #[.string ⟨#[]⟩, .int .i64 0, .int .i64 0, .int .u8 0], []⟩ 8 (by kernel_rfl) (by kernel_rfl) (by kernel_rfl) (by kernel_rfl)) ?_
  intro W base args ds gs before hval0 hW hcnd _
  have hval : ∀ (j : Nat) t v, Try.f3.params[j]? = some t → args[j]? = some v → Value.okWide Try.prog W .any base t v := hval0
  have hW' := hW
  obtain ⟨p, q, hA0, hV, rfl, hfz, hnd⟩ := hW
  have hA : DataW.TrodAll enc Try.prog W 0 (fun _ => true) true Try.f3.params.toList args.toList ds p := hA0
  rw [Try.params3] at hA hval
  obtain ⟨v0, vs0, d0, ds0, p0, q0, hargs, rfl, rfl, h0, r0⟩ := trodAll_cons hA
  obtain ⟨v1, vs1, d1, ds1, p1, q1, rfl, rfl, rfl, h1, r1⟩ := trodAll_cons r0
  obtain ⟨v2, vs2, d2, ds2, p2, q2, rfl, rfl, rfl, h2, r2⟩ := trodAll_cons r1
  obtain ⟨v3, vs3, d3, ds3, p3, q3, rfl, rfl, rfl, h3, r3⟩ := trodAll_cons r2
  obtain ⟨rfl, rfl, rfl⟩ := trodAll_nil r3
  obtain rfl : args = #[v0, v1, v2, v3] := by cases args; simp_all
  obtain ⟨rfl, rfl⟩ := trodVars_none hV
  obtain ⟨a0, rfl, rfl, rfl, w0⟩ := Go.ChangeMaps.open_string Try.underlying9 (hval 0 9 v0 rfl rfl) h0
  obtain ⟨a1, rfl, rfl, rfl, w1⟩ := open_int Try.underlying2 (hval 1 2 v1 rfl rfl) h1
  obtain ⟨a2, rfl, rfl, rfl, w2⟩ := open_int Try.underlying3 (hval 2 3 v2 rfl rfl) h2
  obtain ⟨a3, rfl, rfl, rfl, w3⟩ := open_int Try.underlying5 (hval 3 5 v3 rfl rfl) h3
  clear hA0 hval0
  refine (numbers_walk a0 a1 a2 a3 W w0 (by have := bounds_i64 w1; omega) (by have := bounds_i64 w2; omega) (by have := bounds_u8 w3; omega)).mono fun e W' ⟨he, bel⟩ => ?_
  subst he
  exact ⟨_, rfl, _, _, _, [], _, [], hW', trodAll_mk1 (shut_bool Try.underlying4 _), (trodAll_cons_mk (Go.ChangeMaps.shut_string Try.underlying9 w0) (trodAll_cons_mk (shut_int Try.underlying2 w1) (trodAll_cons_mk (shut_int Try.underlying3 w2) (trodAll_cons_mk (shut_int Try.underlying5 w3) trodAll_mk0)))), rfl, bel.frame _, fun h => by cases h⟩

theorem bcdNumbers_over : Rows.bcdNumbersRow.holds Try.pinned (OpenSpec.ofChange Rows.bcdNumbersSpec) :=
  OpenClaim.holds_of_wide 3 Try.f3 rfl rfl rfl rfl rfl rfl rfl ⟨rfl, rfl, rfl, rfl, rfl⟩ rfl rfl rfl rfl rfl (by kernel_rfl) Try.func3 (by kernel_rfl)
    (of_decide_eq_true (by kernel_rfl)) (by unfold Func.isWrapper; first | (rw [if_pos (by decide +kernel)]; kernel_rfl) | (rw [if_neg (by decide +kernel)]; exact ⟨rfl, rfl⟩))
    (fun os started H enc _ => bcdNumbers_lifted os started H enc)

/-- The statement. -/
theorem bcdNumbers_holds : Rows.BcdNumbersSaid := bcdNumbers_over
#print axioms bcdNumbers_holds
end Go.Proofs.Ytinkdiomepjneaa
