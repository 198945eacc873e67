/- For every n and m the function MapOne answers true: where the bit of each number stands, alone and beside others. -/
import Derived.Test.YtdbionhkfjokiaaKnown
namespace Go.Proofs.Ytdbionhkfjokiaa
open Go.ChangeShapes Go.WideShapes Go.ChangeAt Go.RowKit

theorem rise_one {a : Nat} (h0 : 2 ≤ a) (h1 : a ≤ 128) : riseL [(a : Int)] 1 = true := by
  simp only [riseL, Bool.and_true]; exact decide_eq_true (by omega)
theorem rise_two {a b : Nat} (h0 : 2 ≤ a) (h1 : a ≤ 128) (h2 : b ≤ 128) : riseL [(a : Int), (b : Int)] 1 = decide (a < b) := by
  simp only [riseL, Bool.and_true]
  rw [decide_eq_true (show (1 : Int) < a ∧ (a : Int) ≤ 128 by omega), Bool.true_and]
  exact decide_eq_decide.2 (by omega)
theorem size_one (a : Nat) : sizeL [(a : Int)] = if 64 < a then 16 else 8 := by
  unfold sizeL
  rw [show lastL [(a : Int)] = (a : Int) from rfl]
  by_cases h : 64 < a
  · rw [if_pos h, if_pos (by omega)]
  · rw [if_neg h, if_neg (by omega)]
theorem one_has {a i : Nat} (h0 : 2 ≤ a) (h1 : a ≤ 128) (i0 : 2 ≤ i) (i1 : i ≤ 128) : hasL (putL [(a : Int)]) (i : Int) = decide ((i : Int) = (a : Int)) := by
  rw [has_num (by omega) i1, putL, has_bm _ _ _ (by omega), putP_up i0]
  have hm : memP [(a : Int)] i = decide ((i : Int) = (a : Int)) := by simp [memP]
  rw [hm, size_one]
  by_cases e : (i : Int) = (a : Int)
  · rw [decide_eq_true e, Bool.and_true]
    have : i = a := by omega
    subst this
    split <;> exact decide_eq_true (by omega)
  · rw [decide_eq_false e, Bool.and_false]
theorem one_first {a : Nat} (h0 : 2 ≤ a) (h1 : a ≤ 128) : hasL (putL [(a : Int)]) 1 = decide (64 < a) := by
  rw [has_one, putL, has_bm _ _ _ (by omega), putP_one (rise_one h0 h1), size_one]
  by_cases h : 64 < a
  · rw [if_pos h, decide_eq_true h]; rfl
  · rw [if_neg h, decide_eq_false h]; rfl
theorem put_row1 (w : World) (a m : Nat) (h0 : 2 ≤ a) (h1 : a ≤ 128) (hm : sizeL [(a : Int)] = m) : Calls Try.prog 7 #[.slice (some ⟨w.heap.size, 0, none⟩) 1 1] (w.alloc (.cells #[.int .i64 (a : Int)] 3)) fun e w' => ∃ b, e = .returned (.tuple #[.slice (some ⟨b, 0, none⟩) m m, .bool true]) ∧ Mk w w' (.slice (some ⟨b, 0, none⟩) m m) m (putL [(a : Int)]) := by
  refine (put_mk _ 1 1 m [(a : Int)] _ (iGiven1 w a (by omega) (by omega)) (rise_one h0 h1) hm).mono ?_
  rintro e w' ⟨b, rfl, d⟩
  exact ⟨b, rfl, d.1.mono (bel1 w _).size, sq (bel1 w _) d.2⟩
theorem put_row2 (w : World) (a b : Nat) (h0 : 2 ≤ a) (h1 : a ≤ 128) (b0 : 2 ≤ b) (b1 : b ≤ 128) (h : a < b) : Calls Try.prog 7 #[.slice (some ⟨w.heap.size, 0, none⟩) 2 2] (w.alloc (.cells #[.int .i64 (a : Int), .int .i64 (b : Int)] 3)) fun e w' => ∃ b m, e = .returned (.tuple #[.slice (some ⟨b, 0, none⟩) m m, .bool true]) ∧ Below w.heap.size w w' := by
  refine (put_mk _ 2 2 _ [(a : Int), (b : Int)] _ (iGiven2 w a b (by omega) (by omega) (by omega) (by omega)) (by rw [rise_two h0 h1 b1]; exact decide_eq_true h) rfl).mono ?_
  rintro e w' ⟨b, rfl, d⟩
  exact ⟨b, _, rfl, sq (bel1 w _) d.2⟩
theorem put_row2n (w : World) (a b : Nat) (h0 : 2 ≤ a) (h1 : a ≤ 128) (b0 : 2 ≤ b) (b1 : b ≤ 128) (h : ¬ a < b) : Calls Try.prog 7 #[.slice (some ⟨w.heap.size, 0, none⟩) 2 2] (w.alloc (.cells #[.int .i64 (a : Int), .int .i64 (b : Int)] 3)) fun e w' => e = .returned (.tuple #[.slice none 0 0, .bool false]) ∧ Below w.heap.size w w' := by
  refine (put_no _ 2 2 [(a : Int), (b : Int)] _ (iGiven2 w a b (by omega) (by omega) (by omega) (by omega)) (by rw [rise_two h0 h1 b1]; exact decide_eq_false h)).mono ?_
  rintro e w' ⟨rfl, rfl⟩
  exact ⟨rfl, bel1 w _⟩
set_option maxHeartbeats 1000000 in
theorem one_walk (n k : Int) (w : World) (hn : 0 ≤ n ∧ n < 256) (hk : 0 ≤ k ∧ k < 256) :
    Calls Try.prog 5 #[.int .u8 n, .int .u8 k] w fun e w' => e = .returned (.bool true) ∧ Below w.heap.size w w' := by
  obtain ⟨n0, n1⟩ := hn
  obtain ⟨k0, k1⟩ := hk
  obtain ⟨p, hp, p0, p1⟩ : ∃ p, n % 127 = p ∧ 0 ≤ p ∧ p < 127 := ⟨_, rfl, by omega, by omega⟩
  obtain ⟨q, hq, q0, q1⟩ : ∃ q, k % 127 = q ∧ 0 ≤ q ∧ q < 127 := ⟨_, rfl, by omega, by omega⟩
  have e1 : n.tmod 127 = p := by rw [Int.tmod_eq_emod_of_nonneg n0, hp]
  have e2 : k.tmod 127 = q := by rw [Int.tmod_eq_emod_of_nonneg k0, hq]
  obtain ⟨a, ha⟩ : ∃ a : Nat, p + 2 = (a : Int) := ⟨(p + 2).toNat, by omega⟩
  obtain ⟨b, hb⟩ : ∃ b : Nat, q + 2 = (b : Int) := ⟨(q + 2).toNat, by omega⟩
  have a0 : 2 ≤ a := by omega
  have a1 : a ≤ 128 := by omega
  have b0 : 2 ≤ b := by omega
  have b1 : b ≤ 128 := by omega
  have HF : Hid (hasL (putL [(a : Int)]) 1 = decide (64 < a)) := one_first a0 a1
  have HI : Hid (∀ i : Nat, 2 ≤ i → i ≤ 128 → hasL (putL [(a : Int)]) (i : Int) = decide ((i : Int) = (a : Int))) := fun i => one_has a0 a1
  have HO0 : Hid (hasL (putL [(a : Int)]) 0 = false) := has_out (.inl (by omega))
  have HO1 : Hid (hasL (putL [(a : Int)]) 129 = false) := has_out (.inr (by omega))
  have HS := hid (size_one a)
  have HB := hid (putL_byt [(a : Int)])
  clear hp hq
  by_cases h64 : 64 < a
  · rw [if_pos h64] at HS
    rw [decide_eq_true h64] at HF
    have h64' : (64 : Int) < (a : Int) := by omega
    go_enter Try.func5, Try.ntmps5
    go_wp2_with (first | (go_at_call 7; have kill := L1.out; refine (put_row1 w1 a 16 a0 a1 HS.out).mono ?_; rintro e w2 ⟨b2, rfl, d2⟩; have D2 := hid d2; have L2 := hid (sq L1.out d2.2); clear d2 kill) | (go_at_call 6; refine (known6 _).mono ?_; rintro e w1 ⟨rfl, l1⟩; have L1 := hid l1; clear l1))
    go_loop [9] (fun i => ∃ j : Nat, 2 ≤ j ∧ j ≤ 129 ∧ i = .int .i64 (j : Int)) (fun i => 129 - (intOf i).toNat)
    case atStart => exact ⟨2, by omega, by omega, rfl⟩
    case round =>
      obtain ⟨j, j0, j1, rfl⟩ := hrel
      by_cases hlt : j ≤ 128
      · have j2 : (j : Int) ≤ 128 := by omega
        have HJ := hid (HI.out j j0 hlt)
        by_cases hja : (j : Int) = (a : Int)
        · rw [decide_eq_true hja] at HJ
          obtain rfl : j = a := by omega
          clear hja j1
          go_wp2_with (go_at_call 12; refine (has12 _ 16 16 _ (j : Int) w2 (D2.out.given HB.out)).mono ?_; rintro e w4 ⟨rfl, rfl⟩; rw [HJ.out])
          go_round
          case rel => exact ⟨j + 1, by omega, by omega, by go_num⟩
          case measure => simp [intOf]; omega
        · rw [decide_eq_false hja] at HJ
          have hja' : ((j : Int) == (a : Int)) = false := by simp; omega
          clear hja
          go_wp2_with (go_at_call 12; refine (has12 _ 16 16 _ (j : Int) w2 (D2.out.given HB.out)).mono ?_; rintro e w4 ⟨rfl, rfl⟩; rw [HJ.out])
          go_round
          case rel => exact ⟨j + 1, by omega, by omega, by go_num⟩
          case measure => simp [intOf]; omega
      · have j2 : ¬ (j : Int) ≤ 128 := by omega
        by_cases hab : a < b
        · have hab' : (a : Int) < (b : Int) := by omega
          go_wp2_with (first | (go_at_call 12; have kill := L5.out; refine (has12 _ 16 16 _ 129 w3 (D3.out.given HB.out)).mono ?_; rintro e w6 ⟨rfl, rfl⟩; rw [HO1.out]; clear kill) | (go_at_call 12; have kill := L4.out; refine (has12 _ 16 16 _ 0 w3 (D3.out.given HB.out)).mono ?_; rintro e w6 ⟨rfl, rfl⟩; rw [HO0.out]; have L5 := L4; clear kill) | (go_at_call 12; have kill := L3.out; refine (has12 _ 16 16 _ 1 w3 (D3.out.given HB.out)).mono ?_; rintro e w6 ⟨rfl, rfl⟩; rw [HF.out]; have L4 := L3; clear kill) | (go_at_call 7; refine (put_row2 w2 a b a0 a1 b0 b1 hab).mono ?_; rintro e w3 ⟨b3, m3, rfl, l3⟩; have D3 := hid (D2.out.more l3); have L3 := hid (sq L2.out l3); clear l3))
          go_ret
          exact ⟨rfl, L3.out⟩
        · have hab' : ¬ (a : Int) < (b : Int) := by omega
          go_wp2_with (first | (go_at_call 12; have kill := L5.out; refine (has12 _ 16 16 _ 129 w3 (D3.out.given HB.out)).mono ?_; rintro e w6 ⟨rfl, rfl⟩; rw [HO1.out]; clear kill) | (go_at_call 12; have kill := L4.out; refine (has12 _ 16 16 _ 0 w3 (D3.out.given HB.out)).mono ?_; rintro e w6 ⟨rfl, rfl⟩; rw [HO0.out]; have L5 := L4; clear kill) | (go_at_call 12; have kill := L3.out; refine (has12 _ 16 16 _ 1 w3 (D3.out.given HB.out)).mono ?_; rintro e w6 ⟨rfl, rfl⟩; rw [HF.out]; have L4 := L3; clear kill) | (go_at_call 7; refine (put_row2n w2 a b a0 a1 b0 b1 hab).mono ?_; rintro e w3 ⟨rfl, l3⟩; have D3 := hid (D2.out.more l3); have L3 := hid (sq L2.out l3); clear l3))
          go_ret
          exact ⟨rfl, L3.out⟩
  · rw [if_neg h64] at HS
    rw [decide_eq_false h64] at HF
    have h64' : decide ((64 : Int) < (a : Int)) = false := decide_eq_false (by omega)
    have h64'' : decide (64 < a) = false := decide_eq_false h64
    go_enter Try.func5, Try.ntmps5
    go_wp2_with (first | (go_at_call 7; have kill := L1.out; refine (put_row1 w1 a 8 a0 a1 HS.out).mono ?_; rintro e w2 ⟨b2, rfl, d2⟩; have D2 := hid d2; have L2 := hid (sq L1.out d2.2); clear d2 kill) | (go_at_call 6; refine (known6 _).mono ?_; rintro e w1 ⟨rfl, l1⟩; have L1 := hid l1; clear l1))
    go_loop [9] (fun i => ∃ j : Nat, 2 ≤ j ∧ j ≤ 129 ∧ i = .int .i64 (j : Int)) (fun i => 129 - (intOf i).toNat)
    case atStart => exact ⟨2, by omega, by omega, rfl⟩
    case round =>
      obtain ⟨j, j0, j1, rfl⟩ := hrel
      by_cases hlt : j ≤ 128
      · have j2 : (j : Int) ≤ 128 := by omega
        have HJ := hid (HI.out j j0 hlt)
        by_cases hja : (j : Int) = (a : Int)
        · rw [decide_eq_true hja] at HJ
          obtain rfl : j = a := by omega
          clear hja j1
          go_wp2_with (go_at_call 12; refine (has12 _ 8 8 _ (j : Int) w2 (D2.out.given HB.out)).mono ?_; rintro e w4 ⟨rfl, rfl⟩; rw [HJ.out])
          go_round
          case rel => exact ⟨j + 1, by omega, by omega, by go_num⟩
          case measure => simp [intOf]; omega
        · rw [decide_eq_false hja] at HJ
          have hja' : ((j : Int) == (a : Int)) = false := by simp; omega
          clear hja
          go_wp2_with (go_at_call 12; refine (has12 _ 8 8 _ (j : Int) w2 (D2.out.given HB.out)).mono ?_; rintro e w4 ⟨rfl, rfl⟩; rw [HJ.out])
          go_round
          case rel => exact ⟨j + 1, by omega, by omega, by go_num⟩
          case measure => simp [intOf]; omega
      · have j2 : ¬ (j : Int) ≤ 128 := by omega
        by_cases hab : a < b
        · have hab' : (a : Int) < (b : Int) := by omega
          go_wp2_with (first | (go_at_call 12; have kill := L5.out; refine (has12 _ 8 8 _ 129 w3 (D3.out.given HB.out)).mono ?_; rintro e w6 ⟨rfl, rfl⟩; rw [HO1.out]; clear kill) | (go_at_call 12; have kill := L4.out; refine (has12 _ 8 8 _ 0 w3 (D3.out.given HB.out)).mono ?_; rintro e w6 ⟨rfl, rfl⟩; rw [HO0.out]; have L5 := L4; clear kill) | (go_at_call 12; have kill := L3.out; refine (has12 _ 8 8 _ 1 w3 (D3.out.given HB.out)).mono ?_; rintro e w6 ⟨rfl, rfl⟩; rw [HF.out]; have L4 := L3; clear kill) | (go_at_call 7; refine (put_row2 w2 a b a0 a1 b0 b1 hab).mono ?_; rintro e w3 ⟨b3, m3, rfl, l3⟩; have D3 := hid (D2.out.more l3); have L3 := hid (sq L2.out l3); clear l3))
          go_ret
          exact ⟨rfl, L3.out⟩
        · have hab' : ¬ (a : Int) < (b : Int) := by omega
          go_wp2_with (first | (go_at_call 12; have kill := L5.out; refine (has12 _ 8 8 _ 129 w3 (D3.out.given HB.out)).mono ?_; rintro e w6 ⟨rfl, rfl⟩; rw [HO1.out]; clear kill) | (go_at_call 12; have kill := L4.out; refine (has12 _ 8 8 _ 0 w3 (D3.out.given HB.out)).mono ?_; rintro e w6 ⟨rfl, rfl⟩; rw [HO0.out]; have L5 := L4; clear kill) | (go_at_call 12; have kill := L3.out; refine (has12 _ 8 8 _ 1 w3 (D3.out.given HB.out)).mono ?_; rintro e w6 ⟨rfl, rfl⟩; rw [HF.out]; have L4 := L3; clear kill) | (go_at_call 7; refine (put_row2n w2 a b a0 a1 b0 b1 hab).mono ?_; rintro e w3 ⟨rfl, l3⟩; have D3 := hid (D2.out.more l3); have L3 := hid (sq L2.out l3); clear l3))
          go_ret
          exact ⟨rfl, L3.out⟩
theorem mapOne_own : ownKnob Try.prog.godebug = none := by kernel_rfl
theorem mapOne_laid : laidOutB Try.prog = true := by kernel_rfl

set_option maxRecDepth 100000 in
set_option maxHeartbeats 1000000 in
theorem mapOne_lifted (os : Os) (started : os.Started) (H : Type) (enc : TypeId × Value → H) :
    ReturnsInHanded {} Try.checked os 5 .any (Rows.mapOneSpec.pre6 enc Try.prog Try.f5 Rows.mapOneRow.domain false) (Rows.mapOneSpec.post enc Try.prog Try.f5 false true false false) := by
  refine returnsInHanded_of_change (C := Try.checked) mapOne_own started (by kernel_rfl) Try.func5
    (ChangeSpec.witness6 (enc := enc) (C := Try.checked) false ⟨#[], #[.int .u8 0, .int .u8 0], []⟩ 8 (by kernel_rfl) (by kernel_rfl) (by kernel_rfl) (by kernel_rfl)) ?_
  intro W base args ds gs before hval0 hW hcnd _
  have hval : ∀ (j : Nat) t v, Try.f5.params[j]? = some t → args[j]? = some v → Value.okWide Try.prog W .any base t v := hval0
  have hW' := hW
  obtain ⟨p, q, hA0, hV, rfl, hfz, hnd⟩ := hW
  have hA : DataW.TrodAll enc Try.prog W 0 (fun _ => true) true Try.f5.params.toList args.toList ds p := hA0
  rw [Try.params5] at hA hval
  obtain ⟨v0, vs0, d0, ds0, p0, q0, hargs, rfl, rfl, h0, r0⟩ := trodAll_cons hA
  obtain ⟨v1, vs1, d1, ds1, p1, q1, rfl, rfl, rfl, h1, r1⟩ := trodAll_cons r0
  obtain ⟨rfl, rfl, rfl⟩ := trodAll_nil r1
  obtain rfl : args = #[v0, v1] := by cases args; simp_all
  obtain ⟨rfl, rfl⟩ := trodVars_none hV
  obtain ⟨a0, rfl, rfl, rfl, w0⟩ := open_int Try.underlying5 (hval 0 5 v0 rfl rfl) h0
  obtain ⟨a1, rfl, rfl, rfl, w1⟩ := open_int Try.underlying5 (hval 1 5 v1 rfl rfl) h1
  clear hA0 hval0
  refine (one_walk a0 a1 W (by have := bounds_u8 w0; omega) (by have := bounds_u8 w1; omega)).mono fun e W' ⟨he, bel⟩ => ?_
  subst he
  exact ⟨_, rfl, _, _, _, [], _, [], hW', trodAll_mk1 (shut_bool Try.underlying4 _), (trodAll_cons_mk (shut_int Try.underlying5 w0) (trodAll_cons_mk (shut_int Try.underlying5 w1) trodAll_mk0)), rfl, bel.frame _, fun h => by cases h⟩

theorem mapOne_over : Rows.mapOneRow.holds Try.pinned (OpenSpec.ofChange Rows.mapOneSpec) :=
  OpenClaim.holds_of_wide 5 Try.f5 rfl rfl rfl rfl rfl rfl rfl ⟨rfl, rfl, rfl, rfl, rfl⟩ rfl rfl rfl rfl rfl (by kernel_rfl) Try.func5 (by kernel_rfl)
    (of_decide_eq_true (by kernel_rfl)) (by unfold Func.isWrapper; first | (rw [if_pos (by decide +kernel)]; kernel_rfl) | (rw [if_neg (by decide +kernel)]; exact ⟨rfl, rfl⟩))
    (fun os started H enc _ => mapOne_lifted os started H enc)

/-- The statement. -/
theorem mapOne_holds : Rows.MapOneSaid := mapOne_over
#print axioms mapOne_holds
end Go.Proofs.Ytdbionhkfjokiaa
