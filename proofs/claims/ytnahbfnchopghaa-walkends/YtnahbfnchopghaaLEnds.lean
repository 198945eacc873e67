/- A walk over a row of states that lead round ends behind 200 steps, or where the inputs that it may use are used up: for rows of one to five states I or E, with 95 to 106 inputs. -/
import Derived.Test.YtnahbfnchopghaaRound
import Derived.Test.YtnahbfnchopghaaTab
import Derived.BigQuiet
namespace Go.Proofs.Ytnahbfnchopghaa
open Go.ChangeShapes Go.WideShapes Go.ChangeAt Go.RowKit

set_option maxRecDepth 20000 in
set_option maxHeartbeats 20000000 in
theorem ends_walk (n more kind : Int) (W : World) (hn : 0 ≤ n ∧ n < 256) (hm : 0 ≤ more ∧ more < 256) (hk : 0 ≤ kind ∧ kind < 256) :
    Calls Try.prog 4 #[.int .u8 n, .int .u8 more, .int .u8 kind] W fun e w' => e = .returned (.bool true) ∧ Below W.heap.size W w' := by
  have TA := hid True.intro
  obtain ⟨q, hq⟩ : ∃ q, n.tmod 5 = q := ⟨_, rfl⟩
  have f0 := tmod_bd n 5 hn.1 (by omega)
  rw [hq] at f0
  obtain ⟨M, hM, m1, m5⟩ : ∃ M : Nat, q + 1 = (M : Int) ∧ 1 ≤ M ∧ M ≤ 5 := ⟨q.toNat + 1, by omega, by omega, by omega⟩
  have q0 := f0.1
  have q1 := f0.2
  obtain ⟨P0, hP0⟩ : ∃ p, more.tmod 12 = p := ⟨_, rfl⟩
  have g0 := tmod_bd more 12 hm.1 (by omega)
  rw [hP0] at g0
  obtain ⟨P, rfl, hP⟩ : ∃ P : Nat, P0 = (P : Int) ∧ P < 12 := ⟨P0.toNat, by omega, by omega⟩
  obtain ⟨K2, hK2⟩ : ∃ p, kind.tmod 2 = p := ⟨_, rfl⟩
  have k0 := tmod_bd kind 2 hk.1 (by omega)
  rw [hK2] at k0
  have hpw : IntKind.i64.wrap (P : Int) = (P : Int) := by rw [IntKind.wrap_i64]; omega
  clear f0 g0 hn hm hk
  rcases (show K2 = 0 ∨ K2 = 1 by omega) with rfl | rfl <;> clear k0
  · go_enter Try.func4, Try.ntmps4
    go_upto_region 3 with ((have kill := TA.out; go_at_call 7; refine (known7 _).mono ?_; rintro e w1 ⟨rfl, l1⟩; have L1 := hid l1; clear l1 kill TA))
    go_upto_region 4 with fail
    clear hq q0 q1
    (try rw [hM])
    clear hM
    go_wp2_with fail
    (try go_frame)
    go_loopw [8, 9] (fun x i wr => ∃ (k c : Nat) (a : Option Addr), k ≤ M ∧ i = .int .i64 (k : Int) ∧ x = .slice a k c ∧ MkS w1 wr (.slice a k c) k (rdL M 73 k)) (fun _ i _ => M - (intOf i).toNat)
    case atStart => exact ⟨0, 0, none, by omega, rfl, rfl, MkS.nil w1⟩
    case round =>
      obtain ⟨k, c, a, hk, rfl, rfl, hmk⟩ := hrel
      have M1 := hid hmk
      clear hmk
      by_cases hlt : k < M
      · have hmz : ((k : Int) + 1).tmod (M : Int) = (((k + 1) % M : Nat) : Int) := by
          rw [Int.tmod_eq_emod_of_nonneg (by omega)]; simp
        have hM0 : ¬ (M : Int) = 0 := by omega
        have hw1 : IntKind.i64.wrap ((k : Int) + 1) = (k : Int) + 1 := by rw [IntKind.wrap_i64]; omega
        have hw2 : IntKind.i64.wrap (((k + 1) % M : Nat) : Int) = (((k + 1) % M : Nat) : Int) := by have := Nat.mod_lt (k + 1) (show 0 < M by omega); rw [IntKind.wrap_i64]; omega
        have hd : decide ((k : Int) < (M : Int)) = true := decide_eq_true (by omega)
        have hd2 : decide (k < M) = true := decide_eq_true hlt
        go_upto_region 8 with fail
        refine wp_region_noPanic ?_
        refine wp_region_held_drew (S := (fun _ : World => True)) (by kernel_rfl) trivial (fun hHeld => ?_)
        have M2 : Hid (MkS w1 wr.drew (.slice a k c) k (rdL M 73 k)) := hid (M1.out.more (Below.refl _ wr).drew)
        (refine tk_yes (v := ?_) 0 (some 24) rfl rfl (by kernel_rfl) (by kernel_rfl) (by kernel_rfl) (fun _ _ _ h => h) (by rfl) ?_ hHeld ?_; rotate_left; focus (intro w hSw; go_simp; try with_reducible rfl))
        simp only [Act.put, List.setIfInBounds_toArray, List.set_cons_zero, List.set_cons_succ]
        (refine tk_yes (v := ?_) 1 (some 25) rfl rfl (by kernel_rfl) (by kernel_rfl) (by kernel_rfl) (fun _ _ _ h => h) (by rfl) ?_ hHeld ?_; rotate_left; focus (intro w hSw; go_simp; try with_reducible rfl))
        simp only [Act.put, List.setIfInBounds_toArray, List.set_cons_zero, List.set_cons_succ]
        (refine tk_yes (v := ?_) 2 (some 26) rfl rfl (by kernel_rfl) (by kernel_rfl) (by kernel_rfl) (fun _ _ _ h => h) (by rfl) ?_ hHeld ?_; rotate_left; focus (intro w hSw; go_simp; try with_reducible rfl))
        simp only [Act.put, List.setIfInBounds_toArray, List.set_cons_zero, List.set_cons_succ]
        (refine tk_yes (v := .int .u8 0) 3 (some 27) rfl rfl (by kernel_rfl) (by kernel_rfl) (by kernel_rfl) (fun _ _ _ h => h) (by rfl) ?_ hHeld ?_; focus (intro w hSw; go_simp; try with_reducible rfl))
        simp only [Act.put, List.setIfInBounds_toArray, List.set_cons_zero, List.set_cons_succ]
        (refine tk_yes (v := .int .u8 73) 4 (some 28) rfl rfl (by kernel_rfl) (by kernel_rfl) (by kernel_rfl) (fun _ _ _ h => h) (by rfl) ?_ hHeld ?_; focus (intro w hSw; go_simp; first | done | rfl))
        simp only [Act.put, List.setIfInBounds_toArray, List.set_cons_zero, List.set_cons_succ]
        (refine tk_yes (v := ?_) 5 (some 29) rfl rfl (by kernel_rfl) (by kernel_rfl) (by kernel_rfl) (fun _ _ _ h => h) (by rfl) ?_ hHeld ?_; rotate_left; focus (intro w hSw; go_simp; try with_reducible rfl))
        simp only [Act.put, List.setIfInBounds_toArray, List.set_cons_zero, List.set_cons_succ]
        (refine tk_yes (v := .int .i64 ((k : Int) + 1)) 6 (some 30) rfl rfl (by kernel_rfl) (by kernel_rfl) (by kernel_rfl) (fun _ _ _ h => h) (by rfl) ?_ hHeld ?_; focus (intro w hSw; go_simp; try with_reducible rfl))
        simp only [Act.put, List.setIfInBounds_toArray, List.set_cons_zero, List.set_cons_succ]
        (refine tk_yes (v := ?_) 7 (some 31) rfl rfl (by kernel_rfl) (by kernel_rfl) (by kernel_rfl) (fun _ _ _ h => h) (by rfl) ?_ hHeld ?_; rotate_left; focus (intro w hSw; go_simp; try with_reducible rfl))
        simp only [Act.put, List.setIfInBounds_toArray, List.set_cons_zero, List.set_cons_succ]
        (refine tk_yes (v := .int .i64 ((k + 1) % M : Nat)) 8 (some 32) rfl rfl (by kernel_rfl) (by kernel_rfl) (by kernel_rfl) (fun _ _ _ h => h) (by rfl) ?_ hHeld ?_; focus (intro w hSw; go_simp; first | done | omega | with_reducible rfl))
        simp only [Act.put, List.setIfInBounds_toArray, List.set_cons_zero, List.set_cons_succ]
        (refine tk_yes (v := (rdS M 73 k).val) 9 (some 33) rfl rfl (by kernel_rfl) (by kernel_rfl) (by kernel_rfl) (fun _ _ _ h => h) (by rfl) ?_ hHeld ?_; focus (intro w hSw; exact run_bd34 (r := rdS M 73 k) _ _ _ _ rfl rfl rfl rfl rfl w))
        simp only [Act.put, List.setIfInBounds_toArray, List.set_cons_zero, List.set_cons_succ]
        refine wpAnyH_ready (rs := [10]) (by kernel_rfl) (by simp) ?_
        refine AllReadyH.cons rfl (fun KC hK => ?_) AllReadyH.nil
        refine step_of (o := { dst := some 34, op := _, type := _, pos := _, after := _, guard := none }) rfl (bsSw (r := rdS M 73 k) _ rfl rfl ?_)
        intro a5 w5 g5 l5
        have G5 := hid g5
        have M5 := hid (M2.out.more l5)
        refine hK.out _ _ trivial (fun hHeld => ?_)
        clear hK g5 l5
        try simp only [Act.put, List.setIfInBounds_toArray, List.set_cons_zero, List.set_cons_succ]
        refine wpAnyH_ready (rs := [11]) (by kernel_rfl) (by simp) ?_
        refine AllReadyH.cons rfl (fun KC hK => ?_) AllReadyH.nil
        refine step_of (o := { dst := some 35, op := _, type := _, pos := _, after := _, guard := none }) rfl (app_stsw (m := k + 1) M5.out G5.out rfl (by omega) _ _ rfl rfl rfl ?_)
        intro a6 c6 w6 m6
        have M6 := hid m6
        refine hK.out _ _ trivial (fun hHeld => ?_)
        clear hK m6
        try simp only [Act.put, List.setIfInBounds_toArray, List.set_cons_zero, List.set_cons_succ]
        (refine tk_yes (v := ?_) 12 (some 8) rfl rfl (by kernel_rfl) (by kernel_rfl) (by kernel_rfl) (fun _ _ _ h => h) (by rfl) ?_ hHeld ?_; rotate_left; focus (intro w hSw; go_simp; try with_reducible rfl))
        simp only [Act.put, List.setIfInBounds_toArray, List.set_cons_zero, List.set_cons_succ]
        refine wpAnyH_done (by kernel_rfl) ?_ _
        refine NoPanic.normal ?_
        go_wp2
        go_roundw
        case rel => exact ⟨k + 1, c6, a6, by omega, by go_num, rfl, M6.out⟩
        case measure => simp [intOf]; omega
      · obtain rfl : k = M := by omega
        have hd : decide ((k : Int) < (k : Int)) = false := decide_eq_false (by omega)
        have MS := M1
        clear M1 hlt hk hd
        go_upto_region 11 with fail
        (try go_frame)
        obtain ⟨wa, hwa⟩ : ∃ x, x = wr := ⟨_, rfl⟩
        rw [← hwa] at MS ⊢
        clear hwa
        go_loopw [10, 11] (fun x i wr => ∃ (j c : Nat) (a : Option Addr), j ≤ 95 + P ∧ i = .int .i64 (j : Int) ∧ x = .slice a j c ∧ T.Mk wa wr (.slice a j c) j (onesL j)) (fun _ i _ => 95 + P - (intOf i).toNat)
        case atStart => exact ⟨0, 0, none, by omega, rfl, rfl, T.Mk.nil wa⟩
        case round =>
          obtain ⟨j, c2, a2, hj, rfl, rfl, hmk⟩ := hrel
          have M1 := hid hmk
          clear hmk
          by_cases hlt : j < 95 + P
          · have hd : decide ((j : Int) < 95 + (P : Int)) = true := decide_eq_true (by omega)
            have hones := ones_more j
            have TB := hid True.intro
            go_wp2_with (first | (have kill := G3.out; refine app_txt (m := j + 1) M3.out G3.out rfl (by omega) rfl _ _ rfl rfl rfl ?_; intro a4 c4 w4 m; have M4 := hid m; rw [hones] at M4; clear m kill G3 M3) | (have kill := TB.out; refine bsT1 (r0 := ⟨#[49]⟩) rfl _ rfl rfl ?_; intro a3 w3 m; have G3 := hid m; have M3 := hid (M1.out.more m.bel); clear m kill TB))
            (try go_frame)
            go_roundw
            case rel => exact ⟨j + 1, c4, a4, by omega, by go_num, rfl, M4.out⟩
            case measure => simp [intOf]; omega
          · obtain rfl : j = 95 + P := by omega
            have hd : decide (((95 + P : Nat) : Int) < 95 + (P : Int)) = false := decide_eq_false (by omega)
            obtain ⟨S, hS, hS2⟩ : ∃ S : Nat, min (95 + P) 100 = S ∧ (S = 95 + P ∧ 95 + P ≤ 100 ∨ S = 100 ∧ ¬ 95 + P ≤ 100) := ⟨_, rfl, by omega⟩
            have HR := hid (rd_I_all k (95 + P) (by omega))
            have TB := hid True.intro
            have hk0 : ¬ (k : Int) = 0 := by omega
            have hk1 : ¬ k = 0 := by omega
            have ht : (200 : Int).tmod (k : Int) = ((200 % k : Nat) : Int) := by rw [Int.tmod_eq_emod_of_nonneg (by omega)]; simp
            clear hS hS2 hd hlt
            go_upto_region 16 with (first | (have kill := D6.out; refine st30 (r := ⟨(200 % k : Nat), 200, false, ⟨#[]⟩, 0⟩) (w0 := w5) D6.out K6.out hb6.out rfl _ _ rfl rfl rfl ?_; intro w7 v l; have c0 := v.cell 0 (v := .int .i64 ((200 % k : Nat) : Int)) rfl; have c1 := v.cell 1 (v := .int .i64 200) rfl; have c2 := v.cell 2 (v := .bool false) rfl; have F7 := hid (sq F5.out l); clear v l kill D6 K6 hb6 F5) | (have kill := F5.out; refine al30 rfl rfl ?_; intro b6 w6 hb v l; have D6 := hid v; have K6 := hid l; have hb6 := hid hb; clear v l hb kill) | (have kill := TB.out; go_at_call 10; refine (run10 _ _ _ (rdL k 73 k) _ _ _ _ (onesL (95 + P)) _ (MS.out.given.below M1.out.bel) (M1.out.given (ones_txt _))).mono ?_; rintro e w5 ⟨rfl, l⟩; rw [HR.out]; have F5 := hid (sq L1.out (sq MS.out.bel (sq M1.out.bel l))); clear l kill TB))
            go_quiet (fail)
            go_wp2
            go_ret
            exact ⟨rfl, bel_drewN F7.out _⟩

  · go_enter Try.func4, Try.ntmps4
    go_upto_region 3 with ((have kill := TA.out; go_at_call 7; refine (known7 _).mono ?_; rintro e w1 ⟨rfl, l1⟩; have L1 := hid l1; clear l1 kill TA))
    go_upto_region 4 with fail
    clear hq q0 q1
    (try rw [hM])
    clear hM
    go_wp2_with fail
    (try go_frame)
    go_loopw [8, 9] (fun x i wr => ∃ (k c : Nat) (a : Option Addr), k ≤ M ∧ i = .int .i64 (k : Int) ∧ x = .slice a k c ∧ MkS w1 wr (.slice a k c) k (rdL M 69 k)) (fun _ i _ => M - (intOf i).toNat)
    case atStart => exact ⟨0, 0, none, by omega, rfl, rfl, MkS.nil w1⟩
    case round =>
      obtain ⟨k, c, a, hk, rfl, rfl, hmk⟩ := hrel
      have M1 := hid hmk
      clear hmk
      by_cases hlt : k < M
      · have hmz : ((k : Int) + 1).tmod (M : Int) = (((k + 1) % M : Nat) : Int) := by
          rw [Int.tmod_eq_emod_of_nonneg (by omega)]; simp
        have hM0 : ¬ (M : Int) = 0 := by omega
        have hw1 : IntKind.i64.wrap ((k : Int) + 1) = (k : Int) + 1 := by rw [IntKind.wrap_i64]; omega
        have hw2 : IntKind.i64.wrap (((k + 1) % M : Nat) : Int) = (((k + 1) % M : Nat) : Int) := by have := Nat.mod_lt (k + 1) (show 0 < M by omega); rw [IntKind.wrap_i64]; omega
        have hd : decide ((k : Int) < (M : Int)) = true := decide_eq_true (by omega)
        have hd2 : decide (k < M) = true := decide_eq_true hlt
        go_upto_region 8 with fail
        refine wp_region_noPanic ?_
        refine wp_region_held_drew (S := (fun _ : World => True)) (by kernel_rfl) trivial (fun hHeld => ?_)
        have M2 : Hid (MkS w1 wr.drew (.slice a k c) k (rdL M 69 k)) := hid (M1.out.more (Below.refl _ wr).drew)
        (refine tk_yes (v := ?_) 0 (some 24) rfl rfl (by kernel_rfl) (by kernel_rfl) (by kernel_rfl) (fun _ _ _ h => h) (by rfl) ?_ hHeld ?_; rotate_left; focus (intro w hSw; go_simp; try with_reducible rfl))
        simp only [Act.put, List.setIfInBounds_toArray, List.set_cons_zero, List.set_cons_succ]
        (refine tk_yes (v := ?_) 1 (some 25) rfl rfl (by kernel_rfl) (by kernel_rfl) (by kernel_rfl) (fun _ _ _ h => h) (by rfl) ?_ hHeld ?_; rotate_left; focus (intro w hSw; go_simp; try with_reducible rfl))
        simp only [Act.put, List.setIfInBounds_toArray, List.set_cons_zero, List.set_cons_succ]
        (refine tk_yes (v := ?_) 2 (some 26) rfl rfl (by kernel_rfl) (by kernel_rfl) (by kernel_rfl) (fun _ _ _ h => h) (by rfl) ?_ hHeld ?_; rotate_left; focus (intro w hSw; go_simp; try with_reducible rfl))
        simp only [Act.put, List.setIfInBounds_toArray, List.set_cons_zero, List.set_cons_succ]
        (refine tk_yes (v := .int .u8 1) 3 (some 27) rfl rfl (by kernel_rfl) (by kernel_rfl) (by kernel_rfl) (fun _ _ _ h => h) (by rfl) ?_ hHeld ?_; focus (intro w hSw; go_simp; try with_reducible rfl))
        simp only [Act.put, List.setIfInBounds_toArray, List.set_cons_zero, List.set_cons_succ]
        (refine tk_yes (v := .int .u8 69) 4 (some 28) rfl rfl (by kernel_rfl) (by kernel_rfl) (by kernel_rfl) (fun _ _ _ h => h) (by rfl) ?_ hHeld ?_; focus (intro w hSw; go_simp; first | done | rfl))
        simp only [Act.put, List.setIfInBounds_toArray, List.set_cons_zero, List.set_cons_succ]
        (refine tk_yes (v := ?_) 5 (some 29) rfl rfl (by kernel_rfl) (by kernel_rfl) (by kernel_rfl) (fun _ _ _ h => h) (by rfl) ?_ hHeld ?_; rotate_left; focus (intro w hSw; go_simp; try with_reducible rfl))
        simp only [Act.put, List.setIfInBounds_toArray, List.set_cons_zero, List.set_cons_succ]
        (refine tk_yes (v := .int .i64 ((k : Int) + 1)) 6 (some 30) rfl rfl (by kernel_rfl) (by kernel_rfl) (by kernel_rfl) (fun _ _ _ h => h) (by rfl) ?_ hHeld ?_; focus (intro w hSw; go_simp; try with_reducible rfl))
        simp only [Act.put, List.setIfInBounds_toArray, List.set_cons_zero, List.set_cons_succ]
        (refine tk_yes (v := ?_) 7 (some 31) rfl rfl (by kernel_rfl) (by kernel_rfl) (by kernel_rfl) (fun _ _ _ h => h) (by rfl) ?_ hHeld ?_; rotate_left; focus (intro w hSw; go_simp; try with_reducible rfl))
        simp only [Act.put, List.setIfInBounds_toArray, List.set_cons_zero, List.set_cons_succ]
        (refine tk_yes (v := .int .i64 ((k + 1) % M : Nat)) 8 (some 32) rfl rfl (by kernel_rfl) (by kernel_rfl) (by kernel_rfl) (fun _ _ _ h => h) (by rfl) ?_ hHeld ?_; focus (intro w hSw; go_simp; first | done | omega | with_reducible rfl))
        simp only [Act.put, List.setIfInBounds_toArray, List.set_cons_zero, List.set_cons_succ]
        (refine tk_yes (v := (rdS M 69 k).val) 9 (some 33) rfl rfl (by kernel_rfl) (by kernel_rfl) (by kernel_rfl) (fun _ _ _ h => h) (by rfl) ?_ hHeld ?_; focus (intro w hSw; exact run_bd34 (r := rdS M 69 k) _ _ _ _ rfl rfl rfl rfl rfl w))
        simp only [Act.put, List.setIfInBounds_toArray, List.set_cons_zero, List.set_cons_succ]
        refine wpAnyH_ready (rs := [10]) (by kernel_rfl) (by simp) ?_
        refine AllReadyH.cons rfl (fun KC hK => ?_) AllReadyH.nil
        refine step_of (o := { dst := some 34, op := _, type := _, pos := _, after := _, guard := none }) rfl (bsSw (r := rdS M 69 k) _ rfl rfl ?_)
        intro a5 w5 g5 l5
        have G5 := hid g5
        have M5 := hid (M2.out.more l5)
        refine hK.out _ _ trivial (fun hHeld => ?_)
        clear hK g5 l5
        try simp only [Act.put, List.setIfInBounds_toArray, List.set_cons_zero, List.set_cons_succ]
        refine wpAnyH_ready (rs := [11]) (by kernel_rfl) (by simp) ?_
        refine AllReadyH.cons rfl (fun KC hK => ?_) AllReadyH.nil
        refine step_of (o := { dst := some 35, op := _, type := _, pos := _, after := _, guard := none }) rfl (app_stsw (m := k + 1) M5.out G5.out rfl (by omega) _ _ rfl rfl rfl ?_)
        intro a6 c6 w6 m6
        have M6 := hid m6
        refine hK.out _ _ trivial (fun hHeld => ?_)
        clear hK m6
        try simp only [Act.put, List.setIfInBounds_toArray, List.set_cons_zero, List.set_cons_succ]
        (refine tk_yes (v := ?_) 12 (some 8) rfl rfl (by kernel_rfl) (by kernel_rfl) (by kernel_rfl) (fun _ _ _ h => h) (by rfl) ?_ hHeld ?_; rotate_left; focus (intro w hSw; go_simp; try with_reducible rfl))
        simp only [Act.put, List.setIfInBounds_toArray, List.set_cons_zero, List.set_cons_succ]
        refine wpAnyH_done (by kernel_rfl) ?_ _
        refine NoPanic.normal ?_
        go_wp2
        go_roundw
        case rel => exact ⟨k + 1, c6, a6, by omega, by go_num, rfl, M6.out⟩
        case measure => simp [intOf]; omega
      · obtain rfl : k = M := by omega
        have hd : decide ((k : Int) < (k : Int)) = false := decide_eq_false (by omega)
        have MS := M1
        clear M1 hlt hk hd
        go_upto_region 11 with fail
        (try go_frame)
        obtain ⟨wa, hwa⟩ : ∃ x, x = wr := ⟨_, rfl⟩
        rw [← hwa] at MS ⊢
        clear hwa
        go_loopw [10, 11] (fun x i wr => ∃ (j c : Nat) (a : Option Addr), j ≤ 95 + P ∧ i = .int .i64 (j : Int) ∧ x = .slice a j c ∧ T.Mk wa wr (.slice a j c) j (onesL j)) (fun _ i _ => 95 + P - (intOf i).toNat)
        case atStart => exact ⟨0, 0, none, by omega, rfl, rfl, T.Mk.nil wa⟩
        case round =>
          obtain ⟨j, c2, a2, hj, rfl, rfl, hmk⟩ := hrel
          have M1 := hid hmk
          clear hmk
          by_cases hlt : j < 95 + P
          · have hd : decide ((j : Int) < 95 + (P : Int)) = true := decide_eq_true (by omega)
            have hones := ones_more j
            have TB := hid True.intro
            go_wp2_with (first | (have kill := G3.out; refine app_txt (m := j + 1) M3.out G3.out rfl (by omega) rfl _ _ rfl rfl rfl ?_; intro a4 c4 w4 m; have M4 := hid m; rw [hones] at M4; clear m kill G3 M3) | (have kill := TB.out; refine bsT1 (r0 := ⟨#[49]⟩) rfl _ rfl rfl ?_; intro a3 w3 m; have G3 := hid m; have M3 := hid (M1.out.more m.bel); clear m kill TB))
            (try go_frame)
            go_roundw
            case rel => exact ⟨j + 1, c4, a4, by omega, by go_num, rfl, M4.out⟩
            case measure => simp [intOf]; omega
          · obtain rfl : j = 95 + P := by omega
            have hd : decide (((95 + P : Nat) : Int) < 95 + (P : Int)) = false := decide_eq_false (by omega)
            obtain ⟨S, hS, hS2⟩ : ∃ S : Nat, min (95 + P) 100 = S ∧ (S = 95 + P ∧ 95 + P ≤ 100 ∨ S = 100 ∧ ¬ 95 + P ≤ 100) := ⟨_, rfl, by omega⟩
            have HR := hid (rd_E_all k (95 + P) (by omega))
            have TB := hid True.intro
            have hk0 : ¬ (k : Int) = 0 := by omega
            have hk1 : ¬ k = 0 := by omega
            rw [hS] at HR
            have ht : (S : Int).tmod (k : Int) = ((S % k : Nat) : Int) := by rw [Int.tmod_eq_emod_of_nonneg (by omega)]; simp
            clear hS hd hlt
            rcases hS2 with ⟨hS3, hS4⟩ | ⟨hS3, hS4⟩
            · have hle : (((95 + P : Nat) : Int) ≤ 100) := by omega
              have HM : Hid (((S : Nat) : Int) = ((95 + P : Nat) : Int)) := hid (by omega)
              clear hS3 hS4
              go_upto_region 17 with (first | (have kill := D6.out; refine st30 (r := ⟨(S % k : Nat), (S : Nat), false, ⟨#[]⟩, 0⟩) (w0 := w5) D6.out K6.out hb6.out rfl _ _ rfl rfl rfl ?_; intro w7 v l; have c0 := v.cell 0 (v := .int .i64 ((S % k : Nat) : Int)) rfl; have c1 := v.cell 1 (v := .int .i64 ((S : Nat) : Int)) rfl; have c2 := v.cell 2 (v := .bool false) rfl; have F7 := hid (sq F5.out l); clear v l kill D6 K6 hb6 F5) | (have kill := F5.out; refine al30 rfl rfl ?_; intro b6 w6 hb v l; have D6 := hid v; have K6 := hid l; have hb6 := hid hb; clear v l hb kill) | (have kill := TB.out; go_at_call 10; refine (run10 _ _ _ (rdL k 69 k) _ _ _ _ (onesL (95 + P)) _ (MS.out.given.below M1.out.bel) (M1.out.given (ones_txt _))).mono ?_; rintro e w5 ⟨rfl, l⟩; rw [HR.out]; have F5 := hid (sq L1.out (sq MS.out.bel (sq M1.out.bel l))); clear l kill TB))
              have hmin := HM.out
              go_quiet (fail)
              go_wp2
              go_ret
              exact ⟨rfl, bel_drewN F7.out _⟩
            · have hle : ¬ (((95 + P : Nat) : Int) ≤ 100) := by omega
              have HM : Hid (((S : Nat) : Int) = 100) := hid (by omega)
              clear hS3 hS4
              go_upto_region 17 with (first | (have kill := D6.out; refine st30 (r := ⟨(S % k : Nat), (S : Nat), false, ⟨#[]⟩, 0⟩) (w0 := w5) D6.out K6.out hb6.out rfl _ _ rfl rfl rfl ?_; intro w7 v l; have c0 := v.cell 0 (v := .int .i64 ((S % k : Nat) : Int)) rfl; have c1 := v.cell 1 (v := .int .i64 ((S : Nat) : Int)) rfl; have c2 := v.cell 2 (v := .bool false) rfl; have F7 := hid (sq F5.out l); clear v l kill D6 K6 hb6 F5) | (have kill := F5.out; refine al30 rfl rfl ?_; intro b6 w6 hb v l; have D6 := hid v; have K6 := hid l; have hb6 := hid hb; clear v l hb kill) | (have kill := TB.out; go_at_call 10; refine (run10 _ _ _ (rdL k 69 k) _ _ _ _ (onesL (95 + P)) _ (MS.out.given.below M1.out.bel) (M1.out.given (ones_txt _))).mono ?_; rintro e w5 ⟨rfl, l⟩; rw [HR.out]; have F5 := hid (sq L1.out (sq MS.out.bel (sq M1.out.bel l))); clear l kill TB))
              have hmin := HM.out
              go_quiet (fail)
              go_wp2
              go_ret
              exact ⟨rfl, bel_drewN F7.out _⟩

theorem walkEnds_own : ownKnob Try.prog.godebug = none := by kernel_rfl
theorem walkEnds_laid : laidOutB Try.prog = true := by kernel_rfl

set_option maxRecDepth 100000 in
set_option maxHeartbeats 1000000 in
theorem walkEnds_lifted (os : Os) (started : os.Started) (H : Type) (enc : TypeId × Value → H) :
    ReturnsInHanded {} Try.checked os 4 .any (Rows.walkEndsSpec.pre6 enc Try.prog Try.f4 Rows.walkEndsRow.domain false) (Rows.walkEndsSpec.post enc Try.prog Try.f4 false true false false) := by
  refine returnsInHanded_of_change (C := Try.checked) walkEnds_own started (by kernel_rfl) Try.func4
    (ChangeSpec.witness6 (enc := enc) (C := Try.checked) false ⟨#[], #[.int .u8 0, .int .u8 0, .int .u8 0], []⟩ 8 (by kernel_rfl) (by kernel_rfl) (by kernel_rfl) (by kernel_rfl)) ?_
  intro W base args ds gs before hval0 hW hcnd _
  have hval : ∀ (j : Nat) t v, Try.f4.params[j]? = some t → args[j]? = some v → Value.okWide Try.prog W .any base t v := hval0
  have hW' := hW
  obtain ⟨p, q, hA0, hV, rfl, hfz, hnd⟩ := hW
  have hA : DataW.TrodAll enc Try.prog W 0 (fun _ => true) true Try.f4.params.toList args.toList ds p := hA0
  rw [Try.params4] at hA hval
  obtain ⟨v0, vs0, d0, ds0, p0, q0, hargs, rfl, rfl, h0, r0⟩ := trodAll_cons hA
  obtain ⟨v1, vs1, d1, ds1, p1, q1, rfl, rfl, rfl, h1, r1⟩ := trodAll_cons r0
  obtain ⟨v2, vs2, d2, ds2, p2, q2, rfl, rfl, rfl, h2, r2⟩ := trodAll_cons r1
  obtain ⟨rfl, rfl, rfl⟩ := trodAll_nil r2
  obtain rfl : args = #[v0, v1, v2] := by cases args; simp_all
  obtain ⟨rfl, rfl⟩ := trodVars_none hV
  obtain ⟨a0, rfl, rfl, rfl, w0⟩ := open_int Try.underlying5 (hval 0 5 v0 rfl rfl) h0
  obtain ⟨a1, rfl, rfl, rfl, w1⟩ := open_int Try.underlying5 (hval 1 5 v1 rfl rfl) h1
  obtain ⟨a2, rfl, rfl, rfl, w2⟩ := open_int Try.underlying5 (hval 2 5 v2 rfl rfl) h2
  clear hA0 hval0
  refine (ends_walk a0 a1 a2 W (by have := bounds_u8 w0; omega) (by have := bounds_u8 w1; omega) (by have := bounds_u8 w2; omega)).mono fun e W' ⟨he, bel⟩ => ?_
  subst he
  exact ⟨_, rfl, _, _, _, [], _, [], hW', trodAll_mk1 (shut_bool Try.underlying4 _), (trodAll_cons_mk (shut_int Try.underlying5 w0) (trodAll_cons_mk (shut_int Try.underlying5 w1) (trodAll_cons_mk (shut_int Try.underlying5 w2) trodAll_mk0))), rfl, bel.frame _, fun h => by cases h⟩

theorem walkEnds_over : Rows.walkEndsRow.holds Try.pinned (OpenSpec.ofChange Rows.walkEndsSpec) :=
  OpenClaim.holds_of_wide 4 Try.f4 rfl rfl rfl rfl rfl rfl rfl ⟨rfl, rfl, rfl, rfl, rfl⟩ rfl rfl rfl rfl rfl (by kernel_rfl) Try.func4 (by kernel_rfl)
    (of_decide_eq_true (by kernel_rfl)) (by unfold Func.isWrapper; first | (rw [if_pos (by decide +kernel)]; kernel_rfl) | (rw [if_neg (by decide +kernel)]; exact ⟨rfl, rfl⟩))
    (fun os started H enc _ => walkEnds_lifted os started H enc)

/-- The statement. -/
theorem walkEnds_holds : Rows.WalkEndsSaid := walkEnds_over
#print axioms walkEnds_holds
end Go.Proofs.Ytnahbfnchopghaa
