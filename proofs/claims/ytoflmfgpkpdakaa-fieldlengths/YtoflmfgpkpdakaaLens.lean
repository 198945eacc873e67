/- For every n, d and c the function FieldLengths answers true: just how long each field's value may be. -/
import Derived.Test.YtoflmfgpkpdakaaNumb
namespace Go.Proofs.Ytoflmfgpkpdakaa
open Go.ChangeShapes Go.WideShapes Go.ChangeAt Go.RowKit

set_option maxRecDepth 20000 in
set_option maxHeartbeats 4000000 in
theorem lens_walk (n d c : Int) (w : World) (hn : 0 ≤ n ∧ n < 256) (hd : 0 ≤ d ∧ d < 256) (hc : 0 ≤ c ∧ c < 256) :
    Calls Try.prog 4 #[.int .u8 n, .int .u8 d, .int .u8 c] w fun e w' => e = .returned (.bool true) ∧ Below w.heap.size w w' := by
  have hnum := fun w => number_any n w hn
  obtain ⟨d0, d1⟩ := hd
  obtain ⟨c0, c1⟩ := hc
  clear hn
  go_enter Try.func4, Try.ntmps4
  go_upto_region 4 with (first | (go_at_call 8; have kill := L1.out; refine (hnum _).mono ?_; rintro e w2 ⟨k, rfl, l2⟩; have L2 := hid (sq L1.out l2); clear l2 kill) | (go_at_call 5; refine (known5 _).mono ?_; rintro e w1 ⟨rfl, l1⟩; have L1 := hid l1; clear l1))
  have hor := fun w => of7' k w
  cases hk : fK k
  · rw [hk] at hor
    have hr : rightB k ⟨#[49]⟩ = false := by unfold rightB; rw [hk]; rfl
    have h9 := fun w => right9 k ⟨#[49]⟩ w (by decide)
    rw [hr] at h9
    generalize fD k = D at *
    generalize (fL k : Int) = L at *
    generalize (fV k : Int) = V at *
    clear hk hr
    go_wp2_with (first | (go_at_call 9; have kill := L3.out; refine (h9 _).mono ?_; rintro e w4 ⟨rfl, l4⟩; have L4 := hid (sq L3.out l4); clear l4 kill) | (go_at_call 7; refine (hor _).mono ?_; rintro e w3 ⟨rfl, l3⟩; have L3 := hid (sq L2.out (sq l3 (bel1 w3 (.cells #[.bool D, .int .i64 L, .int .i64 V] 28)))); clear l3))
    go_ret
    exact ⟨rfl, L4.out⟩
  · rw [hk] at hor
    have h9 := fun s w (hs : s.size ≤ 9223372036854775807) => right9 k s w hs
    have hfa := f_any k
    have hpy := fun s w (hs : rightB k s = true) => put_yes k s w hs
    have hpn := fun s w (hz : s.size ≤ 9223372036854775807) (hs : rightB k s = false) => put_no k s w hz hs
    have hrg : ∀ s, rightB k s = (fitI (fL k) (fV k) s.size && sgnB (fD k) s) := fun s => by unfold rightB; rw [hk]; rfl
    have hsg := fun z hz => repS_right k c z hz c0 c1
    have hL2 : (2 : Int) ≤ (fL k : Int) := by have := hfa.2.2.1 hk; omega
    have hL9 : (fL k : Int) ≤ 999 := by have := hfa.1; omega
    have hV0 : (0 : Int) ≤ (fV k : Int) := by omega
    generalize fD k = D at *
    generalize (fL k : Int) = L at *
    generalize (fV k : Int) = V at *
    have HY := hid hpy
    have HNO := hid hpn
    have HR := hid hrg
    have HG := hid hsg
    have H9 := hid h9
    have F0 := fun w => FB.new w D L V 28
    have b0 := fun w => bel1 w (.cells #[.bool D, .int .i64 L, .int .i64 V] 28)
    have e1 : IntKind.i64.wrap d = d := by rw [IntKind.wrap_i64]; omega
    clear hk hfa hpy hpn hrg hsg h9
    go_upto_region 7 with (go_at_call 7; refine (hor _).mono ?_; rintro e w3 ⟨rfl, l3⟩; have L3 := hid (sq L2.out (sq l3 (b0 w3))); have F3 := hid (F0 w3); clear l3)
    clear F0 b0 hor
    have HB1 : Hid (w3.heap.size = w3.heap.size) := rfl
    generalize w3.alloc (Obj.cells #[Value.bool D, Value.int IntKind.i64 L, Value.int IntKind.i64 V] 28) = wA at *
    have B4 := hid (sq L3.out (bel1 wA (.cells #[.int .i64 0, .int .i64 1, .int .i64 (L - 1), .int .i64 L, .int .i64 (L + 1), .int .i64 d] 3)))
    have F4 := hid (F3.out.more (bel1 wA (.cells #[.int .i64 0, .int .i64 1, .int .i64 (L - 1), .int .i64 L, .int .i64 (L + 1), .int .i64 d] 3)))
    have N4 := hid (Nums.new (P := fun m => 0 ≤ m ∧ m ≤ 1000) wA [0, 1, L - 1, L, L + 1, d] 3 (by intro x hx; simp at hx; omega))
    obtain ⟨q0, q1, q2⟩ := F3.out
    go_wp2
    clear q0 q1 q2
    go_loopw [43] (fun i wr => ∃ j : Nat, j ≤ 6 ∧ i = .int .i64 (j : Int) ∧ Nums (fun m => 0 ≤ m ∧ m ≤ 1000) 6 wA.heap.size wr ∧ FB wr w3.heap.size D L V ∧ Below w.heap.size w wr) (fun i _ => 6 - (intOf i).toNat)
    case atStart => exact ⟨0, by omega, rfl, N4.out, F4.out, B4.out⟩
    case round =>
      obtain ⟨j, hj, rfl, hn1, hf1, hb1⟩ := hrel
      have N5 := hid hn1
      have F5 := hid hf1
      have B5 := hid hb1
      clear hn1 hf1 hb1 N4 F4 B4
      generalize wr = wo at *
      by_cases hlt : j < 6
      · obtain ⟨x, ⟨x0, x1⟩, hcell⟩ := N5.out j hlt
        have j0 : (j : Int) < 6 := by omega
        obtain ⟨z, rfl⟩ : ∃ z : Nat, x = (z : Int) := ⟨x.toNat, by omega⟩
        have hz : z ≤ 1000 := by omega
        have emax : max (z : Int) 0 = (z : Int) := by omega
        have hmk := run_make_row' (P := Try.prog) 34 5 (.int .u8 0) 1 Try.underlying34 Try.info5 rfl .i64 .i64 z (by omega) (by omega)
        rw [← fillR_none c z] at hmk
        clear x0 x1 hlt
        go_wp2
        go_loopw [13] (fun i wr => ∃ t : Nat, t ≤ z ∧ i = .int .i64 (t : Int) ∧ wr = wo.alloc (.cells (cellsOf (fillR c z t)) 5)) (fun i _ => z - (intOf i).toNat)
        case atStart => exact ⟨0, by omega, rfl, rfl⟩
        case round =>
          obtain ⟨t, ht, rfl, rfl⟩ := hrel
          by_cases htz : t < z
          · have HST := hid (fillR_store c z t htz)
            have hsz : (cellsOf (fillR c z t)).size = z := by rw [cells_size, fillR_len c z t ht]
            generalize cellsOf (fillR c z t) = C at *
            have t0 : (t : Int) < (z : Int) := by omega
            clear hmk emax hcell
            go_wp2
            go_roundw
            case rel => exact ⟨t + 1, by omega, by go_num, by rw [HST.out]⟩
            case measure => simp [intOf]; omega
          · have t0 : ¬ (t : Int) < (z : Int) := by omega
            obtain rfl : t = z := by omega
            have B6 := hid (bel1 wo (.cells (cellsOf (fillR c t t)) 5))
            have R6 : Hid (RowAt (wo.alloc (.cells (cellsOf (fillR c t t)) 5)) (some ⟨wo.heap.size, 0, none⟩) (List.replicate t c)) := hid (by
              have := (Mk.new wo (fillR c t t) t (fillR_len c t t (Nat.le_refl _)) (by omega)).1.at
              rw [← fillR_all c t]; exact this)
            have HSZ := repS_size c t
            have HC : Hid (∀ w', RowAt w' (some ⟨wo.heap.size, 0, none⟩) (List.replicate t c) → (convert 34 9 (.slice (some ⟨wo.heap.size, 0, none⟩) t t)).run Try.prog w' = .ok (.string (repS c t)) w') := hid fun w' h => run_str w' _ (List.replicate t c) t t (by simp) h
            have HGt := HG.out t
            have HRt := HR.out (repS c t)
            rw [HSZ] at HRt
            have H9t := fun w => H9.out (repS c t) w (by rw [HSZ]; omega)
            have HNOt := fun w => HNO.out (repS c t) w (by rw [HSZ]; omega)
            have HYt := fun w => HY.out (repS c t) w
            generalize repS c t = s at *
            have c6 := HC.out _ R6.out
            have F6 := hid (F5.out.more B6.out)
            have N6 := hid (N5.out.more B6.out)
            have L6 := hid (sq B5.out B6.out)
            generalize wo.alloc (.cells (cellsOf (fillR c t t)) 5) = wB at *
            obtain ⟨q0, q1, q2⟩ := F6.out
            clear HG HR H9 HNO HY HSZ hmk emax hcell N5 F5 B5 B6
            have tn : ¬ (t : Int) < 0 := by omega
            by_cases g0 : (t : Int) = L
            · have ft : fitI L V t = true := by unfold fitI; split <;> simp <;> omega
              have t1 : 1 ≤ t := by omega
              have eL : ((t : Int) == L) = true := by simp [g0]
              clear g0
              have t9 : ¬ (t : Int) = 0 := by omega
              have HG2 := HGt t1
              rw [ft, Bool.true_and, HG2] at HRt
              clear ft HG2
              cases D
              · by_cases s0 : 32 ≤ c
                · by_cases s1 : c ≤ 126
                  · have hr : rightB k s = true := by rw [HRt]; simp; omega
                    rw [hr] at H9t
                    have hp := fun w => HYt w hr
                    clear hr HRt HGt HYt HNOt
                    go_wp2_with (first | (go_at_call 9; have kill := L8.out; refine (H9t _).mono ?_; rintro e w9 ⟨rfl, l9⟩; have L9 := hid (sq L8.out l9); clear l9 kill) | (go_at_call 10; refine (hp _).mono ?_; rintro e w8 ⟨a8, m8, cp8, rfl, d8⟩; have L8 := hid d8.2; have c8 := HC.out w8 (row_mono d8.2 R6.out); clear d8))
                    go_roundw
                    case rel => exact ⟨j + 1, by omega, by go_num, N6.out.more L9.out, F6.out.more L9.out, sq L6.out L9.out⟩
                    case measure => simp [intOf]; omega
                  · have hr : rightB k s = false := by rw [HRt]; simp; omega
                    rw [hr] at H9t
                    have hp := fun w => HNOt w hr
                    clear hr HRt HGt HYt HNOt
                    go_wp2_with (first | (go_at_call 9; have kill := L8.out; refine (H9t _).mono ?_; rintro e w9 ⟨rfl, l9⟩; have L9 := hid (sq L8.out l9); clear l9 kill) | (go_at_call 10; refine (hp _).mono ?_; rintro e w8 ⟨rfl, l8⟩; have L8 := hid l8; have c8 := HC.out w8 (row_mono l8 R6.out); clear l8))
                    go_roundw
                    case rel => exact ⟨j + 1, by omega, by go_num, N6.out.more L9.out, F6.out.more L9.out, sq L6.out L9.out⟩
                    case measure => simp [intOf]; omega
                · have hr : rightB k s = false := by rw [HRt]; simp; omega
                  rw [hr] at H9t
                  have hp := fun w => HNOt w hr
                  clear hr HRt HGt HYt HNOt
                  go_wp2_with (first | (go_at_call 9; have kill := L8.out; refine (H9t _).mono ?_; rintro e w9 ⟨rfl, l9⟩; have L9 := hid (sq L8.out l9); clear l9 kill) | (go_at_call 10; refine (hp _).mono ?_; rintro e w8 ⟨rfl, l8⟩; have L8 := hid l8; have c8 := HC.out w8 (row_mono l8 R6.out); clear l8))
                  go_roundw
                  case rel => exact ⟨j + 1, by omega, by go_num, N6.out.more L9.out, F6.out.more L9.out, sq L6.out L9.out⟩
                  case measure => simp [intOf]; omega
              · by_cases s0 : 48 ≤ c
                · by_cases s1 : c ≤ 57
                  · have hr : rightB k s = true := by rw [HRt]; simp; omega
                    rw [hr] at H9t
                    have hp := fun w => HYt w hr
                    clear hr HRt HGt HYt HNOt
                    go_wp2_with (first | (go_at_call 9; have kill := L8.out; refine (H9t _).mono ?_; rintro e w9 ⟨rfl, l9⟩; have L9 := hid (sq L8.out l9); clear l9 kill) | (go_at_call 10; refine (hp _).mono ?_; rintro e w8 ⟨a8, m8, cp8, rfl, d8⟩; have L8 := hid d8.2; have c8 := HC.out w8 (row_mono d8.2 R6.out); clear d8))
                    go_roundw
                    case rel => exact ⟨j + 1, by omega, by go_num, N6.out.more L9.out, F6.out.more L9.out, sq L6.out L9.out⟩
                    case measure => simp [intOf]; omega
                  · have hr : rightB k s = false := by rw [HRt]; simp; omega
                    rw [hr] at H9t
                    have hp := fun w => HNOt w hr
                    clear hr HRt HGt HYt HNOt
                    go_wp2_with (first | (go_at_call 9; have kill := L8.out; refine (H9t _).mono ?_; rintro e w9 ⟨rfl, l9⟩; have L9 := hid (sq L8.out l9); clear l9 kill) | (go_at_call 10; refine (hp _).mono ?_; rintro e w8 ⟨rfl, l8⟩; have L8 := hid l8; have c8 := HC.out w8 (row_mono l8 R6.out); clear l8))
                    go_roundw
                    case rel => exact ⟨j + 1, by omega, by go_num, N6.out.more L9.out, F6.out.more L9.out, sq L6.out L9.out⟩
                    case measure => simp [intOf]; omega
                · have hr : rightB k s = false := by rw [HRt]; simp; omega
                  rw [hr] at H9t
                  have hp := fun w => HNOt w hr
                  clear hr HRt HGt HYt HNOt
                  go_wp2_with (first | (go_at_call 9; have kill := L8.out; refine (H9t _).mono ?_; rintro e w9 ⟨rfl, l9⟩; have L9 := hid (sq L8.out l9); clear l9 kill) | (go_at_call 10; refine (hp _).mono ?_; rintro e w8 ⟨rfl, l8⟩; have L8 := hid l8; have c8 := HC.out w8 (row_mono l8 R6.out); clear l8))
                  go_roundw
                  case rel => exact ⟨j + 1, by omega, by go_num, N6.out.more L9.out, F6.out.more L9.out, sq L6.out L9.out⟩
                  case measure => simp [intOf]; omega
            · have eL : ((t : Int) == L) = false := by simp [g0]
              by_cases v0 : 0 < V
              · by_cases t1 : 1 ≤ t
                · have t1i : (1 : Int) ≤ (t : Int) := by omega
                  by_cases t2 : (t : Int) ≤ L
                  · have ft : fitI L V t = true := by unfold fitI; rw [if_neg (by omega)]; simp; omega
                    clear g0
                    have t9 : ¬ (t : Int) = 0 := by omega
                    have HG2 := HGt t1
                    rw [ft, Bool.true_and, HG2] at HRt
                    clear ft HG2
                    cases D
                    · by_cases s0 : 32 ≤ c
                      · by_cases s1 : c ≤ 126
                        · have hr : rightB k s = true := by rw [HRt]; simp; omega
                          rw [hr] at H9t
                          have hp := fun w => HYt w hr
                          clear hr HRt HGt HYt HNOt
                          go_wp2_with (first | (go_at_call 9; have kill := L8.out; refine (H9t _).mono ?_; rintro e w9 ⟨rfl, l9⟩; have L9 := hid (sq L8.out l9); clear l9 kill) | (go_at_call 10; refine (hp _).mono ?_; rintro e w8 ⟨a8, m8, cp8, rfl, d8⟩; have L8 := hid d8.2; have c8 := HC.out w8 (row_mono d8.2 R6.out); clear d8))
                          go_roundw
                          case rel => exact ⟨j + 1, by omega, by go_num, N6.out.more L9.out, F6.out.more L9.out, sq L6.out L9.out⟩
                          case measure => simp [intOf]; omega
                        · have hr : rightB k s = false := by rw [HRt]; simp; omega
                          rw [hr] at H9t
                          have hp := fun w => HNOt w hr
                          clear hr HRt HGt HYt HNOt
                          go_wp2_with (first | (go_at_call 9; have kill := L8.out; refine (H9t _).mono ?_; rintro e w9 ⟨rfl, l9⟩; have L9 := hid (sq L8.out l9); clear l9 kill) | (go_at_call 10; refine (hp _).mono ?_; rintro e w8 ⟨rfl, l8⟩; have L8 := hid l8; have c8 := HC.out w8 (row_mono l8 R6.out); clear l8))
                          go_roundw
                          case rel => exact ⟨j + 1, by omega, by go_num, N6.out.more L9.out, F6.out.more L9.out, sq L6.out L9.out⟩
                          case measure => simp [intOf]; omega
                      · have hr : rightB k s = false := by rw [HRt]; simp; omega
                        rw [hr] at H9t
                        have hp := fun w => HNOt w hr
                        clear hr HRt HGt HYt HNOt
                        go_wp2_with (first | (go_at_call 9; have kill := L8.out; refine (H9t _).mono ?_; rintro e w9 ⟨rfl, l9⟩; have L9 := hid (sq L8.out l9); clear l9 kill) | (go_at_call 10; refine (hp _).mono ?_; rintro e w8 ⟨rfl, l8⟩; have L8 := hid l8; have c8 := HC.out w8 (row_mono l8 R6.out); clear l8))
                        go_roundw
                        case rel => exact ⟨j + 1, by omega, by go_num, N6.out.more L9.out, F6.out.more L9.out, sq L6.out L9.out⟩
                        case measure => simp [intOf]; omega
                    · by_cases s0 : 48 ≤ c
                      · by_cases s1 : c ≤ 57
                        · have hr : rightB k s = true := by rw [HRt]; simp; omega
                          rw [hr] at H9t
                          have hp := fun w => HYt w hr
                          clear hr HRt HGt HYt HNOt
                          go_wp2_with (first | (go_at_call 9; have kill := L8.out; refine (H9t _).mono ?_; rintro e w9 ⟨rfl, l9⟩; have L9 := hid (sq L8.out l9); clear l9 kill) | (go_at_call 10; refine (hp _).mono ?_; rintro e w8 ⟨a8, m8, cp8, rfl, d8⟩; have L8 := hid d8.2; have c8 := HC.out w8 (row_mono d8.2 R6.out); clear d8))
                          go_roundw
                          case rel => exact ⟨j + 1, by omega, by go_num, N6.out.more L9.out, F6.out.more L9.out, sq L6.out L9.out⟩
                          case measure => simp [intOf]; omega
                        · have hr : rightB k s = false := by rw [HRt]; simp; omega
                          rw [hr] at H9t
                          have hp := fun w => HNOt w hr
                          clear hr HRt HGt HYt HNOt
                          go_wp2_with (first | (go_at_call 9; have kill := L8.out; refine (H9t _).mono ?_; rintro e w9 ⟨rfl, l9⟩; have L9 := hid (sq L8.out l9); clear l9 kill) | (go_at_call 10; refine (hp _).mono ?_; rintro e w8 ⟨rfl, l8⟩; have L8 := hid l8; have c8 := HC.out w8 (row_mono l8 R6.out); clear l8))
                          go_roundw
                          case rel => exact ⟨j + 1, by omega, by go_num, N6.out.more L9.out, F6.out.more L9.out, sq L6.out L9.out⟩
                          case measure => simp [intOf]; omega
                      · have hr : rightB k s = false := by rw [HRt]; simp; omega
                        rw [hr] at H9t
                        have hp := fun w => HNOt w hr
                        clear hr HRt HGt HYt HNOt
                        go_wp2_with (first | (go_at_call 9; have kill := L8.out; refine (H9t _).mono ?_; rintro e w9 ⟨rfl, l9⟩; have L9 := hid (sq L8.out l9); clear l9 kill) | (go_at_call 10; refine (hp _).mono ?_; rintro e w8 ⟨rfl, l8⟩; have L8 := hid l8; have c8 := HC.out w8 (row_mono l8 R6.out); clear l8))
                        go_roundw
                        case rel => exact ⟨j + 1, by omega, by go_num, N6.out.more L9.out, F6.out.more L9.out, sq L6.out L9.out⟩
                        case measure => simp [intOf]; omega
                  · have ft : fitI L V t = false := by unfold fitI; rw [if_neg (by omega)]; simp; omega
                    clear g0
                    have hr : rightB k s = false := by rw [HRt, ft]; rfl
                    rw [hr] at H9t
                    have hp := fun w => HNOt w hr
                    clear hr HRt HGt HYt HNOt
                    go_wp2_with (first | (go_at_call 9; have kill := L8.out; refine (H9t _).mono ?_; rintro e w9 ⟨rfl, l9⟩; have L9 := hid (sq L8.out l9); clear l9 kill) | (go_at_call 10; refine (hp _).mono ?_; rintro e w8 ⟨rfl, l8⟩; have L8 := hid l8; have c8 := HC.out w8 (row_mono l8 R6.out); clear l8))
                    go_roundw
                    case rel => exact ⟨j + 1, by omega, by go_num, N6.out.more L9.out, F6.out.more L9.out, sq L6.out L9.out⟩
                    case measure => simp [intOf]; omega
                · have ft : fitI L V t = false := by unfold fitI; rw [if_neg (by omega)]; simp; omega
                  have t1i : ¬ (1 : Int) ≤ (t : Int) := by omega
                  clear g0
                  have hr : rightB k s = false := by rw [HRt, ft]; rfl
                  rw [hr] at H9t
                  have hp := fun w => HNOt w hr
                  clear hr HRt HGt HYt HNOt
                  go_wp2_with (first | (go_at_call 9; have kill := L8.out; refine (H9t _).mono ?_; rintro e w9 ⟨rfl, l9⟩; have L9 := hid (sq L8.out l9); clear l9 kill) | (go_at_call 10; refine (hp _).mono ?_; rintro e w8 ⟨rfl, l8⟩; have L8 := hid l8; have c8 := HC.out w8 (row_mono l8 R6.out); clear l8))
                  go_roundw
                  case rel => exact ⟨j + 1, by omega, by go_num, N6.out.more L9.out, F6.out.more L9.out, sq L6.out L9.out⟩
                  case measure => simp [intOf]; omega
              · have ft : fitI L V t = false := by unfold fitI; rw [if_pos (by omega)]; simp [g0]
                clear g0
                have hr : rightB k s = false := by rw [HRt, ft]; rfl
                rw [hr] at H9t
                have hp := fun w => HNOt w hr
                clear hr HRt HGt HYt HNOt
                go_wp2_with (first | (go_at_call 9; have kill := L8.out; refine (H9t _).mono ?_; rintro e w9 ⟨rfl, l9⟩; have L9 := hid (sq L8.out l9); clear l9 kill) | (go_at_call 10; refine (hp _).mono ?_; rintro e w8 ⟨rfl, l8⟩; have L8 := hid l8; have c8 := HC.out w8 (row_mono l8 R6.out); clear l8))
                go_roundw
                case rel => exact ⟨j + 1, by omega, by go_num, N6.out.more L9.out, F6.out.more L9.out, sq L6.out L9.out⟩
                case measure => simp [intOf]; omega
      · have j0 : ¬ (j : Int) < 6 := by omega
        go_wp2
        go_ret
        exact ⟨rfl, B5.out⟩
theorem fieldLengths_own : ownKnob Try.prog.godebug = none := by kernel_rfl
theorem fieldLengths_laid : laidOutB Try.prog = true := by kernel_rfl

set_option maxRecDepth 100000 in
set_option maxHeartbeats 1000000 in
theorem fieldLengths_lifted (os : Os) (started : os.Started) (H : Type) (enc : TypeId × Value → H) :
    ReturnsInHanded {} Try.checked os 4 .any (Rows.fieldLengthsSpec.pre6 enc Try.prog Try.f4 Rows.fieldLengthsRow.domain false) (Rows.fieldLengthsSpec.post enc Try.prog Try.f4 false true false false) := by
  refine returnsInHanded_of_change (C := Try.checked) fieldLengths_own started (by kernel_rfl) Try.func4
    (ChangeSpec.witness6 (enc := enc) (C := Try.checked) false ⟨#[], #[.int .u8 0, .int .u8 0, .int .u8 0], []⟩ 8 (by kernel_rfl) (by kernel_rfl) (by kernel_rfl) (by kernel_rfl)) ?_
  intro W base args ds gs before hval0 hW hcnd _
  have hval : ∀ (j : Nat) t v, Try.f4.params[j]? = some t → args[j]? = some v → Value.okWide Try.prog W .any base t v := hval0
  have hW' := hW
  obtain ⟨p, q, hA0, hV, rfl, hfz, hnd⟩ := hW
  have hA : DataW.TrodAll enc Try.prog W 0 (fun _ => true) true Try.f4.params.toList args.toList ds p := hA0
  rw [Try.params4] at hA hval
  obtain ⟨v0, vs0, d0, ds0, p0, q0, hargs, rfl, rfl, h0, r0⟩ := trodAll_cons hA
  obtain ⟨v1, vs1, d1, ds1, p1, q1, rfl, rfl, rfl, h1, r1⟩ := trodAll_cons r0
  obtain ⟨v2, vs2, d2, ds2, p2, q2, rfl, rfl, rfl, h2, r2⟩ := trodAll_cons r1
  obtain ⟨rfl, rfl, rfl⟩ := trodAll_nil r2
  obtain rfl : args = #[v0, v1, v2] := by cases args; simp_all
  obtain ⟨rfl, rfl⟩ := trodVars_none hV
  obtain ⟨a0, rfl, rfl, rfl, w0⟩ := open_int Try.underlying5 (hval 0 5 v0 rfl rfl) h0
  obtain ⟨a1, rfl, rfl, rfl, w1⟩ := open_int Try.underlying5 (hval 1 5 v1 rfl rfl) h1
  obtain ⟨a2, rfl, rfl, rfl, w2⟩ := open_int Try.underlying5 (hval 2 5 v2 rfl rfl) h2
  clear hA0 hval0
  refine (lens_walk a0 a1 a2 W (by have := bounds_u8 w0; omega) (by have := bounds_u8 w1; omega) (by have := bounds_u8 w2; omega)).mono fun e W' ⟨he, bel⟩ => ?_
  subst he
  exact ⟨_, rfl, _, _, _, [], _, [], hW', trodAll_mk1 (shut_bool Try.underlying4 _), (trodAll_cons_mk (shut_int Try.underlying5 w0) (trodAll_cons_mk (shut_int Try.underlying5 w1) (trodAll_cons_mk (shut_int Try.underlying5 w2) trodAll_mk0))), rfl, bel.frame _, fun h => by cases h⟩

theorem fieldLengths_over : Rows.fieldLengthsRow.holds Try.pinned (OpenSpec.ofChange Rows.fieldLengthsSpec) :=
  OpenClaim.holds_of_wide 4 Try.f4 rfl rfl rfl rfl rfl rfl rfl ⟨rfl, rfl, rfl, rfl, rfl⟩ rfl rfl rfl rfl rfl (by kernel_rfl) Try.func4 (by kernel_rfl)
    (of_decide_eq_true (by kernel_rfl)) (by unfold Func.isWrapper; first | (rw [if_pos (by decide +kernel)]; kernel_rfl) | (rw [if_neg (by decide +kernel)]; exact ⟨rfl, rfl⟩))
    (fun os started H enc _ => fieldLengths_lifted os started H enc)

/-- The statement. -/
theorem fieldLengths_holds : Rows.FieldLengthsSaid := fieldLengths_over
#print axioms fieldLengths_holds
end Go.Proofs.Ytoflmfgpkpdakaa
