/- WireReads: which frame any bytes begin with, behind bad ones, cut ones, others in one another. -/
import Derived.Test.YtecfcfagpciccaaCat
namespace Go.Proofs.Ytecfcfagpciccaa
open Go.ChangeShapes Go.WideShapes Go.ChangeAt Go.RowKit

theorem ufN_le (zs : List Int) : ufN zs ≤ zs.length := by
  unfold ufN
  cases h : unf none 0 zs with
  | none => exact Nat.zero_le _
  | some r => obtain ⟨x, n⟩ := r; have := found_le h; show n ≤ _; omega
/-- In these two cells lie slices of bytes. -/
def Ys (w : World) (g : Nat) : Prop := ∀ k, k < 2 → ∃ ao n c l, w.cell? ⟨g, k, none⟩ = some (.slice ao n c) ∧ Given w ao n c l ∧ n ≤ 900
theorem Ys.below {w w' : World} {g : Nat} (h : Ys w g) (hb : Below w.heap.size w w') : Ys w' g := by
  intro k hk
  obtain ⟨ao, n, c, l, h1, h2, h3⟩ := h k hk
  exact ⟨ao, n, c, l, (hb.cell (p := ⟨g, k, none⟩) (World.block_lt_of_cell? w ⟨g, k, none⟩ h1)).trans h1, h2.below hb, h3⟩
set_option maxHeartbeats 16000000 in
set_option maxRecDepth 20000 in
theorem reads_walk (x0 : Option Addr) (y0 z0 : Nat) (l0 : List Int) (x1 : Option Addr) (y1 z1 : Nat) (l1 : List Int) (W : World) (h0 : InB W x0 y0 z0 l0) (h1 : InB W x1 y1 z1 l1) :
    Calls Try.prog 5 #[.slice x0 y0 z0, .slice x1 y1 z1] W fun e w' => e = .returned (.bool true) ∧ Below W.heap.size W w' := by
  have H0 := hid h0
  have H1 := hid h1
  have cp0 := Nat.le_trans h0.giv.cap1 h0.giv.cap2
  have cp1 := Nat.le_trans h1.giv.cap1 h1.giv.cap2
  clear h0 h1
  have K0 := hid True.intro
  by_cases j0 : 200 < y0
  · have d0 : decide ((200 : Int) < (y0 : Int)) = true := decide_eq_true (by omega)
    have d0' : decide (200 < y0) = true := decide_eq_true j0
    go_enter Try.func5, Try.ntmps5
    go_wp2_with (go_at_call 9; have kill := K0.out; refine (known9 _).mono ?_; rintro e w1 ⟨rfl, b1⟩; have B1 := hid b1; clear b1 kill K0)
    go_ret
    exact ⟨rfl, B1.out⟩
  have d0 : decide ((200 : Int) < (y0 : Int)) = false := decide_eq_false (by omega)
  have d0' : decide (200 < y0) = false := decide_eq_false j0
  by_cases j1 : 40 < y1
  · have d1 : decide ((40 : Int) < (y1 : Int)) = true := decide_eq_true (by omega)
    have d1' : decide (40 < y1) = true := decide_eq_true j1
    go_enter Try.func5, Try.ntmps5
    go_wp2_with (go_at_call 9; have kill := K0.out; refine (known9 _).mono ?_; rintro e w1 ⟨rfl, b1⟩; have B1 := hid b1; clear b1 kill K0)
    go_ret
    exact ⟨rfl, B1.out⟩
  have d1 : decide ((40 : Int) < (y1 : Int)) = false := decide_eq_false (by omega)
  have d1' : decide (40 < y1) = false := decide_eq_false j1
  go_enter Try.func5, Try.ntmps5
  go_upto_region 5 with (go_at_call 9; have kill := K0.out; refine (known9 _).mono ?_; rintro e w1 ⟨rfl, b1⟩; have B1 := hid b1; clear b1 kill K0)
  have HQ1 := hid H1.out.giv.leq
  have HB1 := hid H1.out.giv.byt
  go_wp2
  go_loopw [5, 6] (fun y i wr => ∃ (k n c : Nat) (a : Option Addr) (lb : List Int), k ≤ y1 ∧ i = .int .i64 (k : Int) ∧ y = .slice a n c ∧ n ≤ 10 * k ∧ Byt lb ∧ Mk w1 wr (.slice a n c) n lb) (fun _ i _ => y1 - (intOf i).toNat)
  case atStart => exact ⟨0, 0, 0, none, [], by omega, rfl, rfl, by omega, fun x hx => by simp at hx, Mk.nil w1⟩
  case round =>
    obtain ⟨k, n, c, a, lb, hk, rfl, rfl, hn, hb, hm⟩ := hrel
    have M := hid hm
    have BB := hid hb
    have G1 := hid (H1.out.giv.below (sq B1.out hm.2))
    have ca := hm.1.caps
    have ca1 := ca.2.1
    have ca2 := ca.2.2
    have ca0 := hid ca.1
    clear hm hb ca
    by_cases hlt : k < y1
    · obtain ⟨b, o, rfl, hc⟩ := G1.out.cell k hlt
      obtain ⟨v0, v1⟩ := byt_getD HB1.out k
      generalize l1.getD k 0 = v at *
      obtain ⟨m, h8⟩ : ∃ m, v % 8 = m := ⟨_, rfl⟩
      have h8' : v.tmod 8 = m := by rw [Int.tmod_eq_emod_of_nonneg v0, h8]
      have hm8 : m = 0 ∨ m = 1 ∨ m = 2 ∨ m = 3 ∨ m = 4 ∨ m = 5 ∨ m = 6 ∨ m = 7 := by omega
      rcases hm8 with rfl | rfl | rfl | rfl | rfl | rfl | rfl | rfl
      · skip
        have M1 : Hid (Mk w1 (wr.alloc (.cells #[.int .u8 2] 5)) (.slice a n c) n lb) := M.out.more (bel1 _ _)
        have R1 : Hid (RowAt (wr.alloc (.cells #[.int .u8 2] 5)) (some ⟨wr.heap.size, 0, none⟩) [2]) := (Mk.new wr [2] 1 rfl (by omega)).1.at
        have LL : Hid (([2] : List Int).length = 1) := rfl
        have BN : Hid (Byt (lb ++ [2])) := byt_app BB.out (by intro x hx; simp at hx; omega)
        clear h8
        go_wp2_with (at_builtin; have kill := M1.out; refine app_row (l2 := [2]) M1.out.1 R1.out LL.out (fun e => by cases e) M1.out.2.size (by omega) rfl _ _ rfl rfl rfl ?_; intro a4 c4 w4 r4 t4; have M4 := hid (M1.out.next r4 t4); clear r4 t4 kill M1)
        go_roundw
        case rel => exact ⟨k + 1, n + 1, c4, a4, lb ++ [2], by omega, by go_num, rfl, by omega, BN.out, M4.out⟩
        case measure => simp [intOf]; omega
      · skip
        have M1 : Hid (Mk w1 (wr.alloc (.cells #[.int .u8 2] 5)) (.slice a n c) n lb) := M.out.more (bel1 _ _)
        have R1 : Hid (RowAt (wr.alloc (.cells #[.int .u8 2] 5)) (some ⟨wr.heap.size, 0, none⟩) [2]) := (Mk.new wr [2] 1 rfl (by omega)).1.at
        have LL : Hid (([2] : List Int).length = 1) := rfl
        have BN : Hid (Byt (lb ++ [2])) := byt_app BB.out (by intro x hx; simp at hx; omega)
        clear h8
        go_wp2_with (at_builtin; have kill := M1.out; refine app_row (l2 := [2]) M1.out.1 R1.out LL.out (fun e => by cases e) M1.out.2.size (by omega) rfl _ _ rfl rfl rfl ?_; intro a4 c4 w4 r4 t4; have M4 := hid (M1.out.next r4 t4); clear r4 t4 kill M1)
        go_roundw
        case rel => exact ⟨k + 1, n + 1, c4, a4, lb ++ [2], by omega, by go_num, rfl, by omega, BN.out, M4.out⟩
        case measure => simp [intOf]; omega
      · skip
        have M1 : Hid (Mk w1 (wr.alloc (.cells #[.int .u8 3] 5)) (.slice a n c) n lb) := M.out.more (bel1 _ _)
        have R1 : Hid (RowAt (wr.alloc (.cells #[.int .u8 3] 5)) (some ⟨wr.heap.size, 0, none⟩) [3]) := (Mk.new wr [3] 1 rfl (by omega)).1.at
        have LL : Hid (([3] : List Int).length = 1) := rfl
        have BN : Hid (Byt (lb ++ [3])) := byt_app BB.out (by intro x hx; simp at hx; omega)
        clear h8
        go_wp2_with (at_builtin; have kill := M1.out; refine app_row (l2 := [3]) M1.out.1 R1.out LL.out (fun e => by cases e) M1.out.2.size (by omega) rfl _ _ rfl rfl rfl ?_; intro a4 c4 w4 r4 t4; have M4 := hid (M1.out.next r4 t4); clear r4 t4 kill M1)
        go_roundw
        case rel => exact ⟨k + 1, n + 1, c4, a4, lb ++ [3], by omega, by go_num, rfl, by omega, BN.out, M4.out⟩
        case measure => simp [intOf]; omega
      · skip
        have M1 : Hid (Mk w1 (wr.alloc (.cells #[.int .u8 3] 5)) (.slice a n c) n lb) := M.out.more (bel1 _ _)
        have R1 : Hid (RowAt (wr.alloc (.cells #[.int .u8 3] 5)) (some ⟨wr.heap.size, 0, none⟩) [3]) := (Mk.new wr [3] 1 rfl (by omega)).1.at
        have LL : Hid (([3] : List Int).length = 1) := rfl
        have BN : Hid (Byt (lb ++ [3])) := byt_app BB.out (by intro x hx; simp at hx; omega)
        clear h8
        go_wp2_with (at_builtin; have kill := M1.out; refine app_row (l2 := [3]) M1.out.1 R1.out LL.out (fun e => by cases e) M1.out.2.size (by omega) rfl _ _ rfl rfl rfl ?_; intro a4 c4 w4 r4 t4; have M4 := hid (M1.out.next r4 t4); clear r4 t4 kill M1)
        go_roundw
        case rel => exact ⟨k + 1, n + 1, c4, a4, lb ++ [3], by omega, by go_num, rfl, by omega, BN.out, M4.out⟩
        case measure => simp [intOf]; omega
      · skip
        have M1 : Hid (Mk w1 (wr.alloc (.cells #[.int .u8 97, .int .u8 98] 5)) (.slice a n c) n lb) := M.out.more (bel1 _ _)
        have R1 : Hid (RowAt (wr.alloc (.cells #[.int .u8 97, .int .u8 98] 5)) (some ⟨wr.heap.size, 0, none⟩) [97, 98]) := (Mk.new wr [97, 98] 2 rfl (by omega)).1.at
        have LL : Hid (([97, 98] : List Int).length = 2) := rfl
        have BN : Hid (Byt (lb ++ [97, 98])) := byt_app BB.out (by intro x hx; simp at hx; omega)
        clear h8
        go_wp2_with (at_builtin; have kill := M1.out; refine app_row (l2 := [97, 98]) M1.out.1 R1.out LL.out (fun e => by cases e) M1.out.2.size (by omega) rfl _ _ rfl rfl rfl ?_; intro a4 c4 w4 r4 t4; have M4 := hid (M1.out.next r4 t4); clear r4 t4 kill M1)
        go_roundw
        case rel => exact ⟨k + 1, n + 2, c4, a4, lb ++ [97, 98], by omega, by go_num, rfl, by omega, BN.out, M4.out⟩
        case measure => simp [intOf]; omega
      · obtain ⟨q, hq, q0, q1⟩ : ∃ q, v / 8 = q ∧ 0 ≤ q ∧ q < 32 := ⟨_, rfl, by omega, by omega⟩
        have hq' : v.tdiv 8 = q := by rw [Int.tdiv_eq_ediv_of_nonneg v0, hq]
        obtain ⟨z, hz⟩ : ∃ z, q + 60 = z := ⟨_, rfl⟩
        have z0' : 60 ≤ z := by omega
        have z1' : z < 92 := by omega
        have hw8 : IntKind.u8.wrap (q + 60) = z := by rw [IntKind.wrap_u8]; omega
        have GX : Hid (Given (wr.alloc (.cells #[.int .u8 120, .int .u8 z] 5)) (some ⟨wr.heap.size, 0, none⟩) 2 2 [120, z]) := Given.new wr [120, z] 2 rfl (by omega) (by intro x hx; simp at hx; omega)
        have FXB : Hid (Byt (frX [120, z])) := frX_byt (by intro x hx; simp at hx; omega)
        have FXL : Hid ((frX [120, z]).length ≤ 5) := frX_len
        generalize frX_def : frX [120, z] = fx at *
        have HFX := hid frX_def
        clear hq h8 hz frX_def
        go_upto_region 21 with (go_at_call 18; refine (frame18 _ _ _ [120, z] _ GX.out (fun e => by cases e)).mono ?_; rintro e w3 ⟨a3, n3, c3, rfl, m3⟩; rw [HFX.out] at m3; have M3 := hid m3; clear m3)
        have hl3 : fx.length = n3 := M3.out.1.len
        have hn3 : n3 ≤ 5 := by have := FXL.out; omega
        have LL := hid hl3
        have M1 : Hid (Mk w1 w3 (.slice a n c) n lb) := (M.out.more (bel1 _ _)).more M3.out.2
        have R1 : Hid (RowAt w3 a3 fx) := M3.out.1.at
        have N1 : Hid (a3 = none → n3 = 0 ∧ c3 = 0) := M3.out.1.caps.1
        have BN : Hid (Byt (lb ++ fx)) := byt_app BB.out FXB.out
        clear hl3
        go_wp2_with (at_builtin; have kill := M1.out; refine app_row (l2 := fx) M1.out.1 R1.out LL.out N1.out M1.out.2.size (by omega) rfl _ _ rfl rfl rfl ?_; intro a4 c4 w4 r4 t4; have M4 := hid (M1.out.next r4 t4); clear r4 t4 kill M1)
        go_roundw
        case rel => exact ⟨k + 1, n + n3, c4, a4, lb ++ fx, by omega, by go_num, rfl, by omega, BN.out, M4.out⟩
        case measure => simp [intOf]; omega
      · skip
        have M1 : Hid (Mk w1 (wr.alloc (.cells #[.int .u8 2, .int .u8 3, .int .u8 3] 5)) (.slice a n c) n lb) := M.out.more (bel1 _ _)
        have R1 : Hid (RowAt (wr.alloc (.cells #[.int .u8 2, .int .u8 3, .int .u8 3] 5)) (some ⟨wr.heap.size, 0, none⟩) [2, 3, 3]) := (Mk.new wr [2, 3, 3] 3 rfl (by omega)).1.at
        have LL : Hid (([2, 3, 3] : List Int).length = 3) := rfl
        have BN : Hid (Byt (lb ++ [2, 3, 3])) := byt_app BB.out (by intro x hx; simp at hx; omega)
        clear h8
        go_wp2_with (at_builtin; have kill := M1.out; refine app_row (l2 := [2, 3, 3]) M1.out.1 R1.out LL.out (fun e => by cases e) M1.out.2.size (by omega) rfl _ _ rfl rfl rfl ?_; intro a4 c4 w4 r4 t4; have M4 := hid (M1.out.next r4 t4); clear r4 t4 kill M1)
        go_roundw
        case rel => exact ⟨k + 1, n + 3, c4, a4, lb ++ [2, 3, 3], by omega, by go_num, rfl, by omega, BN.out, M4.out⟩
        case measure => simp [intOf]; omega
      · skip
        have M1 : Hid (Mk w1 (wr.alloc (.cells #[.int .u8 v] 5)) (.slice a n c) n lb) := M.out.more (bel1 _ _)
        have R1 : Hid (RowAt (wr.alloc (.cells #[.int .u8 v] 5)) (some ⟨wr.heap.size, 0, none⟩) [v]) := (Mk.new wr [v] 1 rfl (by omega)).1.at
        have LL : Hid (([v] : List Int).length = 1) := rfl
        have BN : Hid (Byt (lb ++ [v])) := byt_app BB.out (by intro x hx; simp at hx; omega)
        clear h8
        go_wp2_with (at_builtin; have kill := M1.out; refine app_row (l2 := [v]) M1.out.1 R1.out LL.out (fun e => by cases e) M1.out.2.size (by omega) rfl _ _ rfl rfl rfl ?_; intro a4 c4 w4 r4 t4; have M4 := hid (M1.out.next r4 t4); clear r4 t4 kill M1)
        go_roundw
        case rel => exact ⟨k + 1, n + 1, c4, a4, lb ++ [v], by omega, by go_num, rfl, by omega, BN.out, M4.out⟩
        case measure => simp [intOf]; omega
    · have hnb : n ≤ 900 := by omega
      have YS : Hid (Ys (wr.alloc (.cells #[.slice x0 y0 z0, .slice a n c] 22)) wr.heap.size) := by
        have e1 : Below wr.heap.size wr (wr.alloc (.cells #[.slice x0 y0 z0, .slice a n c] 22)) := bel1 _ _
        have hg : (wr.alloc (.cells #[.slice x0 y0 z0, .slice a n c] 22)).heap[wr.heap.size]? = some (.cells #[.slice x0 y0 z0, .slice a n c] 22) := heap_alloc_new _ _
        intro j hj
        have hj2 : j = 0 ∨ j = 1 := by omega
        rcases hj2 with rfl | rfl
        · exact ⟨x0, y0, z0, l0, by rw [cell_of_head hg]; rfl, (H0.out.giv.below (sq B1.out M.out.2)).below e1, by omega⟩
        · exact ⟨a, n, c, lb, by rw [cell_of_head hg]; rfl, (M.out.given BB.out).below e1, hnb⟩
      have BQ : Hid (Below W.heap.size W (wr.alloc (.cells #[.slice x0 y0 z0, .slice a n c] 22))) := sq (sq B1.out M.out.2) (bel1 _ _)
      go_wp2
      generalize wr.alloc (.cells #[.slice x0 y0 z0, .slice a n c] 22) = w2 at *
      generalize wr.heap.size = g at *
      clear M BB G1 ca0 ca1 ca2 hlt hk hn hnb d0 d0' d1 d1'
      go_loopw [88] (fun i wq => ∃ (t : Nat), t ≤ 2 ∧ i = .int .i64 (t : Int) ∧ Ys wq g ∧ Below W.heap.size W wq) (fun i _ => 2 - (intOf i).toNat)
      case atStart => exact ⟨0, by omega, rfl, YS.out, BQ.out⟩
      case round =>
        obtain ⟨t, ht, rfl, hys, hbq⟩ := hrel
        clear YS BQ
        have Y1 := hid hys
        have B1' := hid hbq
        clear hys hbq
        by_cases htl : t < 2
        · have dt : decide ((t : Int) < 2) = true := decide_eq_true (by omega)
          have dt' : decide (t < 2) = true := decide_eq_true htl
          obtain ⟨ao, n, c, l, hc, hg, hn⟩ := Y1.out t htl
          have G0 := hid hg
          clear hg
          go_wp2
          go_loopw [10, 11] (fun y j wq => ∃ (s n c : Nat) (ao : Option Addr) (l : List Int), s ≤ 10 ∧ j = .int .i64 (s : Int) ∧ y = .slice ao n c ∧ n ≤ 900 ∧ Given wq ao n c l ∧ Ys wq g ∧ Below W.heap.size W wq) (fun _ j _ => 10 - (intOf j).toNat)
          case atStart => exact ⟨0, n, c, ao, l, by omega, rfl, rfl, hn, G0.out, Y1.out, B1'.out⟩
          case round =>
            obtain ⟨s, n, c, ao, l, hs, rfl, rfl, hn, hg, hys, hbq⟩ := hrel
            clear Y1 B1' G0 hc
            have Y1 := hid hys
            have B1' := hid hbq
            have G0 := hid hg
            have hcap := hg.cap1
            have hcap2 := hg.cap2
            have hul := ufN_le l
            rw [hg.leq] at hul
            clear hys hbq hg
            by_cases hsl : s < 10
            · obtain ⟨N9, hN9⟩ : ∃ N9, ufN l = N9 := ⟨_, rfl⟩
              obtain ⟨B9, hB9⟩ : ∃ B9, ufB l = B9 := ⟨_, rfl⟩
              obtain ⟨X9, hX9⟩ : ∃ X9, ufX l = X9 := ⟨_, rfl⟩
              rw [hN9] at hul
              have HN9 := hid hN9
              have HB9 := hid hB9
              have HX9 := hid hX9
              clear hN9 hB9 hX9
              go_upto_region 31 with (go_at_call 19; refine (unf19 _ _ _ l _ G0.out (by omega)).mono ?_; rintro e w7 ⟨a7, n7, c7, rfl, m7⟩; rw [HN9.out, HB9.out]; rw [HX9.out] at m7; have M7 := hid m7; clear m7)
              have G7 := hid (G0.out.below M7.out.2)
              go_upto_region 32 with (go_at_call 20; refine (unf20 _ _ _ l _ G7.out (by omega)).mono ?_; rintro e w8 ⟨a8, n8, c8, rfl, m8⟩; rw [HN9.out, HB9.out]; rw [HX9.out] at m8; have M8 := hid m8; clear m8)
              have kc1 := run_str w8 a7 X9 n7 c7 M7.out.1.len (row_mono M8.out.2 M7.out.1.at)
              have kc2 := run_str w8 a8 X9 n8 c8 M8.out.1.len M8.out.1.at
              have Y8 := hid (Y1.out.below (sq M7.out.2 M8.out.2))
              have B8' := hid (sq B1'.out (sq M7.out.2 M8.out.2))
              have G8 := hid (G7.out.below M8.out.2)
              generalize strOfNums X9 = S at *
              cases B9
              · go_wp2
                go_roundw
                case rel => exact ⟨t + 1, by omega, by go_num, Y8.out, B8'.out⟩
                case measure => simp [intOf]; omega
              · obtain ⟨a9, r9, g9, _⟩ := sub_l (ao := ao) N9 (N9 : Int) rfl hul hcap
                have G9 := hid (g9 _ _ G8.out)
                clear g9
                go_wp2
                go_roundw
                case rel => exact ⟨s + 1, n - N9, c - N9, a9, l.drop N9, by omega, by go_num, rfl, by omega, G9.out, Y8.out, B8'.out⟩
                case measure => simp [intOf]; omega
            · go_wp2
              go_roundw
              case rel => exact ⟨t + 1, by omega, by go_num, Y1.out, B1'.out⟩
              case measure => simp [intOf]; omega
        · go_wp2
          go_ret
          exact ⟨rfl, B1'.out⟩
theorem wireReads_own : ownKnob Try.prog.godebug = none := by kernel_rfl
theorem wireReads_laid : laidOutB Try.prog = true := by kernel_rfl

set_option maxRecDepth 100000 in
set_option maxHeartbeats 1000000 in
theorem wireReads_lifted (os : Os) (started : os.Started) (H : Type) (enc : TypeId × Value → H) :
    ReturnsInHanded {} Try.checked os 5 .any (Rows.wireReadsSpec.pre6 enc Try.prog Try.f5 Rows.wireReadsRow.domain false) (Rows.wireReadsSpec.post enc Try.prog Try.f5 false true false false) := by
  refine returnsInHanded_of_change (C := Try.checked) wireReads_own started (by kernel_rfl) Try.func5
    (ChangeSpec.witness6 (enc := enc) (C := Try.checked) false ⟨#[], #[.slice none 0 0, .slice none 0 0], []⟩ 8 (by kernel_rfl) (by kernel_rfl) (by kernel_rfl) (by kernel_rfl)) ?_
  intro W base args ds gs before hval0 hW hcnd _
  have hval : ∀ (j : Nat) t v, Try.f5.params[j]? = some t → args[j]? = some v → Value.okWide Try.prog W .any base t v := hval0
  have hW' := hW
  obtain ⟨p, q, hA0, hV, rfl, hfz, hnd⟩ := hW
  have hA : DataW.TrodAll enc Try.prog W 0 (fun _ => true) true Try.f5.params.toList args.toList ds p := hA0
  rw [Try.params5] at hA hval
  obtain ⟨v0, vs0, d0, ds0, p0, q0, hargs, rfl, rfl, h0, r0⟩ := trodAll_cons hA
  obtain ⟨v1, vs1, d1, ds1, p1, q1, rfl, rfl, rfl, h1, r1⟩ := trodAll_cons r0
  obtain ⟨rfl, rfl, rfl⟩ := trodAll_nil r1
  obtain rfl : args = #[v0, v1] := by cases args; simp_all
  obtain ⟨rfl, rfl⟩ := trodVars_none hV
  obtain ⟨x0, y0, z0, rfl⟩ := okWide_slice Try.underlying22 (hval 0 22 v0 rfl rfl)
  have k0 := h0
  have lt0 : ∀ x ∈ p0, x.block < W.heap.size := by obtain ⟨m, hm⟩ := k0; exact DataW.trod_lt m _ _ _ hm
  obtain ⟨a0, len0, cap0, l0, e0, w0⟩ : ∃ a len cap l, Value.slice x0 y0 z0 = .slice a len cap ∧ InB W a len cap l := by
    obtain ⟨fuel, hf⟩ := h0
    exact open_inB hf
  cases e0
  obtain ⟨x1, y1, z1, rfl⟩ := okWide_slice Try.underlying22 (hval 1 22 v1 rfl rfl)
  have k1 := h1
  have lt1 : ∀ x ∈ p1, x.block < W.heap.size := by obtain ⟨m, hm⟩ := k1; exact DataW.trod_lt m _ _ _ hm
  obtain ⟨a1, len1, cap1, l1, e1, w1⟩ : ∃ a len cap l, Value.slice x1 y1 z1 = .slice a len cap ∧ InB W a len cap l := by
    obtain ⟨fuel, hf⟩ := h1
    exact open_inB hf
  cases e1
  clear hA0 hval0
  refine (reads_walk x0 y0 z0 l0 x1 y1 z1 l1 W w0 w1).mono fun e W' ⟨he, bel⟩ => ?_
  subst he
  exact ⟨_, rfl, _, _, _, [], _, [], hW', trodAll_mk1 (shut_bool Try.underlying4 _), (trodAll_cons_mk (Below.trod wireReads_laid (by kernel_rfl) (of_decide_eq_true (by kernel_rfl)) k0 bel lt0) (trodAll_cons_mk (Below.trod wireReads_laid (by kernel_rfl) (of_decide_eq_true (by kernel_rfl)) k1 bel lt1) trodAll_mk0)), rfl, bel.frame _, fun h => by cases h⟩

theorem wireReads_over : Rows.wireReadsRow.holds Try.pinned (OpenSpec.ofChange Rows.wireReadsSpec) :=
  OpenClaim.holds_of_wide 5 Try.f5 rfl rfl rfl rfl rfl rfl rfl ⟨rfl, rfl, rfl, rfl, rfl⟩ rfl rfl rfl rfl rfl (by kernel_rfl) Try.func5 (by kernel_rfl)
    (of_decide_eq_true (by kernel_rfl)) (by unfold Func.isWrapper; first | (rw [if_pos (by decide +kernel)]; kernel_rfl) | (rw [if_neg (by decide +kernel)]; exact ⟨rfl, rfl⟩))
    (fun os started H enc _ => wireReads_lifted os started H enc)

/-- The statement. -/
theorem wireReads_holds : Rows.WireReadsSaid := wireReads_over
#print axioms wireReads_holds
end Go.Proofs.Ytecfcfagpciccaa
