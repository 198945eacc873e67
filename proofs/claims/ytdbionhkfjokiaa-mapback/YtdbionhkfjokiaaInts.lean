/- Rows of numbers held against one another; the numbers of bytes. -/
import Derived.Test.YtdbionhkfjokiaaSmall
namespace Go.Proofs.Ytdbionhkfjokiaa
open Go.ChangeShapes Go.WideShapes Go.ChangeAt Go.RowKit

theorem bel_drewN {B : Nat} {w w' : World} (h : Below B w w') (m : Nat) : Below B w (w'.drewN m) := by
  induction m with
  | zero => exact h
  | succ m ih => exact ih.drew
theorem eq_take {a b : List Int} {k : Nat} (h : a.take k = b.take k) (ha : k < a.length) (hb : k < b.length) (e : a.getD k 0 = b.getD k 0) : a.take (k + 1) = b.take (k + 1) := by
  rw [take_snocI a k ha, take_snocI b k hb, h, e]
theorem ne_at {a b : List Int} {k : Nat} (e : ¬ a.getD k 0 = b.getD k 0) : decide (a = b) = false := by
  apply decide_eq_false; intro h; subst h; exact e rfl
set_option maxHeartbeats 1000000 in
theorem ints10 (a1 a2 : Option Addr) (n1 c1 n2 c2 : Nat) (l1 l2 : List Int) (w : World) (h1 : I.Given w a1 n1 c1 l1) (h2 : I.Given w a2 n2 c2 l2) :
    Calls Try.prog 10 #[.slice a1 n1 c1, .slice a2 n2 c2] w fun e w' => e = .returned (.bool (decide (l1 = l2))) ∧ Below w.heap.size w w' := by
  have HC1 : Hid (∀ i, i < n1 → ∃ b o, a1 = some ⟨b, o, none⟩ ∧ w.cell? ⟨b, o + i, none⟩ = some (.int .i64 (l1.getD i 0))) := fun i hi => h1.cell i hi
  have HC2 : Hid (∀ i, i < n2 → ∃ b o, a2 = some ⟨b, o, none⟩ ∧ w.cell? ⟨b, o + i, none⟩ = some (.int .i64 (l2.getD i 0))) := fun i hi => h2.cell i hi
  have HQ1 := hid h1.leq
  have HQ2 := hid h2.leq
  have hl : n1 ≤ 9223372036854775807 := Nat.le_trans h1.cap1 h1.cap2
  have hl2 : n2 ≤ 9223372036854775807 := Nat.le_trans h2.cap1 h2.cap2
  clear h1 h2
  by_cases hn : n1 = n2
  · subst hn
    go_enter Try.func10, Try.ntmps10
    go_wp2
    go_loopw [5] (fun i wr => ∃ k : Nat, k ≤ n1 ∧ i = .int .i64 (k : Int) ∧ l1.take k = l2.take k ∧ Below w.heap.size w wr) (fun i _ => n1 - (intOf i).toNat)
    case atStart => exact ⟨0, by omega, rfl, rfl, Below.refl _ _⟩
    case round =>
      obtain ⟨k, hk, rfl, he, hb⟩ := hrel
      have E := hid he
      have B1 := hid hb
      clear he hb
      by_cases hlt : k < n1
      · obtain ⟨b, o, rfl, hc⟩ := HC1.out k hlt
        obtain ⟨b', o', rfl, hc'⟩ := HC2.out k hlt
        have HN : Hid (l1.getD k 0 = l2.getD k 0 → l1.take (k + 1) = l2.take (k + 1)) := eq_take E.out (by rw [HQ1.out]; exact hlt) (by rw [HQ2.out]; exact hlt)
        have HF : Hid (¬ l1.getD k 0 = l2.getD k 0 → decide (l1 = l2) = false) := ne_at
        have d1 := (B1.out.cell (p := ⟨b, o + k, none⟩) (World.block_lt_of_cell? w ⟨b, o + k, none⟩ hc)).trans hc
        have d2 := (B1.out.cell (p := ⟨b', o' + k, none⟩) (World.block_lt_of_cell? w ⟨b', o' + k, none⟩ hc')).trans hc'
        generalize l1.getD k 0 = x at *
        generalize l2.getD k 0 = y at *
        clear hc hc'
        by_cases hxy : x = y
        · have HT := hid (HN.out hxy)
          subst hxy
          go_wp2
          go_quiet (fail)
          go_wp2
          go_roundw
          case rel => exact ⟨k + 1, by omega, by go_num, HT.out, bel_drewN B1.out _⟩
          case measure => simp [intOf]; omega
        · have HT := hid (HF.out hxy)
          go_wp2
          go_quiet (fail)
          go_wp2
          go_ret
          exact ⟨ret_bool HT.out.symm, bel_drewN B1.out _⟩
      · have HT : Hid (decide (l1 = l2) = true) := decide_eq_true (by
          have := E.out
          rwa [List.take_of_length_le (by rw [HQ1.out]; omega), List.take_of_length_le (by rw [HQ2.out]; omega)] at this)
        go_wp2
        go_ret
        exact ⟨ret_bool HT.out.symm, B1.out⟩
  · have HF : Hid (decide (l1 = l2) = false) := decide_eq_false (by intro h; apply hn; rw [← HQ1.out, ← HQ2.out, h])
    go_enter Try.func10, Try.ntmps10
    go_wp2
    go_ret
    exact ⟨ret_bool HF.out.symm, Below.refl _ _⟩
theorem has_num {zs : List Int} {x : Nat} (h0 : 1 ≤ x) (h1 : x ≤ 128) : hasL zs (x : Int) = hasN zs x := by
  unfold hasL
  rw [Int.toNat_natCast, decide_eq_true (show 1 ≤ (x : Int) ∧ (x : Int) ≤ 128 by omega), Bool.true_and]
set_option maxHeartbeats 1000000 in
theorem numbers17 (ao : Option Addr) (len cap : Nat) (zs : List Int) (w : World) (h : Given w ao len cap zs) (hl : len ≤ 16) (h0 : 0 < len) :
    Calls Try.prog 17 #[.slice ao len cap] w fun e w' => ∃ a2 n2 c2, e = .returned (.slice a2 n2 c2) ∧ I.Mk w w' (.slice a2 n2 c2) n2 (numsTo (hasN zs) (8 * len + 1)) := by
  have HG := hid h
  clear h
  go_enter Try.func17, Try.ntmps17
  go_wp2
  go_loopw [3, 4] (fun out i wr => ∃ (k : Nat) (a2 : Option Addr) (n2 c2 : Nat), 2 ≤ k ∧ k ≤ 8 * len + 1 ∧ i = .int .i64 (k : Int) ∧ out = .slice a2 n2 c2 ∧ I.Mk w wr (.slice a2 n2 c2) n2 (numsTo (hasN zs) k)) (fun _ i _ => 8 * len + 1 - (intOf i).toNat)
  case atStart => exact ⟨2, _, _, _, by omega, by omega, rfl, rfl, by rw [nums_two]; exact I.Mk.nil _⟩
  case round =>
    obtain ⟨k, a2, n2, c2, k2, hk, rfl, rfl, hD⟩ := hrel
    have D := hid hD
    have hn := hD.1.len
    have hn2 := nums_len (hasN zs) k
    rw [hn] at hn2
    clear hD hn
    by_cases hlt : k ≤ 8 * len
    · have j1 : (k : Int) ≤ (len : Int) * 8 := by omega
      cases hp : hasN zs k
      · have HP : Hid (hasL zs (k : Int) = false) := (has_num (by omega) (by omega)).trans hp
        have HN := hid (nums_no hp)
        clear hp
        go_wp2_with (go_at_call 12; refine (has12 ao len cap zs (k : Int) _ (HG.out.below D.out.2)).mono ?_; rintro e w2 ⟨rfl, rfl⟩; rw [HP.out])
        go_roundw
        case rel => exact ⟨k + 1, _, _, _, by omega, by omega, by go_num, rfl, by rw [HN.out]; exact D.out⟩
        case measure => simp [intOf]; omega
      · have HP : Hid (hasL zs (k : Int) = true) := (has_num (by omega) (by omega)).trans hp
        have HN := hid (nums_yes k2 hp)
        have D3 : Hid (I.Mk w (wr.alloc (.cells #[.int .i64 (k : Int)] 3)) (.slice a2 n2 c2) n2 (numsTo (hasN zs) k)) := D.out.more (bel1 wr _)
        have R3 : Hid (I.RowAt (wr.alloc (.cells #[.int .i64 (k : Int)] 3)) (some ⟨wr.heap.size, 0, none⟩) [(k : Int)]) := (I.row_new wr [(k : Int)] 1 rfl (by omega)).at
        have L2 : Hid ([(k : Int)].length = 1) := rfl
        clear hp
        go_wp2_with (first | (at_builtin; refine I.app_row (l2 := [(k : Int)]) D3.out.1 R3.out L2.out (fun e => by cases e) D3.out.2.size (by omega) rfl _ _ rfl rfl rfl ?_; intro ao4 cap4 w4 r4 t4; have D4 := hid (D3.out.next r4 t4); clear r4 t4) | (go_at_call 12; refine (has12 ao len cap zs (k : Int) _ (HG.out.below D.out.2)).mono ?_; rintro e w2 ⟨rfl, rfl⟩; rw [HP.out]))
        go_roundw
        case rel => exact ⟨k + 1, _, _, _, by omega, by omega, by go_num, rfl, by rw [HN.out]; exact D4.out⟩
        case measure => simp [intOf]; omega
    · have hkl : k = 8 * len + 1 := by omega
      have j1 : ¬ (k : Int) ≤ (len : Int) * 8 := by omega
      subst hkl
      go_wp2
      go_ret
      exact ⟨_, _, _, rfl, D.out⟩
end Go.Proofs.Ytdbionhkfjokiaa
