/- Rows of numbers held against one another; the numbers of bytes. -/
import Derived.Test.YtfpjjdlfofejcaaMSmall
namespace Go.Proofs.Ytfpjjdlfofejcaa.Map
open Go.ChangeShapes Go.WideShapes Go.ChangeAt Go.RowKit

theorem bel_drewN {B : Nat} {w w' : World} (h : Below B w w') (m : Nat) : Below B w (w'.drewN m) := by
  induction m with
  | zero => exact h
  | succ m ih => exact ih.drew
theorem eq_take {a b : List Int} {k : Nat} (h : a.take k = b.take k) (ha : k < a.length) (hb : k < b.length) (e : a.getD k 0 = b.getD k 0) : a.take (k + 1) = b.take (k + 1) := by
  rw [take_snocI a k ha, take_snocI b k hb, h, e]
theorem ne_at {a b : List Int} {k : Nat} (e : ¬ a.getD k 0 = b.getD k 0) : decide (a = b) = false := by
  apply decide_eq_false; intro h; subst h; exact e rfl
theorem has_num {zs : List Int} {x : Nat} (h0 : 1 ≤ x) (h1 : x ≤ 128) : hasL zs (x : Int) = hasN zs x := by
  unfold hasL
  rw [Int.toNat_natCast, decide_eq_true (show 1 ≤ (x : Int) ∧ (x : Int) ≤ 128 by omega), Bool.true_and]
set_option maxHeartbeats 1000000 in
theorem numbers17 (ao : Option Addr) (len cap : Nat) (zs : List Int) (w : World) (h : Given w ao len cap zs) (hl : len ≤ 16) (h0 : 0 < len) :
    Calls Try.prog 46 #[.slice ao len cap] w fun e w' => ∃ a2 n2 c2, e = .returned (.slice a2 n2 c2) ∧ I.Mk w w' (.slice a2 n2 c2) n2 (numsTo (hasN zs) (8 * len + 1)) := by
  have HG := hid h
  clear h
  go_enter Try.func46, Try.ntmps46
  go_wp2
  go_loopw [3, 4] (fun out i wr => ∃ (k : Nat) (a2 : Option Addr) (n2 c2 : Nat), 2 ≤ k ∧ k ≤ 8 * len + 1 ∧ i = .int .i64 (k : Int) ∧ out = .slice a2 n2 c2 ∧ I.Mk w wr (.slice a2 n2 c2) n2 (numsTo (hasN zs) k)) (fun _ i _ => 8 * len + 1 - (intOf i).toNat)
  case atStart => exact ⟨2, _, _, _, by omega, by omega, rfl, rfl, by rw [nums_two]; exact I.Mk.nil _⟩
  case round =>
    obtain ⟨k, a2, n2, c2, k2, hk, rfl, rfl, hD⟩ := hrel
    have D := hid hD
    have hn := hD.1.len
    have hn2 := nums_len (hasN zs) k
    rw [hn] at hn2
    clear hD hn
    by_cases hlt : k ≤ 8 * len
    · have j1 : (k : Int) ≤ (len : Int) * 8 := by omega
      cases hp : hasN zs k
      · have HP : Hid (hasL zs (k : Int) = false) := (has_num (by omega) (by omega)).trans hp
        have HN := hid (nums_no hp)
        clear hp
        go_wp2_with (go_at_call 45; refine (has12 ao len cap zs (k : Int) _ (HG.out.below D.out.2)).mono ?_; rintro e w2 ⟨rfl, rfl⟩; rw [HP.out])
        go_roundw
        case rel => exact ⟨k + 1, _, _, _, by omega, by omega, by go_num, rfl, by rw [HN.out]; exact D.out⟩
        case measure => simp [intOf]; omega
      · have HP : Hid (hasL zs (k : Int) = true) := (has_num (by omega) (by omega)).trans hp
        have HN := hid (nums_yes k2 hp)
        have D3 : Hid (I.Mk w (wr.alloc (.cells #[.int .i64 (k : Int)] 3)) (.slice a2 n2 c2) n2 (numsTo (hasN zs) k)) := D.out.more (bel1 wr _)
        have R3 : Hid (I.RowAt (wr.alloc (.cells #[.int .i64 (k : Int)] 3)) (some ⟨wr.heap.size, 0, none⟩) [(k : Int)]) := (I.row_new wr [(k : Int)] 1 rfl (by omega)).at
        have L2 : Hid ([(k : Int)].length = 1) := rfl
        clear hp
        go_wp2_with (first | (at_builtin; refine I.app_row (l2 := [(k : Int)]) D3.out.1 R3.out L2.out (fun e => by cases e) D3.out.2.size (by omega) rfl _ _ rfl rfl rfl ?_; intro ao4 cap4 w4 r4 t4; have D4 := hid (D3.out.next r4 t4); clear r4 t4) | (go_at_call 45; refine (has12 ao len cap zs (k : Int) _ (HG.out.below D.out.2)).mono ?_; rintro e w2 ⟨rfl, rfl⟩; rw [HP.out]))
        go_roundw
        case rel => exact ⟨k + 1, _, _, _, by omega, by omega, by go_num, rfl, by rw [HN.out]; exact D4.out⟩
        case measure => simp [intOf]; omega
    · have hkl : k = 8 * len + 1 := by omega
      have j1 : ¬ (k : Int) ≤ (len : Int) * 8 := by omega
      subst hkl
      go_wp2
      go_ret
      exact ⟨_, _, _, rfl, D.out⟩
end Go.Proofs.Ytfpjjdlfofejcaa.Map
