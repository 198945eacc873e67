/- The small functions: where a bit stands, whether it is set, whether numbers rise, how many bytes they take, whether two rows of numbers are the same. -/
import Derived.Test.YtfpjjdlfofejcaaMNums
import Derived.BigQuiet
import Derived.Deep.QuietTactic
namespace Go.Proofs.Ytfpjjdlfofejcaa
open Go.ChangeShapes Go.WideShapes Go.ChangeAt Go.RowKit
theorem Given.cell {w : World} {ao : Option Addr} {len cap : Nat} {zs : List Int} (h : Given w ao len cap zs) (i : Nat) (hi : i < len) : ∃ b o, ao = some ⟨b, o, none⟩ ∧ w.cell? ⟨b, o + i, none⟩ = some (.int .u8 (zs.getD i 0)) := by
  have := h.leq
  rcases h.row with h0 | ⟨b, o, e, hc⟩
  · subst h0; simp at this; omega
  · exact ⟨b, o, e, hc i (by omega)⟩
theorem I.Given.cell {w : World} {ao : Option Addr} {len cap : Nat} {zs : List Int} (h : I.Given w ao len cap zs) (i : Nat) (hi : i < len) : ∃ b o, ao = some ⟨b, o, none⟩ ∧ w.cell? ⟨b, o + i, none⟩ = some (.int .i64 (zs.getD i 0)) := by
  have := h.leq
  rcases h.row with h0 | ⟨b, o, e, hc⟩
  · subst h0; simp at this; omega
  · exact ⟨b, o, e, hc i (by omega)⟩
end Go.Proofs.Ytfpjjdlfofejcaa
namespace Go.Proofs.Ytfpjjdlfofejcaa.Map
open Go.ChangeShapes Go.WideShapes Go.ChangeAt Go.RowKit

theorem u64_and7 (x : Nat) (h : x < 18446744073709551616) : bits .and .u64 (x : Int) 7 = ((x % 8 : Nat) : Int) := by
  have := bits_mask .u64 64 (by decide) (fun n a b => by rw [IntKind.wrap_u64]; omega) 3 (by decide) (x : Int) (by omega) (by omega)
  rw [show (2 : Int) ^ 3 = 8 by decide, show (8 : Int) - 1 = 7 by decide] at this
  rw [this]; omega
theorem u8_and1 (x : Int) (h0 : 0 ≤ x) (h1 : x < 256) : bits .and .u8 x 1 = x % 2 := bits_mask .u8 8 (by decide) wraps_u8 1 (by decide) x h0 h1
theorem place_any (n j r : Nat) (w : World) (h0 : 1 ≤ n) (h1 : n ≤ 128) (hj : (n - 1) / 8 = j) (hr : (n - 1) % 8 = r) :
    Calls Try.prog 54 #[.int .i64 (n : Int)] w fun e w' => e = .returned (.tuple #[.int .i64 (j : Int), .int .u64 ((7 - r : Nat) : Int)]) ∧ w = w' := by
  have e1 : (n : Int) - 1 = ((n - 1 : Nat) : Int) := by omega
  have e2 : bits .and .u64 ((n : Int) - 1) 7 = (r : Int) := by rw [e1, u64_and7 _ (by omega), hr]
  have e3 : IntKind.u64.wrap (7 - (r : Int)) = ((7 - r : Nat) : Int) := by rw [IntKind.wrap_u64]; omega
  have e4 : ((n : Int) - 1) / 8 = (j : Int) := by omega
  clear e1 hj hr
  go_enter Try.func54, Try.ntmps54
  go_wp2
  go_ret2
  exact ⟨rfl, rfl⟩
theorem has_out {zs : List Int} {n : Int} (h : n < 1 ∨ 128 < n) : hasL zs n = false := by
  unfold hasL; rw [decide_eq_false (by omega)]; rfl
theorem has_in {zs : List Int} {n j r : Nat} (h0 : 1 ≤ n) (h1 : n ≤ 128) (hj : (n - 1) / 8 = j) (hr : (n - 1) % 8 = r) (hl : j < zs.length) : hasL zs (n : Int) = (zs.getD j 0 / 2 ^ (7 - r) % 2 == 1) := by
  unfold hasL hasN
  rw [Int.toNat_natCast, decide_eq_true (show 1 ≤ (n : Int) ∧ (n : Int) ≤ 128 by omega), hj, hr, decide_eq_true hl, Bool.true_and, Bool.true_and]; rfl
theorem has_far {zs : List Int} {n j : Nat} (hj : (n - 1) / 8 = j) (hl : ¬ j < zs.length) : hasL zs (n : Int) = false := by
  unfold hasL hasN
  rw [Int.toNat_natCast, hj, decide_eq_false hl]; simp
theorem shr_byte (x : Int) (k : Nat) (h0 : 0 ≤ x) (h1 : x < 256) : 0 ≤ x / 2 ^ k ∧ x / 2 ^ k < 256 := by
  have hp := two_pow_pos k
  exact ⟨Int.ediv_nonneg h0 (by omega), Int.lt_of_le_of_lt (Int.ediv_le_self _ h0) h1⟩
set_option maxHeartbeats 400000 in
theorem has12 (ao : Option Addr) (len cap : Nat) (zs : List Int) (n : Int) (w : World) (h : Given w ao len cap zs) :
    Calls Try.prog 45 #[.slice ao len cap, .int .i64 n] w fun e w' => e = .returned (.bool (hasL zs n)) ∧ w = w' := by
  by_cases ha : n < 1
  · rw [has_out (.inl ha)]
    clear h
    go_enter Try.func45, Try.ntmps45
    go_wp2
    go_ret
    exact ⟨rfl, rfl⟩
  by_cases hb : 128 < n
  · rw [has_out (.inr hb)]
    clear h
    go_enter Try.func45, Try.ntmps45
    go_wp2
    go_ret
    exact ⟨rfl, rfl⟩
  obtain ⟨x, rfl⟩ : ∃ x : Nat, n = x := ⟨n.toNat, by omega⟩
  obtain ⟨j, hj⟩ : ∃ j, (x - 1) / 8 = j := ⟨_, rfl⟩
  obtain ⟨r, hr⟩ : ∃ r, (x - 1) % 8 = r := ⟨_, rfl⟩
  have x0 : 1 ≤ x := by omega
  have x1 : x ≤ 128 := by omega
  have r1 : r < 8 := by omega
  have HJ := hid hj
  have HR := hid hr
  by_cases hl : j < len
  · have HE := hid (has_in (zs := zs) x0 x1 hj hr (by rw [h.leq]; exact hl))
    obtain ⟨b, o, rfl, hc⟩ := h.cell j hl
    obtain ⟨y0, y1⟩ := byt_getD h.byt j
    generalize zs.getD j 0 = y at *
    obtain ⟨z0, z1⟩ := shr_byte y (7 - r) y0 y1
    have e1 := u8_and1 _ z0 z1
    clear hj hr h z0 z1
    go_enter Try.func45, Try.ntmps45
    go_wp2_with (go_at_call 54; refine (place_any x j r _ x0 x1 HJ.out HR.out).mono ?_; rintro e w2 ⟨rfl, rfl⟩)
    go_ret
    exact ⟨ret_bool HE.out.symm, rfl⟩
  · have HE := hid (has_far (zs := zs) hj (by rw [h.leq]; exact hl))
    clear hj hr h
    go_enter Try.func45, Try.ntmps45
    go_wp2_with (go_at_call 54; refine (place_any x j r _ x0 x1 HJ.out HR.out).mono ?_; rintro e w2 ⟨rfl, rfl⟩)
    go_ret
    exact ⟨ret_bool HE.out.symm, rfl⟩
theorem wid_getD {zs : List Int} (h : Wid zs) (k : Nat) : -9223372036854775808 ≤ zs.getD k 0 ∧ zs.getD k 0 ≤ 9223372036854775807 := by
  by_cases hk : k < zs.length
  · have : zs.getD k 0 = zs[k] := by simp [hk]
    rw [this]; exact h _ (List.getElem_mem hk)
  · simp [hk]
set_option maxHeartbeats 400000 in
theorem right14 (ao : Option Addr) (len cap : Nat) (zs : List Int) (w : World) (h : I.Given w ao len cap zs) (hl : len ≤ 9223372036854775807) :
    Calls Try.prog 52 #[.slice ao len cap] w fun e w' => e = .returned (.bool (riseL zs 1)) ∧ w = w' := by
  have HC : Hid (∀ i, i < len → ∃ b o, ao = some ⟨b, o, none⟩ ∧ w.cell? ⟨b, o + i, none⟩ = some (.int .i64 (zs.getD i 0))) := fun i hi => h.cell i hi
  have HQ := hid h.leq
  clear h
  go_enter Try.func52, Try.ntmps52
  go_wp2
  go_loop [3, 8] (fun last i => ∃ (k : Nat) (y : Int), k ≤ len ∧ i = .int .i64 (k : Int) ∧ last = .int .i64 y ∧ riseL zs 1 = riseL (zs.drop k) y) (fun _ i => len - (intOf i).toNat)
  case atStart => exact ⟨0, 1, by omega, rfl, rfl, rfl⟩
  case round =>
    obtain ⟨k, y, hk, rfl, rfl, hr⟩ := hrel
    have R := hid hr
    clear hr
    by_cases hlt : k < len
    · have HS : Hid (riseL (zs.drop k) y = (decide (y < zs.getD k 0 ∧ zs.getD k 0 ≤ 128) && riseL (zs.drop (k + 1)) (zs.getD k 0))) := rise_step zs k y (by rw [HQ.out]; exact hlt)
      obtain ⟨b, o, rfl, hc⟩ := HC.out k hlt
      generalize zs.getD k 0 = x at *
      by_cases h1 : x ≤ y
      · have HF : Hid (riseL zs 1 = false) := by unfold Hid; rw [R.out, HS.out, decide_eq_false (by omega)]; rfl
        go_wp2
        go_ret
        exact ⟨ret_bool HF.out.symm, rfl⟩
      · by_cases h2 : 128 < x
        · have HF : Hid (riseL zs 1 = false) := by unfold Hid; rw [R.out, HS.out, decide_eq_false (by omega)]; rfl
          go_wp2
          go_ret
          exact ⟨ret_bool HF.out.symm, rfl⟩
        · have HT : Hid (riseL zs 1 = riseL (zs.drop (k + 1)) x) := by unfold Hid; rw [R.out, HS.out, decide_eq_true (by omega)]; rfl
          go_wp2
          go_round
          case rel => exact ⟨k + 1, x, by omega, by go_num, rfl, HT.out⟩
          case measure => simp [intOf]; omega
    · have HT : Hid (riseL zs 1 = true) := by unfold Hid; rw [R.out, rise_end _ _ _ (by rw [HQ.out]; omega)]
      go_wp2
      go_ret
      exact ⟨ret_bool HT.out.symm, rfl⟩
set_option maxHeartbeats 400000 in
theorem size15 (ao : Option Addr) (len cap : Nat) (zs : List Int) (w : World) (h : I.Given w ao len cap zs) (hl : len ≤ 9223372036854775807) :
    Calls Try.prog 47 #[.slice ao len cap] w fun e w' => e = .returned (.int .i64 (sizeL zs : Int)) ∧ w = w' := by
  by_cases h0 : len = 0
  · have hs : sizeL zs = 8 := by unfold sizeL; rw [last_nil (by rw [h.leq]; exact h0)]; rfl
    subst h0
    rw [hs]
    clear h
    go_enter Try.func47, Try.ntmps47
    go_wp2
    go_ret
    exact ⟨rfl, rfl⟩
  obtain ⟨m, rfl⟩ : ∃ m, len = m + 1 := ⟨len - 1, by omega⟩
  have hg := last_get zs (by rw [h.leq]; omega)
  rw [h.leq, Nat.add_sub_cancel] at hg
  obtain ⟨b, o, rfl, hc⟩ := h.cell m (by omega)
  rw [← hg] at hc
  have HS : Hid (sizeL zs = if 64 < lastL zs then 16 else 8) := rfl
  have ha : ((m + 1 : Nat) : Int) - 1 = (m : Int) := by omega
  clear h hg
  generalize lastL zs = x at *
  by_cases h1 : 64 < x
  · rw [if_pos h1] at HS
    rw [HS.out]
    go_enter Try.func47, Try.ntmps47
    go_wp2
    go_ret
    exact ⟨rfl, rfl⟩
  · rw [if_neg h1] at HS
    rw [HS.out]
    go_enter Try.func47, Try.ntmps47
    go_wp2
    go_ret
    exact ⟨rfl, rfl⟩
end Go.Proofs.Ytfpjjdlfofejcaa.Map
