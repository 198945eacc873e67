/- The small functions: the sum of bytes, whether bytes or a text have a mark or a separator, whether a frame is good. -/
import Derived.Test.YthchgjndaeefmaaWPure
import Derived.BigQuiet
import Derived.Deep.QuietTactic
namespace Go.Proofs.Ythchgjndaeefmaa
open Go.ChangeShapes Go.WideShapes Go.ChangeAt Go.RowKit

theorem Given.cell {w : World} {ao : Option Addr} {len cap : Nat} {zs : List Int} (h : Given w ao len cap zs) (i : Nat) (hi : i < len) : ∃ b o, ao = some ⟨b, o, none⟩ ∧ w.cell? ⟨b, o + i, none⟩ = some (.int .u8 (zs.getD i 0)) := by
  rcases h.row with h0 | ⟨b, o, e, hc⟩
  · subst h0; have := h.leq; simp at this; omega
  · exact ⟨b, o, e, hc i (by rw [h.leq]; exact hi)⟩
theorem and12n : ∀ c, c < 256 → bits .and .u32 (12 / 2 ^ min c 32) 1 = if c = 2 ∨ c = 3 then 1 else 0 := by decide +kernel
theorem and28n : ∀ c, c < 256 → bits .and .u32 (268435456 / 2 ^ min c 32) 1 = if c = 28 then 1 else 0 := by decide +kernel
theorem and12 {c : Int} (h : B8 c) : bits .and .u32 (12 / 2 ^ min c.toNat 32) 1 = if c = 2 ∨ c = 3 then 1 else 0 := by
  obtain ⟨n, rfl, hn⟩ := b8_nat h
  rw [Int.toNat_natCast, and12n n hn]
  by_cases e : n = 2 ∨ n = 3
  · rw [if_pos e, if_pos (by omega)]
  · rw [if_neg e, if_neg (by omega)]
theorem and28 {c : Int} (h : B8 c) : bits .and .u32 (268435456 / 2 ^ min c.toNat 32) 1 = if c = 28 then 1 else 0 := by
  obtain ⟨n, rfl, hn⟩ := b8_nat h
  rw [Int.toNat_natCast, and28n n hn]
  by_cases e : n = 28
  · rw [if_pos e, if_pos (by omega)]
  · rw [if_neg e, if_neg (by omega)]
theorem mk_snoc (zs : List Int) (k : Nat) (h : k < zs.length) : mkB (zs.take (k + 1)) = (mkB (zs.take k) || (decide (zs.getD k 0 = 2) || decide (zs.getD k 0 = 3))) := by
  rw [take_snocI zs k h, mkB, List.any_append]; simp [mkB]
theorem mk_more {zs : List Int} {k : Nat} (h : mkB (zs.take k) = true) : mkB zs = true := by
  rw [← List.take_append_drop k zs, mkB, List.any_append, ← mkB, h]; rfl
theorem sp_snoc (zs : List Int) (k : Nat) (h : k < zs.length) : spB (zs.take (k + 1)) = (spB (zs.take k) || decide (zs.getD k 0 = 28)) := by
  rw [take_snocI zs k h, spB, List.any_append]; simp [spB]
theorem sp_more {zs : List Int} {k : Nat} (h : spB (zs.take k) = true) : spB zs = true := by
  rw [← List.take_append_drop k zs, spB, List.any_append, ← spB, h]; rfl
theorem take_done {zs : List Int} {k : Nat} (h : zs.length ≤ k) : zs.take k = zs := List.take_of_length_le h
theorem pan_getD (s : ByteArray) (k : Nat) (h : k < s.size) : (panL s).getD k 0 = (s[k].toNat : Int) := by
  have : k < s.data.toList.length := by simpa using h
  simp [panL, h]; rfl
theorem lrc14 (ao : Option Addr) (len cap : Nat) (zs : List Int) (w : World) (h : Given w ao len cap zs) :
    Calls Try.prog 31 #[.slice ao len cap] w fun e w' => e = .returned (.int .u8 (lrcL zs)) ∧ w = w' := by
  have HC : Hid (∀ i, i < len → ∃ b o, ao = some ⟨b, o, none⟩ ∧ w.cell? ⟨b, o + i, none⟩ = some (.int .u8 (zs.getD i 0))) := fun i hi => h.cell i hi
  have HQ := hid h.leq
  have HB := hid h.byt
  have hl : len ≤ 9223372036854775807 := Nat.le_trans h.cap1 h.cap2
  clear h
  go_enter Try.func31, Try.ntmps31
  go_wp2
  go_loop [3, 8] (fun x i => ∃ (k : Nat), k ≤ len ∧ i = .int .i64 (k : Int) ∧ x = .int .u8 (lrcL (zs.take k))) (fun _ i => len - (intOf i).toNat)
  case atStart => exact ⟨0, by omega, rfl, rfl⟩
  case round =>
    obtain ⟨k, hk, rfl, rfl⟩ := hrel
    by_cases hlt : k < len
    · have HS : Hid (lrcL (zs.take (k + 1)) = bits .xor .u8 (lrcL (zs.take k)) (zs.getD k 0)) := lrc_take zs k (by rw [HQ.out]; exact hlt)
      obtain ⟨b, o, rfl, hc⟩ := HC.out k hlt
      generalize zs.getD k 0 = c at *
      generalize lrcL (zs.take k) = x at *
      go_wp2
      go_round
      case rel => exact ⟨k + 1, by omega, by go_num, by rw [HS.out]⟩
      case measure => simp [intOf]; omega
    · have HT : Hid (lrcL (zs.take k) = lrcL zs) := by unfold Hid; rw [take_done (by rw [HQ.out]; omega)]
      generalize lrcL (zs.take k) = x at *
      go_wp2
      go_ret
      exact ⟨ret_int HT.out, rfl⟩
theorem lrc15 (ao : Option Addr) (len cap : Nat) (zs : List Int) (w : World) (h : Given w ao len cap zs) :
    Calls Try.prog 14 #[.slice ao len cap] w fun e w' => e = .returned (.int .u8 (lrcL zs)) ∧ w = w' := by
  have HC : Hid (∀ i, i < len → ∃ b o, ao = some ⟨b, o, none⟩ ∧ w.cell? ⟨b, o + i, none⟩ = some (.int .u8 (zs.getD i 0))) := fun i hi => h.cell i hi
  have HQ := hid h.leq
  have HB := hid h.byt
  have hl : len ≤ 9223372036854775807 := Nat.le_trans h.cap1 h.cap2
  clear h
  go_enter Try.func14, Try.ntmps14
  go_wp2
  go_loop [3, 4] (fun x i => ∃ (k : Nat), k ≤ len ∧ i = .int .i64 (k : Int) ∧ x = .int .u8 (lrcL (zs.take k))) (fun _ i => len - (intOf i).toNat)
  case atStart => exact ⟨0, by omega, rfl, rfl⟩
  case round =>
    obtain ⟨k, hk, rfl, rfl⟩ := hrel
    by_cases hlt : k < len
    · have HS : Hid (lrcL (zs.take (k + 1)) = bits .xor .u8 (lrcL (zs.take k)) (zs.getD k 0)) := lrc_take zs k (by rw [HQ.out]; exact hlt)
      obtain ⟨b, o, rfl, hc⟩ := HC.out k hlt
      generalize zs.getD k 0 = c at *
      generalize lrcL (zs.take k) = x at *
      go_wp2
      go_round
      case rel => exact ⟨k + 1, by omega, by go_num, by rw [HS.out]⟩
      case measure => simp [intOf]; omega
    · have HT : Hid (lrcL (zs.take k) = lrcL zs) := by unfold Hid; rw [take_done (by rw [HQ.out]; omega)]
      generalize lrcL (zs.take k) = x at *
      go_wp2
      go_ret
      exact ⟨ret_int HT.out, rfl⟩
theorem sum23 (ao : Option Addr) (len cap : Nat) (zs : List Int) (w : World) (h : Given w ao len cap zs) :
    Calls Try.prog 27 #[.slice ao len cap] w fun e w' => e = .returned (.int .u8 (sumL zs)) ∧ w = w' := by
  have H := hid h
  clear h
  go_enter Try.func27, Try.ntmps27
  go_wp2_with (go_at_call 31; refine (lrc14 _ _ _ zs _ H.out).mono ?_; rintro e w2 ⟨rfl, rfl⟩)
  go_ret
  exact ⟨rfl, rfl⟩
set_option maxHeartbeats 1000000 in
theorem marks22 (ao : Option Addr) (len cap : Nat) (zs : List Int) (w : World) (h : Given w ao len cap zs) :
    Calls Try.prog 26 #[.slice ao len cap, .int .u32 12] w fun e w' => e = .returned (.bool (mkB zs)) ∧ w = w' := by
  have HC : Hid (∀ i, i < len → ∃ b o, ao = some ⟨b, o, none⟩ ∧ w.cell? ⟨b, o + i, none⟩ = some (.int .u8 (zs.getD i 0))) := fun i hi => h.cell i hi
  have HQ := hid h.leq
  have HB := hid h.byt
  have hl : len ≤ 9223372036854775807 := Nat.le_trans h.cap1 h.cap2
  clear h
  go_enter Try.func26, Try.ntmps26
  go_wp2
  go_loop [8] (fun i => ∃ (k : Nat), k ≤ len ∧ i = .int .i64 (k : Int) ∧ mkB (zs.take k) = false) (fun i => len - (intOf i).toNat)
  case atStart => exact ⟨0, by omega, rfl, rfl⟩
  case round =>
    obtain ⟨k, hk, rfl, hno⟩ := hrel
    have HN := hid hno
    clear hno
    by_cases hlt : k < len
    · have HS : Hid (mkB (zs.take (k + 1)) = (decide (zs.getD k 0 = 2) || decide (zs.getD k 0 = 3))) := by unfold Hid; rw [mk_snoc zs k (by rw [HQ.out]; exact hlt), HN.out, Bool.false_or]
      have hb8 : B8 (zs.getD k 0) := byt_getD HB.out k
      have HA := hid (and12 hb8)
      obtain ⟨b, o, rfl, hc⟩ := HC.out k hlt
      generalize zs.getD k 0 = c at *
      have h0 : 0 ≤ c := hb8.1
      have h1 : c < 256 := hb8.2
      cases ht : (decide (c = 2) || decide (c = 3))
      · have hv : bits .and .u32 (12 / 2 ^ min c.toNat 32) 1 = 0 := by rw [HA.out, if_neg (by simpa using ht)]
        have HT := hid (HS.out.trans ht)
        clear HS HA ht hb8
        go_wp2
        go_round
        case rel => exact ⟨k + 1, by omega, by go_num, HT.out⟩
        case measure => simp [intOf]; omega
      · have hv : bits .and .u32 (12 / 2 ^ min c.toNat 32) 1 = 1 := by rw [HA.out, if_pos (by simpa using ht)]
        have HT := hid (mk_more (HS.out.trans ht))
        clear HS HA ht hb8
        go_wp2
        go_ret
        exact ⟨ret_bool HT.out.symm, rfl⟩
    · have HT : Hid (mkB zs = false) := by unfold Hid; rw [← take_done (zs := zs) (k := k) (by rw [HQ.out]; omega)]; exact HN.out
      go_wp2
      go_ret
      exact ⟨ret_bool HT.out.symm, rfl⟩
end Go.Proofs.Ythchgjndaeefmaa
