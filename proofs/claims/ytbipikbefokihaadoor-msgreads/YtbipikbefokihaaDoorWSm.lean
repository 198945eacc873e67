/- The small functions: the sum of bytes, whether bytes or a text have a mark or a separator, whether a frame is good. -/
import Derived.Test.YtbipikbefokihaaDoorUn
import Derived.BigQuiet
import Derived.Deep.QuietTactic
namespace Go.Proofs.YtbipikbefokihaaDoor
open Go.ChangeShapes Go.WideShapes Go.ChangeAt Go.RowKit

theorem and12n : ∀ c, c < 256 → bits .and .u32 (12 / 2 ^ min c 32) 1 = if c = 2 ∨ c = 3 then 1 else 0 := by decide +kernel
theorem and28n : ∀ c, c < 256 → bits .and .u32 (268435456 / 2 ^ min c 32) 1 = if c = 28 then 1 else 0 := by decide +kernel
theorem and12 {c : Int} (h : B8 c) : bits .and .u32 (12 / 2 ^ min c.toNat 32) 1 = if c = 2 ∨ c = 3 then 1 else 0 := by
  obtain ⟨n, rfl, hn⟩ := b8_nat h
  rw [Int.toNat_natCast, and12n n hn]
  by_cases e : n = 2 ∨ n = 3
  · rw [if_pos e, if_pos (by omega)]
  · rw [if_neg e, if_neg (by omega)]
theorem and28 {c : Int} (h : B8 c) : bits .and .u32 (268435456 / 2 ^ min c.toNat 32) 1 = if c = 28 then 1 else 0 := by
  obtain ⟨n, rfl, hn⟩ := b8_nat h
  rw [Int.toNat_natCast, and28n n hn]
  by_cases e : n = 28
  · rw [if_pos e, if_pos (by omega)]
  · rw [if_neg e, if_neg (by omega)]
theorem mk_snoc (zs : List Int) (k : Nat) (h : k < zs.length) : mkB (zs.take (k + 1)) = (mkB (zs.take k) || (decide (zs.getD k 0 = 2) || decide (zs.getD k 0 = 3))) := by
  rw [take_snocI zs k h, mkB, List.any_append]; simp [mkB]
theorem mk_more {zs : List Int} {k : Nat} (h : mkB (zs.take k) = true) : mkB zs = true := by
  rw [← List.take_append_drop k zs, mkB, List.any_append, ← mkB, h]; rfl
theorem sp_snoc (zs : List Int) (k : Nat) (h : k < zs.length) : spB (zs.take (k + 1)) = (spB (zs.take k) || decide (zs.getD k 0 = 28)) := by
  rw [take_snocI zs k h, spB, List.any_append]; simp [spB]
theorem sp_more {zs : List Int} {k : Nat} (h : spB (zs.take k) = true) : spB zs = true := by
  rw [← List.take_append_drop k zs, spB, List.any_append, ← spB, h]; rfl
theorem take_done {zs : List Int} {k : Nat} (h : zs.length ≤ k) : zs.take k = zs := List.take_of_length_le h
theorem pan_getD (s : ByteArray) (k : Nat) (h : k < s.size) : (panL s).getD k 0 = (s[k].toNat : Int) := by
  have : k < s.data.toList.length := by simpa using h
  simp [panL, h]; rfl
set_option maxHeartbeats 1000000 in
theorem seps21 (s : ByteArray) (w : World) (hl : s.size ≤ 9223372036854775807) :
    Calls Tryd.prog 39 #[.string s, .int .u32 268435456] w fun e w' => e = .returned (.bool (spB (panL s))) ∧ w = w' := by
  obtain ⟨zs, hzs⟩ : ∃ zs, panL s = zs := ⟨_, rfl⟩
  obtain ⟨len, hlen⟩ : ∃ n, s.size = n := ⟨_, rfl⟩
  have HQ : Hid (zs.length = len) := by unfold Hid; rw [← hzs, panL_len, hlen]
  have HB : Hid (Byt zs) := by unfold Hid; rw [← hzs]; exact panL_byt s
  have HC : Hid (∀ k (h : k < s.size), (s[k].toNat : Int) = zs.getD k 0) := fun k hk => by rw [← hzs, pan_getD s k hk]
  rw [hzs]
  clear hzs
  subst hlen
  go_enter Tryd.func39, Tryd.ntmps39
  go_wp2
  go_loop [8] (fun i => ∃ (k : Nat), k ≤ s.size ∧ i = .int .i64 (k : Int) ∧ spB (zs.take k) = false) (fun i => s.size - (intOf i).toNat)
  case atStart => exact ⟨0, by omega, rfl, rfl⟩
  case round =>
    obtain ⟨k, hk, rfl, hno⟩ := hrel
    have HN := hid hno
    clear hno
    by_cases hlt : k < s.size
    · have HS : Hid (spB (zs.take (k + 1)) = (decide (zs.getD k 0 = 28))) := by unfold Hid; rw [sp_snoc zs k (by rw [HQ.out]; exact hlt), HN.out, Bool.false_or]
      have hb8 : B8 (zs.getD k 0) := byt_getD HB.out k
      have HA := hid (and28 hb8)
      have hc := HC.out k (by assumption)
      generalize zs.getD k 0 = c at *
      have h0 : 0 ≤ c := hb8.1
      have h1 : c < 256 := hb8.2
      cases ht : (decide (c = 28))
      · have hv : bits .and .u32 (268435456 / 2 ^ min c.toNat 32) 1 = 0 := by rw [HA.out, if_neg (by simpa using ht)]
        have HT := hid (HS.out.trans ht)
        clear HS HA ht hb8
        go_wp2
        go_round
        case rel => exact ⟨k + 1, by omega, by go_num, HT.out⟩
        case measure => simp [intOf]; omega
      · have hv : bits .and .u32 (268435456 / 2 ^ min c.toNat 32) 1 = 1 := by rw [HA.out, if_pos (by simpa using ht)]
        have HT := hid (sp_more (HS.out.trans ht))
        clear HS HA ht hb8
        go_wp2
        go_ret
        exact ⟨ret_bool HT.out.symm, rfl⟩
    · have HT : Hid (spB zs = false) := by unfold Hid; rw [← take_done (zs := zs) (k := k) (by rw [HQ.out]; omega)]; exact HN.out
      go_wp2
      go_ret
      exact ⟨ret_bool HT.out.symm, rfl⟩
end Go.Proofs.YtbipikbefokihaaDoor
