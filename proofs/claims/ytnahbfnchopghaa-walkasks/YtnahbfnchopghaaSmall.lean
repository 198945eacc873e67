/- The small functions: a digit's worth and sign, how many bytes, whether all are digits, texts of digits. -/
import Derived.Test.YtnahbfnchopghaaBase
namespace Go.Proofs.Ytnahbfnchopghaa
open Go.ChangeShapes Go.WideShapes Go.ChangeAt Go.RowKit

theorem value_yes (c : Int) (w : World) (h0 : 48 ≤ c) (h1 : c ≤ 57) :
    Calls Try.prog 34 #[.int .u8 c] w fun e w' => e = .returned (.tuple #[.int .u8 (c - 48), .bool true]) ∧ w = w' := by
  have hw : IntKind.u8.wrap (c - 48) = c - 48 := by rw [IntKind.wrap_u8]; omega
  go_enter Try.func34, Try.ntmps34
  go_wp2
  go_ret2
  exact ⟨rfl, rfl⟩
theorem value_no (c : Int) (w : World) (h : c < 48 ∨ 57 < c) :
    Calls Try.prog 34 #[.int .u8 c] w fun e w' => e = .returned (.tuple #[.int .u8 0, .bool false]) ∧ w = w' := by
  by_cases h1 : c < 48
  · go_enter Try.func34, Try.ntmps34
    go_wp2
    go_ret2
    exact ⟨rfl, rfl⟩
  · have h2 : 57 < c := by omega
    go_enter Try.func34, Try.ntmps34
    go_wp2
    go_ret2
    exact ⟨rfl, rfl⟩
set_option maxHeartbeats 400000 in
theorem dig_any (s : ByteArray) (w : World) (hs : s.size ≤ 9223372036854775807) :
    Calls Try.prog 25 #[.string s] w fun e w' => e = .returned (.bool (digB s.data.toList)) ∧ w = w' := by
  go_enter Try.func25, Try.ntmps25
  go_wp2
  go_loop [3] (fun i => ∃ k : Nat, k ≤ s.size ∧ i = .int .i64 (k : Int) ∧ digB (s.data.toList.take k) = true) (fun i => s.size - (intOf i).toNat)
  case atStart => exact ⟨0, by omega, rfl, rfl⟩
  case round =>
    obtain ⟨k, hk, rfl, hd⟩ := hrel
    have HD := hid hd
    clear hd
    by_cases hlt : k < s.size
    · have HN : Hid (digB (s.data.toList.take (k + 1)) = decide (48 ≤ (s[k].toNat : Int) ∧ (s[k].toNat : Int) ≤ 57)) := by
        unfold Hid; rw [take_snocU s k hlt, dig_snoc, HD.out, Bool.true_and]
      by_cases h1 : (s[k].toNat : Int) < 48
      · have HF := hid (dig_more (k := k + 1) (HN.out.trans (by simp; omega)))
        clear HN HD
        go_wp2
        go_ret
        exact ⟨ret_bool HF.out.symm, rfl⟩
      · by_cases h2 : 57 < (s[k].toNat : Int)
        · have HF := hid (dig_more (k := k + 1) (HN.out.trans (by simp; omega)))
          clear HN HD
          go_wp2
          go_ret
          exact ⟨ret_bool HF.out.symm, rfl⟩
        · have HT : Hid (digB (s.data.toList.take (k + 1)) = true) := HN.out.trans (decide_eq_true ⟨by omega, by omega⟩)
          clear HN HD
          go_wp2
          go_round
          case rel => exact ⟨k + 1, by omega, by go_num, HT.out⟩
          case measure => simp [intOf]; omega
    · have HT := hid (dig_all HD.out (by omega))
      go_wp2
      go_ret
      exact ⟨ret_bool HT.out.symm, rfl⟩

end Go.Proofs.Ytnahbfnchopghaa
