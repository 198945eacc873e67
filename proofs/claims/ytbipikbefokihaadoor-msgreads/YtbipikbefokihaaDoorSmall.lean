/- The small functions: a digit's worth and sign, how many bytes, whether all are digits, texts of digits. -/
import Derived.Test.YtbipikbefokihaaDoorBase
namespace Go.Proofs.YtbipikbefokihaaDoor
open Go.ChangeShapes Go.WideShapes Go.ChangeAt Go.RowKit

theorem value_yes (c : Int) (w : World) (h0 : 48 ≤ c) (h1 : c ≤ 57) :
    Calls Tryd.prog 59 #[.int .u8 c] w fun e w' => e = .returned (.tuple #[.int .u8 (c - 48), .bool true]) ∧ w = w' := by
  have hw : IntKind.u8.wrap (c - 48) = c - 48 := by rw [IntKind.wrap_u8]; omega
  go_enter Tryd.func59, Tryd.ntmps59
  go_wp2
  go_ret2
  exact ⟨rfl, rfl⟩
theorem value_no (c : Int) (w : World) (h : c < 48 ∨ 57 < c) :
    Calls Tryd.prog 59 #[.int .u8 c] w fun e w' => e = .returned (.tuple #[.int .u8 0, .bool false]) ∧ w = w' := by
  by_cases h1 : c < 48
  · go_enter Tryd.func59, Tryd.ntmps59
    go_wp2
    go_ret2
    exact ⟨rfl, rfl⟩
  · have h2 : 57 < c := by omega
    go_enter Tryd.func59, Tryd.ntmps59
    go_wp2
    go_ret2
    exact ⟨rfl, rfl⟩
theorem bytesOf_any (d : Nat) (w : World) (hd : d ≤ 9223372036854775807) :
    Calls Tryd.prog 58 #[.int .i64 (d : Int)] w fun e w' => e = .returned (.int .i64 (((d + 1) / 2 : Nat) : Int)) ∧ w = w' := by
  obtain ⟨q, hq⟩ : ∃ q : Nat, d / 2 = q := ⟨_, rfl⟩
  obtain ⟨r, hr⟩ : ∃ r : Nat, d % 2 = r := ⟨_, rfl⟩
  have e1 : ((d + 1) / 2 : Nat) = q + r := by omega
  have e2 : (d : Int).tdiv 2 = (q : Int) := by rw [Int.tdiv_eq_ediv_of_nonneg (by omega)]; omega
  have e3 : (d : Int).tmod 2 = (r : Int) := by rw [Int.tmod_eq_emod_of_nonneg (by omega)]; omega
  have e4 : wrap64 ((q : Int) + (r : Int)) = (q : Int) + (r : Int) := by have := IntKind.wrap_i64 ((q : Int) + r); unfold wrap64; omega
  have e5 : wrap64 (q : Int) = (q : Int) := by have := IntKind.wrap_i64 (q : Int); unfold wrap64; omega
  rw [e1]
  clear e1 hq hr
  go_enter Tryd.func58, Tryd.ntmps58
  go_wp2
  go_ret
  exact ⟨ret_int (by simpa using e4), rfl⟩
set_option maxHeartbeats 400000 in
theorem dig_any (s : ByteArray) (w : World) (hs : s.size ≤ 9223372036854775807) :
    Calls Tryd.prog 44 #[.string s] w fun e w' => e = .returned (.bool (digB s.data.toList)) ∧ w = w' := by
  go_enter Tryd.func44, Tryd.ntmps44
  go_wp2
  go_loop [3] (fun i => ∃ k : Nat, k ≤ s.size ∧ i = .int .i64 (k : Int) ∧ digB (s.data.toList.take k) = true) (fun i => s.size - (intOf i).toNat)
  case atStart => exact ⟨0, by omega, rfl, rfl⟩
  case round =>
    obtain ⟨k, hk, rfl, hd⟩ := hrel
    have HD := hid hd
    clear hd
    by_cases hlt : k < s.size
    · have HN : Hid (digB (s.data.toList.take (k + 1)) = decide (48 ≤ (s[k].toNat : Int) ∧ (s[k].toNat : Int) ≤ 57)) := by
        unfold Hid; rw [take_snocU s k hlt, dig_snoc, HD.out, Bool.true_and]
      by_cases h1 : (s[k].toNat : Int) < 48
      · have HF := hid (dig_more (k := k + 1) (HN.out.trans (by simp; omega)))
        clear HN HD
        go_wp2
        go_ret
        exact ⟨ret_bool HF.out.symm, rfl⟩
      · by_cases h2 : 57 < (s[k].toNat : Int)
        · have HF := hid (dig_more (k := k + 1) (HN.out.trans (by simp; omega)))
          clear HN HD
          go_wp2
          go_ret
          exact ⟨ret_bool HF.out.symm, rfl⟩
        · have HT : Hid (digB (s.data.toList.take (k + 1)) = true) := HN.out.trans (decide_eq_true ⟨by omega, by omega⟩)
          clear HN HD
          go_wp2
          go_round
          case rel => exact ⟨k + 1, by omega, by go_num, HT.out⟩
          case measure => simp [intOf]; omega
    · have HT := hid (dig_all HD.out (by omega))
      go_wp2
      go_ret
      exact ⟨ret_bool HT.out.symm, rfl⟩

set_option maxHeartbeats 1000000 in
theorem dec14 (v : Int) (w : World) (h0 : 0 ≤ v) (h1 : v < 10) :
    Calls Tryd.prog 22 #[.int .i64 v] w fun e w' => ∃ t, e = .returned (.string t) ∧ t.size = 1 ∧ digB t.data.toList = true ∧ w = w' := by
  have h : v = 0 ∨ v = 1 ∨ v = 2 ∨ v = 3 ∨ v = 4 ∨ v = 5 ∨ v = 6 ∨ v = 7 ∨ v = 8 ∨ v = 9 := by omega
  clear h0 h1
  rcases h with rfl | rfl | rfl | rfl | rfl | rfl | rfl | rfl | rfl | rfl <;> (
    go_enter Tryd.func22, Tryd.ntmps22
    go_wp2
    go_ret
    exact ⟨_, rfl, by decide, by decide, rfl⟩)
set_option maxHeartbeats 1000000 in
theorem digits7 (x : Int) (k : Nat) (w : World) (h0 : 0 ≤ x) (h1 : x < 18446744073709551616) (hk : k ≤ 100) :
    Calls Tryd.prog 16 #[.int .u64 x, .int .i64 (k : Int)] w fun e w' => ∃ t, e = .returned (.string t) ∧ t.size = k ∧ digB t.data.toList = true ∧ w = w' := by
  go_enter Tryd.func16, Tryd.ntmps16
  go_wp2
  go_loopw [0, 5, 6] (fun n s i wr => ∃ (m : Nat) (y : Int) (t : ByteArray), m ≤ k ∧ i = .int .i64 (m : Int) ∧ n = .int .u64 y ∧ 0 ≤ y ∧ y < 18446744073709551616 ∧ s = .string t ∧ t.size = m ∧ digB t.data.toList = true ∧ w = wr) (fun _ _ i _ => k - (intOf i).toNat)
  case atStart => exact ⟨0, x, ⟨#[]⟩, by omega, rfl, rfl, h0, h1, rfl, rfl, by decide, rfl⟩
  case round =>
    obtain ⟨m, y, t, hm, rfl, rfl, y0, y1, rfl, ht, hd, rfl⟩ := hrel
    have HT := hid ht
    have HD := hid hd
    clear ht hd
    by_cases hlt : m < k
    · obtain ⟨z, hz, z0, z1⟩ : ∃ z, y % 10 = z ∧ 0 ≤ z ∧ z < 10 := ⟨_, rfl, by omega, by omega⟩
      obtain ⟨q, hq, q0, q1⟩ : ∃ q, y / 7 = q ∧ 0 ≤ q ∧ q < 18446744073709551616 := ⟨_, rfl, by omega, by omega⟩
      have hz' : y.tmod 10 = z := by rw [Int.tmod_eq_emod_of_nonneg y0, hz]
      have hq' : y.tdiv 7 = q := by rw [Int.tdiv_eq_ediv_of_nonneg y0, hq]
      have hw1 : IntKind.u64.wrap q = q := by rw [IntKind.wrap_u64]; omega
      have j2 : (m : Int) < (k : Int) := by omega
      go_wp2_with (go_at_call 22; refine (dec14 z _ z0 z1).mono ?_; rintro e w2 ⟨t2, rfl, s2, d2, rfl⟩; have hsz : ¬ 9223372036854775807 < t.size + t2.size := (by have := HT.out; omega); have S2 := hid s2; have D2 := hid d2; clear s2 d2)
      go_roundw
      case rel => exact ⟨m + 1, q, t ++ t2, by omega, by go_num, rfl, q0, q1, rfl, by rw [size_app, HT.out, S2.out], dig_app _ _ HD.out D2.out, by trivial⟩
      case measure => simp [intOf]; omega
    · have em : m = k := by omega
      subst em
      go_wp2
      go_ret
      exact ⟨t, rfl, HT.out, HD.out, rfl⟩
end Go.Proofs.YtbipikbefokihaaDoor
