/- The small functions: texts of digits; which type answers which, which types there are. -/
import Derived.Test.YtfpjjdlfofejcaaBase
namespace Go.Proofs.Ytfpjjdlfofejcaa
open Go.ChangeShapes Go.WideShapes Go.ChangeAt Go.RowKit

set_option maxHeartbeats 400000 in
theorem dig37 (s : ByteArray) (w : World) (hs : s.size ≤ 9223372036854775807) :
    Calls Try.prog 37 #[.string s] w fun e w' => e = .returned (.bool (digB s.data.toList)) ∧ w = w' := by
  go_enter Try.func37, Try.ntmps37
  go_wp2
  go_loop [3] (fun i => ∃ k : Nat, k ≤ s.size ∧ i = .int .i64 (k : Int) ∧ digB (s.data.toList.take k) = true) (fun i => s.size - (intOf i).toNat)
  case atStart => exact ⟨0, by omega, rfl, rfl⟩
  case round =>
    obtain ⟨k, hk, rfl, hd⟩ := hrel
    have HD := hid hd
    clear hd
    by_cases hlt : k < s.size
    · have HN : Hid (digB (s.data.toList.take (k + 1)) = decide (48 ≤ (s[k].toNat : Int) ∧ (s[k].toNat : Int) ≤ 57)) := by
        unfold Hid; rw [take_snocU s k hlt, dig_snoc, HD.out, Bool.true_and]
      by_cases h1 : (s[k].toNat : Int) < 48
      · have HF := hid (dig_more (k := k + 1) (HN.out.trans (by simp; omega)))
        clear HN HD
        go_wp2
        go_ret
        exact ⟨ret_bool HF.out.symm, rfl⟩
      · by_cases h2 : 57 < (s[k].toNat : Int)
        · have HF := hid (dig_more (k := k + 1) (HN.out.trans (by simp; omega)))
          clear HN HD
          go_wp2
          go_ret
          exact ⟨ret_bool HF.out.symm, rfl⟩
        · have HT : Hid (digB (s.data.toList.take (k + 1)) = true) := HN.out.trans (decide_eq_true ⟨by omega, by omega⟩)
          clear HN HD
          go_wp2
          go_round
          case rel => exact ⟨k + 1, by omega, by go_num, HT.out⟩
          case measure => simp [intOf]; omega
    · have HT := hid (dig_all HD.out (by omega))
      go_wp2
      go_ret
      exact ⟨ret_bool HT.out.symm, rfl⟩

set_option maxHeartbeats 1000000 in
theorem dec21 (v : Int) (w : World) (h0 : 0 ≤ v) (h1 : v < 10) :
    Calls Try.prog 21 #[.int .i64 v] w fun e w' => ∃ t, e = .returned (.string t) ∧ t.size = 1 ∧ digB t.data.toList = true ∧ w = w' := by
  have h : v = 0 ∨ v = 1 ∨ v = 2 ∨ v = 3 ∨ v = 4 ∨ v = 5 ∨ v = 6 ∨ v = 7 ∨ v = 8 ∨ v = 9 := by omega
  clear h0 h1
  rcases h with rfl | rfl | rfl | rfl | rfl | rfl | rfl | rfl | rfl | rfl <;> (
    go_enter Try.func21, Try.ntmps21
    go_wp2
    go_ret
    exact ⟨_, rfl, by decide, by decide, rfl⟩)
set_option maxHeartbeats 1000000 in
theorem digits11 (x : Int) (k : Nat) (w : World) (h0 : 0 ≤ x) (h1 : x < 18446744073709551616) (hk : k ≤ 100) :
    Calls Try.prog 11 #[.int .u64 x, .int .i64 (k : Int)] w fun e w' => ∃ t, e = .returned (.string t) ∧ t.size = k ∧ digB t.data.toList = true ∧ w = w' := by
  go_enter Try.func11, Try.ntmps11
  go_wp2
  go_loopw [0, 5, 6] (fun n s i wr => ∃ (m : Nat) (y : Int) (t : ByteArray), m ≤ k ∧ i = .int .i64 (m : Int) ∧ n = .int .u64 y ∧ 0 ≤ y ∧ y < 18446744073709551616 ∧ s = .string t ∧ t.size = m ∧ digB t.data.toList = true ∧ w = wr) (fun _ _ i _ => k - (intOf i).toNat)
  case atStart => exact ⟨0, x, ⟨#[]⟩, by omega, rfl, rfl, h0, h1, rfl, rfl, by decide, rfl⟩
  case round =>
    obtain ⟨m, y, t, hm, rfl, rfl, y0, y1, rfl, ht, hd, rfl⟩ := hrel
    have HT := hid ht
    have HD := hid hd
    clear ht hd
    by_cases hlt : m < k
    · obtain ⟨z, hz, z0, z1⟩ : ∃ z, y % 10 = z ∧ 0 ≤ z ∧ z < 10 := ⟨_, rfl, by omega, by omega⟩
      obtain ⟨q, hq, q0, q1⟩ : ∃ q, y / 7 = q ∧ 0 ≤ q ∧ q < 18446744073709551616 := ⟨_, rfl, by omega, by omega⟩
      have hz' : y.tmod 10 = z := by rw [Int.tmod_eq_emod_of_nonneg y0, hz]
      have hq' : y.tdiv 7 = q := by rw [Int.tdiv_eq_ediv_of_nonneg y0, hq]
      have hw1 : IntKind.u64.wrap q = q := by rw [IntKind.wrap_u64]; omega
      have j2 : (m : Int) < (k : Int) := by omega
      go_wp2_with (go_at_call 21; refine (dec21 z _ z0 z1).mono ?_; rintro e w2 ⟨t2, rfl, s2, d2, rfl⟩; have hsz : ¬ 9223372036854775807 < t.size + t2.size := (by have := HT.out; omega); have S2 := hid s2; have D2 := hid d2; clear s2 d2)
      go_roundw
      case rel => exact ⟨m + 1, q, t ++ t2, by omega, by go_num, rfl, q0, q1, rfl, by rw [size_app, HT.out, S2.out], dig_app _ _ HD.out D2.out, by trivial⟩
      case measure => simp [intOf]; omega
    · have em : m = k := by omega
      subst em
      go_wp2
      go_ret
      exact ⟨t, rfl, HT.out, HD.out, rfl⟩
/-- Is a message of this type answered? -/
def repB (m : Int) : Bool := decide (m = 100 ∨ m = 200 ∨ m = 420 ∨ m = 800)
def repV (m : Int) : Int := if repB m = true then m + 10 else 0
/-- Is there such a type? -/
def typB (m : Int) : Bool := decide (m = 100 ∨ m = 110 ∨ m = 200 ∨ m = 210 ∨ m = 420 ∨ m = 430 ∨ m = 800 ∨ m = 810)
theorem rep_no {m : Int} (h1 : ¬ m = 100) (h2 : ¬ m = 200) (h3 : ¬ m = 420) (h4 : ¬ m = 800) : repB m = false ∧ repV m = 0 := by
  have h : repB m = false := decide_eq_false (by omega)
  exact ⟨h, by simp [repV, h]⟩
theorem typ_rep (m : Int) (h0 : -9223372036854775808 ≤ m) (h1 : m ≤ 9223372036854775807) : typB m = (repB m || repB (wrap64 (m - 10))) := by
  have hw : m < -9223372036854775798 ∨ wrap64 (m - 10) = m - 10 := by have := IntKind.wrap_i64 (m - 10); unfold wrap64; omega
  rcases hw with hw | hw
  · have h2 : 9223372036854775000 ≤ wrap64 (m - 10) := by have := IntKind.wrap_i64 (m - 10); unfold wrap64; omega
    generalize wrap64 (m - 10) = z at *
    have a : typB m = false := decide_eq_false (by omega)
    have b : repB m = false := decide_eq_false (by omega)
    have c : repB z = false := decide_eq_false (by omega)
    rw [a, b, c]; rfl
  · rw [hw]
    unfold typB repB
    rw [← Bool.decide_or]
    exact decide_eq_decide.2 (by omega)
set_option maxHeartbeats 1000000 in
theorem reply15 (m : Int) (w : World) : Calls Try.prog 15 #[.int .i64 m] w fun e w' => e = .returned (.tuple #[.int .i64 (repV m), .bool (repB m)]) ∧ w = w' := by
  by_cases h0 : m = 100
  · subst h0
    go_enter Try.func15, Try.ntmps15
    go_wp2
    go_ret2
    exact ⟨rfl, rfl⟩
  by_cases h1 : m = 200
  · subst h1
    go_enter Try.func15, Try.ntmps15
    go_wp2
    go_ret2
    exact ⟨rfl, rfl⟩
  by_cases h2 : m = 420
  · subst h2
    go_enter Try.func15, Try.ntmps15
    go_wp2
    go_ret2
    exact ⟨rfl, rfl⟩
  by_cases h3 : m = 800
  · subst h3
    go_enter Try.func15, Try.ntmps15
    go_wp2
    go_ret2
    exact ⟨rfl, rfl⟩
  have hr := rep_no h0 h1 h2 h3
  rw [hr.1, hr.2]
  clear hr
  go_enter Try.func15, Try.ntmps15
  go_wp2
  go_ret2
  exact ⟨rfl, rfl⟩
set_option maxHeartbeats 1000000 in
theorem reply16 (m : Int) (w : World) : Calls Try.prog 16 #[.int .i64 m] w fun e w' => e = .returned (.tuple #[.int .i64 (repV m), .bool (repB m)]) ∧ w = w' := by
  by_cases h0 : m = 100
  · subst h0
    go_enter Try.func16, Try.ntmps16
    go_wp2
    go_ret2
    exact ⟨rfl, rfl⟩
  by_cases h1 : m = 200
  · subst h1
    go_enter Try.func16, Try.ntmps16
    go_wp2
    go_ret2
    exact ⟨rfl, rfl⟩
  by_cases h2 : m = 420
  · subst h2
    go_enter Try.func16, Try.ntmps16
    go_wp2
    go_ret2
    exact ⟨rfl, rfl⟩
  by_cases h3 : m = 800
  · subst h3
    go_enter Try.func16, Try.ntmps16
    go_wp2
    go_ret2
    exact ⟨rfl, rfl⟩
  have hr := rep_no h0 h1 h2 h3
  rw [hr.1, hr.2]
  clear hr
  go_enter Try.func16, Try.ntmps16
  go_wp2
  go_ret2
  exact ⟨rfl, rfl⟩
set_option maxHeartbeats 1000000 in
theorem type25 (m : Int) (w : World) : Calls Try.prog 25 #[.int .i64 m] w fun e w' => e = .returned (.bool (typB m)) ∧ w = w' := by
  by_cases h0 : m = 100
  · subst h0
    go_enter Try.func25, Try.ntmps25
    go_wp2
    go_ret
    exact ⟨rfl, rfl⟩
  by_cases h1 : m = 110
  · subst h1
    go_enter Try.func25, Try.ntmps25
    go_wp2
    go_ret
    exact ⟨rfl, rfl⟩
  by_cases h2 : m = 200
  · subst h2
    go_enter Try.func25, Try.ntmps25
    go_wp2
    go_ret
    exact ⟨rfl, rfl⟩
  by_cases h3 : m = 210
  · subst h3
    go_enter Try.func25, Try.ntmps25
    go_wp2
    go_ret
    exact ⟨rfl, rfl⟩
  by_cases h4 : m = 420
  · subst h4
    go_enter Try.func25, Try.ntmps25
    go_wp2
    go_ret
    exact ⟨rfl, rfl⟩
  by_cases h5 : m = 430
  · subst h5
    go_enter Try.func25, Try.ntmps25
    go_wp2
    go_ret
    exact ⟨rfl, rfl⟩
  by_cases h6 : m = 800
  · subst h6
    go_enter Try.func25, Try.ntmps25
    go_wp2
    go_ret
    exact ⟨rfl, rfl⟩
  by_cases h7 : m = 810
  · subst h7
    go_enter Try.func25, Try.ntmps25
    go_wp2
    go_ret
    exact ⟨rfl, rfl⟩
  have hr : typB m = false := decide_eq_false (by omega)
  rw [hr]
  clear hr
  go_enter Try.func25, Try.ntmps25
  go_wp2
  go_ret
  exact ⟨rfl, rfl⟩
end Go.Proofs.Ytfpjjdlfofejcaa
