/- A text of digits. -/
import Derived.Test.YtmojndacjngjpaaFace
namespace Go.Proofs.Ytmojndacjngjpaa
open Go.ChangeShapes Go.WideShapes Go.ChangeAt Go.RowKit

set_option maxHeartbeats 1000000 in
theorem dec32 (v : Int) (w : World) (h0 : 0 ≤ v) (h1 : v < 10) :
    Calls Try.prog 32 #[.int .i64 v] w fun e w' => ∃ t, e = .returned (.string t) ∧ t.size = 1 ∧ digB t.data.toList = true ∧ w = w' := by
  have h : v = 0 ∨ v = 1 ∨ v = 2 ∨ v = 3 ∨ v = 4 ∨ v = 5 ∨ v = 6 ∨ v = 7 ∨ v = 8 ∨ v = 9 := by omega
  clear h0 h1
  rcases h with rfl | rfl | rfl | rfl | rfl | rfl | rfl | rfl | rfl | rfl <;> (
    go_enter Try.func32, Try.ntmps32
    go_wp2
    go_ret
    exact ⟨_, rfl, by decide, by decide, rfl⟩)
theorem size_app (a b : ByteArray) : (a ++ b).size = a.size + b.size := by simp
theorem dig_app (a b : ByteArray) (ha : digB a.data.toList = true) (hb : digB b.data.toList = true) : digB (a ++ b).data.toList = true := by
  simp [digB] at *
  exact ⟨ha, hb⟩
set_option maxHeartbeats 1000000 in
theorem digits18 (x : Int) (k : Nat) (w : World) (h0 : 0 ≤ x) (h1 : x < 18446744073709551616) (hk : k ≤ 100) :
    Calls Try.prog 18 #[.int .u64 x, .int .i64 (k : Int)] w fun e w' => ∃ t, e = .returned (.string t) ∧ t.size = k ∧ digB t.data.toList = true ∧ w = w' := by
  go_enter Try.func18, Try.ntmps18
  go_wp2
  go_loopw [0, 5, 6] (fun n s i wr => ∃ (m : Nat) (y : Int) (t : ByteArray), m ≤ k ∧ i = .int .i64 (m : Int) ∧ n = .int .u64 y ∧ 0 ≤ y ∧ y < 18446744073709551616 ∧ s = .string t ∧ t.size = m ∧ digB t.data.toList = true ∧ w = wr) (fun _ _ i _ => k - (intOf i).toNat)
  case atStart => exact ⟨0, x, ⟨#[]⟩, by omega, rfl, rfl, h0, h1, rfl, rfl, by decide, rfl⟩
  case round =>
    obtain ⟨m, y, t, hm, rfl, rfl, y0, y1, rfl, ht, hd, rfl⟩ := hrel
    have HT := hid ht
    have HD := hid hd
    clear ht hd
    by_cases hlt : m < k
    · obtain ⟨z, hz, z0, z1⟩ : ∃ z, y % 10 = z ∧ 0 ≤ z ∧ z < 10 := ⟨_, rfl, by omega, by omega⟩
      obtain ⟨q, hq, q0, q1⟩ : ∃ q, y / 7 = q ∧ 0 ≤ q ∧ q < 18446744073709551616 := ⟨_, rfl, by omega, by omega⟩
      have hz' : y.tmod 10 = z := by rw [Int.tmod_eq_emod_of_nonneg y0, hz]
      have hq' : y.tdiv 7 = q := by rw [Int.tdiv_eq_ediv_of_nonneg y0, hq]
      have hw1 : IntKind.u64.wrap q = q := by rw [IntKind.wrap_u64]; omega
      have j2 : (m : Int) < (k : Int) := by omega
      go_wp2_with (go_at_call 32; refine (dec32 z _ z0 z1).mono ?_; rintro e w2 ⟨t2, rfl, s2, d2, rfl⟩; have hsz : ¬ 9223372036854775807 < t.size + t2.size := (by have := HT.out; omega); have S2 := hid s2; have D2 := hid d2; clear s2 d2)
      go_roundw
      case rel => exact ⟨m + 1, q, t ++ t2, by omega, by go_num, rfl, q0, q1, rfl, by rw [size_app, HT.out, S2.out], dig_app _ _ HD.out D2.out, by trivial⟩
      case measure => simp [intOf]; omega
    · have em : m = k := by omega
      subst em
      go_wp2
      go_ret
      exact ⟨t, rfl, HT.out, HD.out, rfl⟩
end Go.Proofs.Ytmojndacjngjpaa
