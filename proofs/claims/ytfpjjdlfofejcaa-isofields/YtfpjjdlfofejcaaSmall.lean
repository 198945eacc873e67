/- The small functions: a digit's worth and sign, how many bytes, whether all are digits, texts of digits. -/
import Derived.Test.YtfpjjdlfofejcaaBase
namespace Go.Proofs.Ytfpjjdlfofejcaa
open Go.ChangeShapes Go.WideShapes Go.ChangeAt Go.RowKit

theorem value_yes (c : Int) (w : World) (h0 : 48 ≤ c) (h1 : c ≤ 57) :
    Calls Try.prog 51 #[.int .u8 c] w fun e w' => e = .returned (.tuple #[.int .u8 (c - 48), .bool true]) ∧ w = w' := by
  have hw : IntKind.u8.wrap (c - 48) = c - 48 := by rw [IntKind.wrap_u8]; omega
  go_enter Try.func51, Try.ntmps51
  go_wp2
  go_ret2
  exact ⟨rfl, rfl⟩
theorem value_no (c : Int) (w : World) (h : c < 48 ∨ 57 < c) :
    Calls Try.prog 51 #[.int .u8 c] w fun e w' => e = .returned (.tuple #[.int .u8 0, .bool false]) ∧ w = w' := by
  by_cases h1 : c < 48
  · go_enter Try.func51, Try.ntmps51
    go_wp2
    go_ret2
    exact ⟨rfl, rfl⟩
  · have h2 : 57 < c := by omega
    go_enter Try.func51, Try.ntmps51
    go_wp2
    go_ret2
    exact ⟨rfl, rfl⟩
theorem sign_any (v : Int) (w : World) (h0 : 0 ≤ v) (h1 : v < 10) :
    Calls Try.prog 49 #[.int .u8 v] w fun e w' => e = .returned (.int .u8 (48 + v)) ∧ w = w' := by
  have hw : IntKind.u8.wrap (48 + v) = 48 + v := by rw [IntKind.wrap_u8]; omega
  go_enter Try.func49, Try.ntmps49
  go_wp2
  go_ret
  exact ⟨rfl, rfl⟩
theorem bytesOf_any (d : Nat) (w : World) (hd : d ≤ 9223372036854775807) :
    Calls Try.prog 50 #[.int .i64 (d : Int)] w fun e w' => e = .returned (.int .i64 (((d + 1) / 2 : Nat) : Int)) ∧ w = w' := by
  obtain ⟨q, hq⟩ : ∃ q : Nat, d / 2 = q := ⟨_, rfl⟩
  obtain ⟨r, hr⟩ : ∃ r : Nat, d % 2 = r := ⟨_, rfl⟩
  have e1 : ((d + 1) / 2 : Nat) = q + r := by omega
  have e2 : (d : Int).tdiv 2 = (q : Int) := by rw [Int.tdiv_eq_ediv_of_nonneg (by omega)]; omega
  have e3 : (d : Int).tmod 2 = (r : Int) := by rw [Int.tmod_eq_emod_of_nonneg (by omega)]; omega
  have e4 : wrap64 ((q : Int) + (r : Int)) = (q : Int) + (r : Int) := by have := IntKind.wrap_i64 ((q : Int) + r); unfold wrap64; omega
  have e5 : wrap64 (q : Int) = (q : Int) := by have := IntKind.wrap_i64 (q : Int); unfold wrap64; omega
  rw [e1]
  clear e1 hq hr
  go_enter Try.func50, Try.ntmps50
  go_wp2
  go_ret
  exact ⟨ret_int (by simpa using e4), rfl⟩
end Go.Proofs.Ytfpjjdlfofejcaa
