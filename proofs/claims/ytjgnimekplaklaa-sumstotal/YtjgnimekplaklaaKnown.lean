/- The chapter's example; numbers near an edge. -/
import Derived.Test.YtjgnimekplaklaaPlus
namespace Go.Proofs.Ytjgnimekplaklaa
open Go.ChangeShapes Go.WideShapes Go.ChangeAt Go.RowKit

theorem four_i64 {a b c d : Int} (ha : I64 a) (hb : I64 b) (hc : I64 c) (hd : I64 d) : ∀ j, j < 4 → I64 (four a b c d j) := by
  intro j hj
  match j, hj with
  | 0, _ => exact ha
  | 1, _ => exact hb
  | 2, _ => exact hc
  | 3, _ => exact hd

theorem k_worth (w : World) : Calls Try.prog 11 #[.agg #[.int .i64 1, .int .i64 2, .int .i64 0, .int .i64 0], .agg #[.int .i64 10, .int .i64 20, .int .i64 0, .int .i64 0]] w fun e w' => e = .returned (.tuple #[.int .i64 50, .bool true]) ∧ Below w.heap.size w w' :=
  (worth_any _ _ _ _ _ _ _ _ (four_i64 (by unfold I64; omega) (by unfold I64; omega) (by unfold I64; omega) (by unfold I64; omega)) (four_i64 (by unfold I64; omega) (by unfold I64; omega) (by unfold I64; omega) (by unfold I64; omega)) w).mono fun _ _ h => ⟨h.1.trans (by kernel_rfl), h.2⟩
theorem k_plus (w : World) : Calls Try.prog 13 #[.agg #[.int .i64 1, .int .i64 0, .int .i64 0, .int .i64 0], .agg #[.int .i64 2, .int .i64 0, .int .i64 0, .int .i64 0]] w fun e w' => e = .returned (.tuple #[.agg #[.int .i64 3, .int .i64 0, .int .i64 0, .int .i64 0], .bool true]) ∧ Below w.heap.size w w' :=
  (plusN_any _ _ _ _ _ _ _ _ (four_i64 (by unfold I64; omega) (by unfold I64; omega) (by unfold I64; omega) (by unfold I64; omega)) (four_i64 (by unfold I64; omega) (by unfold I64; omega) (by unfold I64; omega) (by unfold I64; omega)) w).mono fun _ _ h => ⟨h.1.trans (by kernel_rfl), h.2⟩
theorem k_count (w : World) : Calls Try.prog 15 #[.agg #[.int .i64 1, .int .i64 2, .int .i64 3, .int .i64 4]] w fun e w' => e = .returned (.tuple #[.int .i64 10, .bool true]) ∧ Below w.heap.size w w' :=
  (count_any _ _ _ _ (four_i64 (by unfold I64; omega) (by unfold I64; omega) (by unfold I64; omega) (by unfold I64; omega)) w).mono fun _ _ h => ⟨h.1.trans (by kernel_rfl), h.2⟩

theorem eq30 (a b c d : Int) (w : World) : (Op.equalIn 10000 30 (.agg #[.int .i64 a, .int .i64 b, .int .i64 c, .int .i64 d]) (.agg #[.int .i64 a, .int .i64 b, .int .i64 c, .int .i64 d])).run Try.prog w = .ok true w := by
  have u3 := Try.underlying3
  have a3 := Try.isAgg3
  have z3 := Try.sizeOf3
  rw [show (10000 : Nat) = 9999 + 1 from rfl, Op.equalIn]
  simp only [Sem.run_bind, run_underlying Try.underlying30, Result.andThen_ok]
  simp only [Std.Legacy.Range.forIn_eq_forIn_range', Std.Legacy.Range.size, Nat.sub_zero, Nat.add_sub_cancel, Nat.div_one, List.range'_succ, List.range'_zero, List.forIn_cons, List.forIn_nil]
  go_simp

theorem cells4 {w w' : World} {u0 u1 u2 u3 : Value} {t : TypeId} (h : Below (w.alloc (.cells #[u0, u1, u2, u3] t)).heap.size (w.alloc (.cells #[u0, u1, u2, u3] t)) w') :
    w'.cell? ⟨w.heap.size, 0, none⟩ = some u0 ∧ w'.cell? ⟨w.heap.size, 1, none⟩ = some u1 ∧ w'.cell? ⟨w.heap.size, 2, none⟩ = some u2 ∧ w'.cell? ⟨w.heap.size, 3, none⟩ = some u3 :=
  ⟨cellK h (by simp [go_sem]), cellK h (by simp [go_sem]), cellK h (by simp [go_sem]), cellK h (by simp [go_sem])⟩

set_option maxHeartbeats 1000000 in
theorem known_any (w : World) : Calls Try.prog 7 #[] w fun e w' => e = .returned (.bool true) ∧ Below w.heap.size w w' := by
  have q5 := eq30 3 0 0 0
  have q1 : fitZ 9223372036854775808 = 0 := by kernel_rfl
  have q2 : fitB 9223372036854775808 = false := by kernel_rfl
  have q3 : fitZ 5 = 5 := by kernel_rfl
  have q4 : fitB 5 = true := by kernel_rfl
  go_enter Try.func7, Try.ntmps7
  go_wp2_with (first
    | (go_at_call 17; refine (add_any _ _ (by unfold I64; omega) (by unfold I64; omega) _).mono ?_; rintro e w1 ⟨rfl, b1⟩)
    | (go_at_call 11; refine (k_worth _).mono ?_; rintro e w3 ⟨rfl, b3⟩)
    | (go_at_call 13; refine (k_plus _).mono ?_; rintro e w4 ⟨rfl, b4⟩)
    | (go_at_call 15; refine (k_count _).mono ?_; rintro e w5 ⟨rfl, b5⟩; obtain ⟨c0, c1, c2, c3⟩ := cells4 b5))
  go_ret
  rename_i b1'
  exact ⟨rfl, (sq ((sq ((sq ((sq ((sq b1' b1)) b3)) b4)) (bel1 _ _))) b5)⟩

theorem and7 (n : Int) : bits .and .i64 n 7 = n % 8 := by
  have h : (BitVec.ofInt 64 7).toNat = 2 ^ 3 - 1 := by decide
  have key : (BitVec.ofInt 64 n &&& BitVec.ofInt 64 7).toNat = (n % ((2 ^ 64 : Nat) : Int)).toNat % 2 ^ 3 := by
    rw [BitVec.toNat_and, BitVec.toNat_ofInt, h, Nat.and_two_pow_sub_one_eq_mod]
  show IntKind.i64.wrap ((BitVec.ofInt 64 n &&& BitVec.ofInt 64 7).toNat : Nat) = n % 8
  rw [key, IntKind.wrap_i64]
  omega
theorem and15 (n : Int) : bits .and .i64 n 15 = n % 16 := by
  have h : (BitVec.ofInt 64 15).toNat = 2 ^ 4 - 1 := by decide
  have key : (BitVec.ofInt 64 n &&& BitVec.ofInt 64 15).toNat = (n % ((2 ^ 64 : Nat) : Int)).toNat % 2 ^ 4 := by
    rw [BitVec.toNat_and, BitVec.toNat_ofInt, h, Nat.and_two_pow_sub_one_eq_mod]
  show IntKind.i64.wrap ((BitVec.ofInt 64 n &&& BitVec.ofInt 64 15).toNat : Nat) = n % 16
  rw [key, IntKind.wrap_i64]
  omega

/-- A number near an edge, or any other one. -/
def nearZ (v k : Int) : Int :=
  if k % 6 = 0 then v else if k % 6 = 1 then 9223372036854775807 - v % 8 else if k % 6 = 2 then -9223372036854775808 + v % 8 else if k % 6 = 3 then v / 4294967296 else if k % 6 = 4 then v % 16 else -(v % 16)
theorem nearZ_i64 {v : Int} (k : Int) (hv : I64 v) : I64 (nearZ v k) := by
  unfold I64 at *; unfold nearZ
  repeat' split
  all_goals omega

theorem near_any (v k : Int) (hk : 0 ≤ k) (w : World) :
    Calls Try.prog 8 #[.int .i64 v, .int .u8 k] w fun e w' => e = .returned (.int .i64 (nearZ v k)) ∧ w' = w := by
  have e7 := and7 v
  have e15 := and15 v
  have h6 : k % 6 = 0 ∨ k % 6 = 1 ∨ k % 6 = 2 ∨ k % 6 = 3 ∨ k % 6 = 4 ∨ k % 6 = 5 := by omega
  rcases h6 with h | h | h | h | h | h
  all_goals (
    go_enter Try.func8, Try.ntmps8
    go_wp2
    go_ret
    exact ⟨ret_int (by unfold nearZ; simp [h]), rfl⟩)
end Go.Proofs.Ytjgnimekplaklaa
