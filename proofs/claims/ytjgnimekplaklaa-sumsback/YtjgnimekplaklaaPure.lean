/- What the program's sums of two numbers answer: each is what an int64 has, or none. math/bits.Mul64's own text is walked. -/
import Derived.Test.YtjgnimekplaklaaRows
import Derived.Test.YtjgnimekplaklaaMath
import Derived.WalkKit
import Derived.ProofKit
import Derived.OpenShut
import Derived.WalkSpells
import Derived.WalkLawsBesides
import Derived.Below
import Derived.Laws.Externs
import Derived.Deep.RegionHeld3
import Derived.Shelf.Bits.Mul64
namespace Go.Proofs.Ytjgnimekplaklaa
open Go.ChangeShapes Go.WideShapes Go.ChangeAt Go.RowKit

theorem ret_int {k : IntKind} {a b : Int} (h : a = b) : Ending.returned (.int k a) = .returned (.int k b) := by rw [h]
theorem ret_int_bool {k : IntKind} {a b : Int} {c d : Bool} (h : a = b) (g : c = d) : Ending.returned (.tuple #[.int k a, .bool c]) = .returned (.tuple #[.int k b, .bool d]) := by rw [h, g]

theorem add64 (x y c : Int) (hx : 0 ≤ x) (hy : 0 ≤ y) (hc0 : 0 ≤ c) (hc : c ≤ 1) (w : World) : (callFunc 29 #[.int .u64 x, .int .u64 y, .int .u64 c]).run Try.prog w =
    .ok (.value (.tuple #[.int .u64 ((x + y + c) % 18446744073709551616), .int .u64 ((x + y + c) / 18446744073709551616)])) w := by
  rw [run_callFunc_extern Try.func29 (by kernel_rfl) (by kernel_rfl) (by kernel_rfl) (e := add64Entry) (by kernel_rfl), run_add64 x y c hx hy hc0 hc]
  rfl
theorem add64_0 (x y : Int) (hx : 0 ≤ x) (hy : 0 ≤ y) (w : World) : (callFunc 29 #[.int .u64 x, .int .u64 y, .int .u64 0]).run Try.prog w =
    .ok (.value (.tuple #[.int .u64 ((x + y) % 18446744073709551616), .int .u64 ((x + y) / 18446744073709551616)])) w := by
  simpa using add64 x y 0 hx hy (Int.le_refl 0) (by decide) w


def sub64E : Array Value → Sem Value := fun args => do
  let (x, y, b) ← Extern.MathBitsCarry.three "Sub64" args
  pure (Extern.MathBitsCarry.pair ((x + Extern.MathBitsCarry.m64 - y - b) % Extern.MathBitsCarry.m64) (if x < y + b then 1 else 0))
theorem sub64 (x y b : Int) (hx : 0 ≤ x) (hy : 0 ≤ y) (hy' : y < 18446744073709551616) (hb0 : 0 ≤ b) (hb : b ≤ 1) (w : World) : (callFunc 33 #[.int .u64 x, .int .u64 y, .int .u64 b]).run Try.prog w =
    .ok (.value (.tuple #[.int .u64 ((x - y - b) % 18446744073709551616), .int .u64 (bor x (y + b))])) w := by
  obtain ⟨x, rfl⟩ := Int.eq_ofNat_of_zero_le hx
  obtain ⟨y, rfl⟩ := Int.eq_ofNat_of_zero_le hy
  have key : ∀ k : Nat, k ≤ 1 → (sub64E #[.int .u64 x, .int .u64 y, .int .u64 (k : Int)]).run Try.prog w =
      .ok (.tuple #[.int .u64 (((x + 18446744073709551616 - y - k) % 18446744073709551616 : Nat) : Int), .int .u64 ((if x < y + k then 1 else 0 : Nat) : Int)]) w := by
    intro k hk
    have : k = 0 ∨ k = 1 := by omega
    rcases this with rfl | rfl <;> rfl
  obtain ⟨k, rfl⟩ := Int.eq_ofNat_of_zero_le hb0
  have e1 : (((x + 18446744073709551616 - y - k) % 18446744073709551616 : Nat) : Int) = ((x : Int) - y - k) % 18446744073709551616 := by omega
  have e2 : ((if x < y + k then 1 else 0 : Nat) : Int) = bor x (y + k) := by unfold bor; split <;> split <;> omega
  rw [run_callFunc_extern Try.func33 (by kernel_rfl) (by kernel_rfl) (by kernel_rfl) (e := sub64E) (by kernel_rfl), key k (by omega), e1, e2]
  rfl
theorem sub64_0 (x y : Int) (hx : 0 ≤ x) (hy : 0 ≤ y) (hy' : y < 18446744073709551616) (w : World) : (callFunc 33 #[.int .u64 x, .int .u64 y, .int .u64 0]).run Try.prog w =
    .ok (.value (.tuple #[.int .u64 ((x - y) % 18446744073709551616), .int .u64 (bor x y)])) w := by
  simpa using sub64 x y 0 hx hy hy' (Int.le_refl 0) (by decide) w

/-- The world with new blocks: below its size nothing has turned. -/
theorem bel1 (w : World) (o : Obj) : Below w.heap.size w (w.alloc o) := (Below.refl _ _).alloc (Nat.le_refl _) o
theorem bel_more {B : Nat} {w w' : World} (h : Below B w w') (hB : B ≤ w.heap.size) (o : Obj) : Below B w (w'.alloc o) := h.alloc (Nat.le_trans hB h.size) o
theorem sq {w w1 w2 : World} (h : Below w.heap.size w w1) (k : Below w1.heap.size w1 w2) : Below w.heap.size w w2 := h.trans (k.mono h.size)
theorem bel3 (w : World) (o p q : Obj) : Below w.heap.size w (((w.alloc o).alloc p).alloc q) := bel_more (bel_more (bel1 w o) (Nat.le_refl _) p) (Nat.le_refl _) q

theorem signs_any (v : Int) (hv : I64 v) (w : World) :
    Calls Try.prog 30 #[.int .i64 v] w fun e w' => e = .returned (.int .u64 (hiU v)) ∧ w' = w := by
  have e := hiU_of hv
  go_enter Try.func30, Try.ntmps30
  go_wp2
  go_ret
  exact ⟨ret_int (by rw [IntKind.wrap_u64]; exact e), rfl⟩

theorem widen_any (v : Int) (hv : I64 v) (w : World) :
    Calls Try.prog 21 #[.int .i64 v] w fun e w' => e = .returned (.agg #[.int .u64 (hiU v), .int .u64 (loU v)]) ∧ Below w.heap.size w w' := by
  go_enter Try.func21, Try.ntmps21
  go_wp2_with (go_at_call 30; refine (signs_any v hv _).mono ?_; rintro e w' ⟨rfl, rfl⟩)
  simp [bodyPost, results, Try.results21, go_sem]
  exact ⟨by rw [IntKind.wrap_u64]; rfl, bel1 _ _⟩

theorem plus_any (s t : Int) (w : World) :
    Calls Try.prog 20 #[.agg #[.int .u64 (hiU s), .int .u64 (loU s)], .agg #[.int .u64 (hiU t), .int .u64 (loU t)]] w fun e w' => e = .returned (.agg #[.int .u64 (hiU (s + t)), .int .u64 (loU (s + t))]) ∧ Below w.heap.size w w' := by
  have e1 := hi_add s t
  have e2 := lo_add s t
  have a1 := (hiU_word s).1
  have a2 := (hiU_word t).1
  have a3 := (loU_word s).1
  have a4 := (loU_word t).1
  have k0 : 0 ≤ (loU s + loU t) / 18446744073709551616 := by omega
  have k1 : (loU s + loU t) / 18446744073709551616 ≤ 1 := by have := loU_word s; have := loU_word t; omega
  go_enter Try.func20, Try.ntmps20
  go_wp2_with (first | simp only [add64_0 (loU s) (loU t) a3 a4] | simp only [add64 (hiU s) (hiU t) _ a1 a2 k0 k1])
  simp [bodyPost, results, Try.results20, go_sem]
  exact bel3 _ _ _ _

theorem minus_any (s t : Int) (w : World) :
    Calls Try.prog 27 #[.agg #[.int .u64 (hiU s), .int .u64 (loU s)], .agg #[.int .u64 (hiU t), .int .u64 (loU t)]] w fun e w' => e = .returned (.agg #[.int .u64 (hiU (s - t)), .int .u64 (loU (s - t))]) ∧ Below w.heap.size w w' := by
  have e1 := hi_sub s t
  have e2 := lo_sub s t
  have a1 := (hiU_word s).1
  have a2 := hiU_word t
  have a3 := (loU_word s).1
  have a4 := loU_word t
  have k := bor_le (loU s) (loU t)
  obtain ⟨a2, a2'⟩ := a2
  obtain ⟨a4, a4'⟩ := a4
  obtain ⟨k0, k1⟩ := k
  go_enter Try.func27, Try.ntmps27
  go_wp2_with (first | simp only [sub64_0 (loU s) (loU t) a3 a4 a4'] | simp only [sub64 (hiU s) (hiU t) _ a1 a2 a2' k0 k1])
  simp [bodyPost, results, Try.results27, go_sem]
  exact bel3 _ _ _ _

theorem low_wrap (s : Int) : IntKind.i64.wrap (loU s) = lowZ s := by rw [IntKind.wrap_i64]; unfold lowZ; omega

/-- A box of two cells, kept. -/
theorem keep2 {B b : Nat} {w w1 w' : World} {u v : Value} (h : w1.cell? ⟨b, 0, none⟩ = some u ∧ w1.cell? ⟨b, 1, none⟩ = some v ∧ Below B w w1 ∧ B ≤ w1.heap.size) (hb : Below w1.heap.size w1 w') :
    w'.cell? ⟨b, 0, none⟩ = some u ∧ w'.cell? ⟨b, 1, none⟩ = some v ∧ Below B w w' ∧ B ≤ w'.heap.size :=
  ⟨(hb.cell (World.block_lt_of_cell? w1 ⟨b, 0, none⟩ h.1)).trans h.1, (hb.cell (World.block_lt_of_cell? w1 ⟨b, 1, none⟩ h.2.1)).trans h.2.1, h.2.2.1.trans (hb.mono h.2.2.2), Nat.le_trans h.2.2.2 hb.size⟩
theorem start2 (w : World) (u v : Value) (t : TypeId) : (w.alloc (.cells #[u, v] t)).drew.cell? ⟨w.heap.size, 0, none⟩ = some u ∧ (w.alloc (.cells #[u, v] t)).drew.cell? ⟨w.heap.size, 1, none⟩ = some v ∧ Below w.heap.size w (w.alloc (.cells #[u, v] t)).drew ∧ w.heap.size ≤ (w.alloc (.cells #[u, v] t)).drew.heap.size :=
  ⟨by simp [go_sem], by simp [go_sem], (bel1 _ _).drew, by simp [World.drew]⟩

theorem kept2 {B b : Nat} {w w1 : World} {u v : Value} (h : w1.cell? ⟨b, 0, none⟩ = some u ∧ w1.cell? ⟨b, 1, none⟩ = some v ∧ Below B w w1 ∧ B ≤ w1.heap.size) : Below B w w1 := h.2.2.1

theorem narrow_any (s : Int) (hs : Big s) (w : World) :
    Calls Try.prog 22 #[.agg #[.int .u64 (hiU s), .int .u64 (loU s)]] w fun e w' => e = .returned (.tuple #[.int .i64 (fitZ s), .bool (fitB s)]) ∧ Below w.heap.size w w' := by
  have e := low_wrap s
  by_cases h : I64 s
  · rw [lowZ_of h] at e
    have HB : Hid (fitB s = true) := fitB_yes h
    have HZ : Hid (fitZ s = s) := fitZ_yes h
    go_enter Try.func22, Try.ntmps22
    go_wp2
    go_region_held3 (fun w' => w'.cell? ⟨w.heap.size, 0, none⟩ = some (.int .u64 (hiU s)) ∧ w'.cell? ⟨w.heap.size, 1, none⟩ = some (.int .u64 (loU s)) ∧ Below w.heap.size w w' ∧ w.heap.size ≤ w'.heap.size)
      ((first | exact start2 _ _ _ _ | exact keep2 (by assumption) hb))
      ((go_at_call 21; refine (widen_any s h _).mono ?_; rintro e w' ⟨rfl, hb⟩))
    have hB : Below w.heap.size w w' := kept2 (by assumption)
    go_wp2
    go_ret2
    exact ⟨ret_int_bool HZ.out.symm HB.out.symm, hB⟩
  · have HB : Hid (fitB s = false) := fitB_no h
    have HZ : Hid (fitZ s = 0) := fitZ_no h
    have hl := lowZ_lo s
    have hn : ¬ hiU (lowZ s) = hiU s := fun g => h ((hi_same hs (lowZ_i64 s) hl g) ▸ lowZ_i64 s)
    have h' := lowZ_i64 s
    go_enter Try.func22, Try.ntmps22
    go_wp2
    go_region_held3 (fun w' => w'.cell? ⟨w.heap.size, 0, none⟩ = some (.int .u64 (hiU s)) ∧ w'.cell? ⟨w.heap.size, 1, none⟩ = some (.int .u64 (loU s)) ∧ Below w.heap.size w w' ∧ w.heap.size ≤ w'.heap.size)
      ((first | exact start2 _ _ _ _ | exact keep2 (by assumption) hb))
      ((go_at_call 21; refine (widen_any _ h' _).mono ?_; rintro e w' ⟨rfl, hb⟩))
    have hB : Below w.heap.size w w' := kept2 (by assumption)
    go_wp2
    go_ret2
    exact ⟨ret_int_bool HZ.out.symm HB.out.symm, hB⟩

/-- math/bits.Mul64, its own text walked: the product's words. -/
theorem mul64N (x y : Nat) (hx : x < 18446744073709551616) (hy : y < 18446744073709551616) (w : World) :
    Calls Try.prog 31 #[.int .u64 x, .int .u64 y] w fun e w' => e = .returned (.tuple #[.int .u64 ((x * y / 18446744073709551616 : Nat) : Int), .int .u64 ((x * y % 18446744073709551616 : Nat) : Int)]) ∧ w' = w := by
  obtain ⟨bd, bt, bw, hhi⟩ := Lib.mul64_hi x y hx hy
  have q1 := Lib.half_mul_le (a := x / 4294967296) (b := y / 4294967296) (by omega) (by omega)
  have q2 := Lib.half_mul_le (a := x / 4294967296) (b := y % 4294967296) (by omega) (by omega)
  have q3 := Lib.half_mul_le (a := x % 4294967296) (b := y / 4294967296) (by omega) (by omega)
  have r1 : x / 4294967296 * (y / 4294967296) < 18446744073709551616 := by omega
  have r2 : x / 4294967296 * (y % 4294967296) < 18446744073709551616 := by omega
  have r3 : x % 4294967296 * (y / 4294967296) < 18446744073709551616 := by omega
  have r4 : x / 4294967296 * (y / 4294967296) + (x / 4294967296 * (y % 4294967296) + x % 4294967296 * (y % 4294967296) / 4294967296) / 4294967296 < 18446744073709551616 := by omega
  have r5 : x / 4294967296 * (y / 4294967296) + (x / 4294967296 * (y % 4294967296) + x % 4294967296 * (y % 4294967296) / 4294967296) / 4294967296 + ((x / 4294967296 * (y % 4294967296) + x % 4294967296 * (y % 4294967296) / 4294967296) % 4294967296 + x % 4294967296 * (y / 4294967296)) / 4294967296 < 18446744073709551616 := by omega
  go_enter Try.func31, Try.ntmps31
  go_wp2
  simp only [Mul64.maskN x hx, Mul64.maskN y hy, Mul64.divN, Mul64.mulN, Mul64.addN, Mul64.wrapN _ bd, Mul64.wrapN _ r2, Mul64.wrapN _ bt, Mul64.maskN _ bt, Mul64.wrapN _ r3, Mul64.wrapN _ bw, Mul64.wrapN _ r1, Mul64.wrapN _ r4, Mul64.wrapN _ r5, Mul64.wrapM (x * y)]
  rw [hhi]
  go_ret2
  exact ⟨rfl, rfl⟩

theorem ret_int_int {k : IntKind} {a b c d : Int} (h : a = b) (g : c = d) : Ending.returned (.tuple #[.int k a, .int k c]) = .returned (.tuple #[.int k b, .int k d]) := by rw [h, g]

theorem mul64_any (x y : Int) (hx : 0 ≤ x) (hx' : x < 18446744073709551616) (hy : 0 ≤ y) (hy' : y < 18446744073709551616) (w : World) :
    Calls Try.prog 31 #[.int .u64 x, .int .u64 y] w fun e w' => e = .returned (.tuple #[.int .u64 (x * y / 18446744073709551616), .int .u64 (x * y % 18446744073709551616)]) ∧ w' = w := by
  obtain ⟨x, rfl⟩ := Int.eq_ofNat_of_zero_le hx
  obtain ⟨y, rfl⟩ := Int.eq_ofNat_of_zero_le hy
  exact (mul64N x y (by omega) (by omega) w).mono fun e w' h => ⟨h.1.trans (ret_int_int (by simp) (by simp)), h.2⟩

theorem and_signs {a : Int} (ha : I64 a) (u : Int) (h0 : 0 ≤ u) (h1 : u < 18446744073709551616) : bits .and .u64 (hiU a) u = neg1 a u := by
  obtain ⟨u, rfl⟩ := Int.eq_ofNat_of_zero_le h0
  unfold I64 at ha
  by_cases h : a < 0
  · have e : hiU a = ((18446744073709551615 : Nat) : Int) := by unfold hiU; omega
    rw [e, bits_and_u64_nat _ _ (by omega) (by omega), Nat.and_comm]
    have e2 := Nat.and_two_pow_sub_one_eq_mod u 64
    rw [show (2 : Nat) ^ 64 - 1 = 18446744073709551615 from rfl] at e2
    rw [e2, neg1, if_pos h, Nat.mod_eq_of_lt (by omega)]
  · have e : hiU a = ((0 : Nat) : Int) := by unfold hiU; omega
    rw [e, bits_and_u64_nat _ _ (by omega) (by omega)]
    simp [neg1, h]

theorem u64_lo (a : Int) : IntKind.u64.wrap a = loU a := by rw [IntKind.wrap_u64]; rfl

theorem product_any (a b : Int) (ha : I64 a) (hb : I64 b) (w : World) :
    Calls Try.prog 28 #[.int .i64 a, .int .i64 b] w fun e w' => e = .returned (.agg #[.int .u64 (hiU (a * b)), .int .u64 (loU (a * b))]) ∧ Below w.heap.size w w' := by
  have e1 := mul_hi ha hb
  have e2 := mul_lo a b
  have ua := u64_lo a
  have ub := u64_lo b
  obtain ⟨la, la'⟩ := loU_word a
  obtain ⟨lb, lb'⟩ := loU_word b
  have n1 := and_signs ha (loU b) lb lb'
  have n2 := and_signs hb (loU a) la la'
  go_enter Try.func28, Try.ntmps28
  go_wp2_with (first
    | (go_at_call 31; refine (mul64_any _ _ la la' lb lb' _).mono ?_; rintro e w' ⟨rfl, rfl⟩)
    | (go_at_call 30; refine (signs_any _ (by assumption) _).mono ?_; rintro e w' ⟨rfl, rfl⟩))
  simp [bodyPost, results, Try.results28, go_sem, IntKind.wrap_u64]
  exact ⟨by rw [Int.emod_sub_emod] at e1; exact e1, bel1 _ _⟩

theorem add_any (a b : Int) (ha : I64 a) (hb : I64 b) (w : World) :
    Calls Try.prog 17 #[.int .i64 a, .int .i64 b] w fun e w' => e = .returned (.tuple #[.int .i64 (fitZ (a + b)), .bool (fitB (a + b))]) ∧ Below w.heap.size w w' := by
  have hB := big_of_add ha hb
  go_enter Try.func17, Try.ntmps17
  go_wp2_with (first
    | (go_at_call 22; refine (narrow_any _ (by assumption) _).mono ?_; rintro e w4 ⟨rfl, b4⟩)
    | (go_at_call 20; refine (plus_any _ _ _).mono ?_; rintro e w3 ⟨rfl, b3⟩)
    | (go_at_call 21; refine (widen_any _ ha _).mono ?_; rintro e w1 ⟨rfl, b1⟩)
    | (go_at_call 21; refine (widen_any _ hb _).mono ?_; rintro e w2 ⟨rfl, b2⟩))
  go_ret2
  exact ⟨rfl, (sq ((sq ((sq b1 b2)) b3)) b4)⟩

theorem sub_any (a b : Int) (ha : I64 a) (hb : I64 b) (w : World) :
    Calls Try.prog 18 #[.int .i64 a, .int .i64 b] w fun e w' => e = .returned (.tuple #[.int .i64 (fitZ (a - b)), .bool (fitB (a - b))]) ∧ Below w.heap.size w w' := by
  have hB := big_of_sub ha hb
  go_enter Try.func18, Try.ntmps18
  go_wp2_with (first
    | (go_at_call 22; refine (narrow_any _ (by assumption) _).mono ?_; rintro e w4 ⟨rfl, b4⟩)
    | (go_at_call 27; refine (minus_any _ _ _).mono ?_; rintro e w3 ⟨rfl, b3⟩)
    | (go_at_call 21; refine (widen_any _ ha _).mono ?_; rintro e w1 ⟨rfl, b1⟩)
    | (go_at_call 21; refine (widen_any _ hb _).mono ?_; rintro e w2 ⟨rfl, b2⟩))
  go_ret2
  exact ⟨rfl, (sq ((sq ((sq b1 b2)) b3)) b4)⟩

theorem mul_any (a b : Int) (ha : I64 a) (hb : I64 b) (w : World) :
    Calls Try.prog 19 #[.int .i64 a, .int .i64 b] w fun e w' => e = .returned (.tuple #[.int .i64 (fitZ (a * b)), .bool (fitB (a * b))]) ∧ Below w.heap.size w w' := by
  have hB := big_of_mul ha hb
  go_enter Try.func19, Try.ntmps19
  go_wp2_with (first
    | (go_at_call 22; refine (narrow_any _ (by assumption) _).mono ?_; rintro e w2 ⟨rfl, b2⟩)
    | (go_at_call 28; refine (product_any _ _ ha hb _).mono ?_; rintro e w1 ⟨rfl, b1⟩))
  go_ret2
  exact ⟨rfl, (sq b1 b2)⟩
end Go.Proofs.Ytjgnimekplaklaa
