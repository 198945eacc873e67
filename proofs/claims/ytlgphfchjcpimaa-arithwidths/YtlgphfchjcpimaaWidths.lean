/- For every v, u, w and n the function ArithWidths answers true: the program's widths are the document's. -/
import Derived.Test.YtlgphfchjcpimaaKnown
import Derived.Deep.RegionHeld3
namespace Go.Proofs.Ytlgphfchjcpimaa
open Go.ChangeShapes Go.WideShapes Go.ChangeAt Go.RowKit

theorem and63 (n : Int) : bits .and .i64 n 63 = n % 64 := by
  have h : (BitVec.ofInt 64 63).toNat = 2 ^ 6 - 1 := by decide
  have key : (BitVec.ofInt 64 n &&& BitVec.ofInt 64 63).toNat = (n % ((2 ^ 64 : Nat) : Int)).toNat % 2 ^ 6 := by
    rw [BitVec.toNat_and, BitVec.toNat_ofInt, h, Nat.and_two_pow_sub_one_eq_mod]
  show IntKind.i64.wrap ((BitVec.ofInt 64 n &&& BitVec.ofInt 64 63).toNat : Nat) = n % 64
  rw [key, IntKind.wrap_i64]
  omega
theorem and7 (n : Int) : bits .and .i64 n 7 = n % 8 := by
  have h : (BitVec.ofInt 64 7).toNat = 2 ^ 3 - 1 := by decide
  have key : (BitVec.ofInt 64 n &&& BitVec.ofInt 64 7).toNat = (n % ((2 ^ 64 : Nat) : Int)).toNat % 2 ^ 3 := by
    rw [BitVec.toNat_and, BitVec.toNat_ofInt, h, Nat.and_two_pow_sub_one_eq_mod]
  show IntKind.i64.wrap ((BitVec.ofInt 64 n &&& BitVec.ofInt 64 7).toNat : Nat) = n % 8
  rw [key, IntKind.wrap_i64]
  omega

/-- Block b of this world holds five numbers. -/
def Five (w : World) (b : Nat) : Prop := ∀ j : Nat, j < 5 → ∃ X, w.cell? ⟨b, j, none⟩ = some (.int .i64 X) ∧ X ≤ 9223372036854775807

theorem five_cell (wr : World) (a0 a3 : Int) (b1 : a0 ≤ 9223372036854775807) :
    Five (wr.alloc (.cells #[.int .i64 a0, .int .i64 (a0 / 2 ^ (a3 % 64).toNat), .int .i64 (IntKind.i64.wrap (-a0) / 1099511627776), .int .i64 (IntKind.i64.wrap (2 ^ (a3 % 64).toNat)), .int .i64 (IntKind.i64.wrap (-2 ^ (a3 % 64).toNat))] 2)).drew wr.heap.size := by
  intro j h
  have hd : ∀ o : Obj, (wr.alloc o).drew.cell? ⟨wr.heap.size, j, none⟩ = (wr.alloc o).cell? ⟨wr.heap.size, j, none⟩ := fun _ => rfl
  rw [hd, World.cell?_alloc_at _ _ _ _ rfl]
  match j, h with
  | 0, _ => exact ⟨_, rfl, b1⟩
  | 1, _ =>
    refine ⟨_, rfl, ?_⟩
    have hp := two_pow_pos (a3 % 64).toNat
    rcases Int.le_total 0 a0 with h | h
    · exact Int.le_trans (Int.ediv_le_self _ h) b1
    · have : a0 / 2 ^ (a3 % 64).toNat ≤ 0 / 2 ^ (a3 % 64).toNat := Int.ediv_le_ediv hp h
      rw [Int.zero_ediv] at this; omega
  | 2, _ => exact ⟨_, rfl, by rw [IntKind.wrap_i64]; omega⟩
  | 3, _ => exact ⟨_, rfl, by rw [IntKind.wrap_i64]; omega⟩
  | 4, _ => exact ⟨_, rfl, by rw [IntKind.wrap_i64]; omega⟩

set_option maxRecDepth 100000 in
set_option maxHeartbeats 4000000 in
theorem widths_walk (a0 a1 a2 a3 : Int) (_b0 : -9223372036854775808 ≤ a0) (b1 : a0 ≤ 9223372036854775807) (b2 : 0 ≤ a1) (b3 : a1 ≤ 18446744073709551615) (b4 : 0 ≤ a2) (b5 : a2 ≤ 4294967295)
    (_b6 : -9223372036854775808 ≤ a3) (_b7 : a3 ≤ 9223372036854775807) (w : World) :
    Calls Try.prog 3 #[.int .i64 a0, .int .u64 a1, .int .u32 a2, .int .i64 a3] w fun e w' => e = .returned (.bool true) ∧ Below w.heap.size w w' := by
  have e63 := and63 a3
  have e7 := and7 a3
  have s0 : 0 ≤ a3 % 64 := by omega
  go_enter Try.func3, Try.ntmps3
  go_wp2_with (go_at_call 8; refine (known_any _).mono ?_; rintro e w1 ⟨rfl, hb1⟩)
  go_loopw [30] (fun i wr => ∃ k : Nat, k ≤ 5 ∧ i = .int .i64 k ∧ Below (w1.heap.size + 1) (w1.alloc (.cells #[.int .i64 a3, .int .i64 (a3 % 64), .int .i64 (a3 % 8), .int .i64 64, .int .i64 0] 3)) wr) (fun i _ => 5 - (intOf i).toNat)
  case atStart => exact ⟨0, by omega, by simp, Below.refl _ _⟩
  case round =>
    obtain ⟨k, hk, rfl, hb2⟩ := hrel
    by_cases hlt : k < 5
    · obtain ⟨K, hc⟩ : ∃ K, wr.cell? ⟨w1.heap.size, k, none⟩ = some (.int .i64 K) := by
        rw [hb2.cell (by simp), World.cell?_alloc_at _ _ _ _ rfl]
        match k, hlt with
        | 0, _ => exact ⟨_, rfl⟩
        | 1, _ => exact ⟨_, rfl⟩
        | 2, _ => exact ⟨_, rfl⟩
        | 3, _ => exact ⟨_, rfl⟩
        | 4, _ => exact ⟨_, rfl⟩
      go_wp2
      go_region_held3 (fun _ => True) (trivial) (fail)
      go_wp2
      go_loopw [50] (fun i wv => ∃ j : Nat, j ≤ 5 ∧ i = .int .i64 j ∧ Five wv wr.heap.size ∧ Below (w1.heap.size + 1) (w1.alloc (.cells #[.int .i64 a3, .int .i64 (a3 % 64), .int .i64 (a3 % 8), .int .i64 64, .int .i64 0] 3)) wv) (fun i _ => 5 - (intOf i).toNat)
      case atStart => exact ⟨0, by omega, rfl, five_cell wr a0 a3 b1, (hb2.alloc (by have := hb2.size; simp at this; omega) _).drew⟩
      case round =>
        obtain ⟨j, hj, rfl, h5, hb3⟩ := hrel
        by_cases hjl : j < 5
        · obtain ⟨X, hX, hX2⟩ := h5 j hjl
          clear hc hb2 e63 e7
          go_wp2_with (first
            | (go_at_call 9; refine (narrow_any _ _ _).mono ?_; rintro e w' ⟨rfl, rfl⟩)
            | (go_at_call 10; refine (narrowR_any _ _ _).mono ?_; rintro e w' ⟨rfl, rfl⟩)
            | (go_at_call 11; refine (unsigned_any _ _ _ hX2).mono ?_; rintro e w' ⟨rfl, rfl⟩)
            | (go_at_call 12; refine (unsignedR_any _ _ _ hX2).mono ?_; rintro e w' ⟨rfl, rfl⟩)
            | (go_at_call 13; refine (wrap_any _ _ _).mono ?_; rintro e w' ⟨rfl, rfl⟩)
            | (go_at_call 14; refine (wrapR_any _ _ _).mono ?_; rintro e w' ⟨rfl, rfl⟩))
          go_roundw
          case rel => exact ⟨j + 1, by omega, by go_num, h5, hb3⟩
          case measure => simp [intOf]; omega
        · go_wp2_with (first
            | (go_at_call 15; refine (low_any _ _ _).mono ?_; rintro e w' ⟨rfl, rfl⟩)
            | (go_at_call 16; refine (lowR_any _ _ _ b2 (by omega)).mono ?_; rintro e w' ⟨rfl, rfl⟩)
            | (go_at_call 17; refine (rotate_any _ _ _ b4 (by omega)).mono ?_; rintro e w' ⟨rfl, rfl⟩)
            | (go_at_call 18; refine (rotateR_any _ _ _ b4 (by omega)).mono ?_; rintro e w' ⟨rfl, rfl⟩))
          go_roundw
          case rel => exact ⟨k + 1, by omega, by go_num, hb3⟩
          case measure => simp [intOf]; omega
    · go_wp2
      go_ret
      exact ⟨rfl, (hb1.alloc hb1.size _).trans (hb2.mono (by have := hb1.size; omega))⟩
theorem arithWidths_own : ownKnob Try.prog.godebug = none := by kernel_rfl

set_option maxRecDepth 100000 in
theorem arithWidths_lifted (os : Os) (started : os.Started) (H : Type) (enc : TypeId × Value → H) :
    ReturnsInHanded {} Try.checked os 3 .any (Rows.arithWidthsSpec.pre6 enc Try.prog Try.f3 Rows.arithWidthsRow.domain false) (Rows.arithWidthsSpec.post enc Try.prog Try.f3 false true false false) := by
  refine returnsInHanded_of_change (C := Try.checked) arithWidths_own started (by kernel_rfl) Try.func3
    (ChangeSpec.witness6 (enc := enc) (C := Try.checked) false ⟨#[], #[.int .i64 0, .int .u64 0, .int .u32 0, .int .i64 0], []⟩ 8 (by kernel_rfl) (by kernel_rfl) (by kernel_rfl) (by kernel_rfl)) ?_
  intro W base args ds gs before hval0 hW hcnd _
  have hval : ∀ (j : Nat) t v, Try.f3.params[j]? = some t → args[j]? = some v → Value.okWide Try.prog W .any base t v := hval0
  have hW' := hW
  obtain ⟨p, q, hA0, hV, rfl, hfz, hnd⟩ := hW
  have hA : DataW.TrodAll enc Try.prog W 0 (fun _ => true) true Try.f3.params.toList args.toList ds p := hA0
  rw [Try.params3] at hA hval
  obtain ⟨v0, vs0, d0, ds0, p0, q0, hargs, rfl, rfl, h0, r0⟩ := trodAll_cons hA
  obtain ⟨v1, vs1, d1, ds1, p1, q1, rfl, rfl, rfl, h1, r1⟩ := trodAll_cons r0
  obtain ⟨v2, vs2, d2, ds2, p2, q2, rfl, rfl, rfl, h2, r2⟩ := trodAll_cons r1
  obtain ⟨v3, vs3, d3, ds3, p3, q3, rfl, rfl, rfl, h3, r3⟩ := trodAll_cons r2
  obtain ⟨rfl, rfl, rfl⟩ := trodAll_nil r3
  obtain rfl : args = #[v0, v1, v2, v3] := by cases args; simp_all
  obtain ⟨rfl, rfl⟩ := trodVars_none hV
  obtain ⟨a0, rfl, rfl, rfl, w0⟩ := open_int Try.underlying2 (hval 0 2 v0 rfl rfl) h0
  obtain ⟨a1, rfl, rfl, rfl, w1⟩ := open_int Try.underlying22 (hval 1 22 v1 rfl rfl) h1
  obtain ⟨a2, rfl, rfl, rfl, w2⟩ := open_int Try.underlying23 (hval 2 23 v2 rfl rfl) h2
  obtain ⟨a3, rfl, rfl, rfl, w3⟩ := open_int Try.underlying3 (hval 3 3 v3 rfl rfl) h3
  clear hA0 hval0
  simp only [List.append_nil] at hW'
  have c0 := bounds_i64 w0
  have c1 := bounds_u64 w1
  have c2 := bounds_u32 w2
  have c3 := bounds_i64 w3
  refine (widths_walk a0 a1 a2 a3 c0.1 c0.2 c1.1 c1.2 c2.1 c2.2 c3.1 c3.2 W).mono fun e W' ⟨he, bel⟩ => ?_
  subst he
  exact ⟨_, rfl, _, _, _, [], [], [], hW', trodAll_mk1 (shut_bool Try.underlying4 _), (trodAll_cons_mk (shut_int Try.underlying2 w0) (trodAll_cons_mk (shut_int Try.underlying22 w1) (trodAll_cons_mk (shut_int Try.underlying23 w2) (trodAll_cons_mk (shut_int Try.underlying3 w3) trodAll_mk0)))), rfl, bel.frame _, fun h => by cases h⟩

theorem arithWidths_over : Rows.arithWidthsRow.holds Try.pinned (OpenSpec.ofChange Rows.arithWidthsSpec) :=
  OpenClaim.holds_of_wide 3 Try.f3 rfl rfl rfl rfl rfl rfl rfl ⟨rfl, rfl, rfl, rfl, rfl⟩ rfl rfl rfl rfl rfl (by kernel_rfl) Try.func3 (by kernel_rfl)
    (of_decide_eq_true (by kernel_rfl)) (by unfold Func.isWrapper; first | (rw [if_pos (by decide +kernel)]; kernel_rfl) | (rw [if_neg (by decide +kernel)]; exact ⟨rfl, rfl⟩))
    (fun os started H enc _ => arithWidths_lifted os started H enc)

/-- The statement. -/
theorem arithWidths_holds : Rows.ArithWidthsSaid := arithWidths_over
#print axioms arithWidths_holds
end Go.Proofs.Ytlgphfchjcpimaa
