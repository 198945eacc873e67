/- The row of bytes of a number, as the program and the document make it: one new block, written out. -/
import Derived.Test.YtlgphfchjcpimaaSeq
import Derived.Deep.OwnRows
namespace Go.Proofs.Ytlgphfchjcpimaa
open Go.ChangeShapes Go.WideShapes Go.ChangeAt Go.RowKit

theorem Try.info5 : (Try.prog.info? 5).map (fun i => (i.zero, i.size, i.bytes)) = some (some (.int .u8 0), 1, 1) := by kernel_rfl

/-- m bytes of which the last k are written. -/
def fillL (v : Int) (m k : Nat) : List Int := List.replicate (m - k) 0 ++ bytesL v k
def cellsOf (l : List Int) : Array Value := (l.map (Value.int .u8)).toArray

theorem bytesL_more (v : Int) (k : Nat) : bytesL v (k + 1) = v / 256 ^ k % 256 :: bytesL v k := by
  induction k generalizing v with
  | zero => simp [bytesL]
  | succ k ih =>
    rw [bytesL, ih (v / 256), bytesL, List.cons_append, Int.ediv_ediv_of_nonneg (by decide), Int.pow_succ, Int.mul_comm]

theorem fill_store (v : Int) (m k : Nat) (h : k < m) : (cellsOf (fillL v m k)).setIfInBounds (m - 1 - k) (.int .u8 (v / 256 ^ k % 256)) = cellsOf (fillL v m (k + 1)) := by
  unfold cellsOf fillL
  rw [bytesL_more]
  have e : m - k = (m - 1 - k) + 1 := by omega
  have e' : m - (k + 1) = m - 1 - k := by omega
  rw [e, e', List.replicate_succ', List.append_assoc]
  simp

theorem fill_none (v : Int) (m : Nat) : cellsOf (fillL v m 0) = madeCells #[Value.int .u8 0] m := by
  apply Array.toList_inj.1
  rw [toList_madeCells_one]
  simp [cellsOf, fillL, bytesL]

theorem fill_all (v : Int) (m : Nat) : fillL v m m = bytesL v m := by simp [fillL]

theorem cells_size (l : List Int) : (cellsOf l).size = l.length := by simp [cellsOf]
theorem fill_length (v : Int) (m k : Nat) (h : k ≤ m) : (fillL v m k).length = m := by simp [fillL, bytesL_length]; omega

theorem bytes_none (v n : Int) (w : World) (h : n < 1) :
    Calls Try.prog 19 #[.int .u64 v, .int .i64 n] w fun e w' => e = .returned (.slice none 0 0) ∧ w' = w := by
  go_enter Try.func19, Try.ntmps19
  go_wp2
  go_ret
  exact ⟨rfl, rfl⟩


theorem shr8 (v : Int) (k : Nat) : v / 256 ^ k / 256 = v / 256 ^ (k + 1) := by
  rw [Int.ediv_ediv_of_nonneg (Int.pow_nonneg (by decide)), Int.pow_succ]

set_option maxHeartbeats 400000 in
theorem bytes_fit (v : Int) (m : Nat) (w : World) (hm1 : 1 ≤ m) (hm2 : m ≤ 64) (hv : 0 ≤ v) (hv' : v < 18446744073709551616) :
    Calls Try.prog 19 #[.int .u64 v, .int .i64 (m : Int)] w fun e w' => e = .returned (.slice (some ⟨w.heap.size, 0, none⟩) m m) ∧ w' = w.alloc (.cells (cellsOf (bytesL v m)) 5) := by
  have hmk := run_make_row' (P := Try.prog) 36 5 (.int .u8 0) 1 Try.underlying36 Try.info5 rfl .i64 .i64 m (by omega) (by omega)
  rw [← fill_none v m] at hmk
  go_enter Try.func19, Try.ntmps19
  go_wp2
  go_loopw [0, 6] (fun x i wr => ∃ k : Nat, k ≤ m ∧ i = .int .i64 ((m : Int) - 1 - k) ∧ x = .int .u64 (v / 256 ^ k) ∧ wr = w.alloc (.cells (cellsOf (fillL v m k)) 5)) (fun _ i _ => (intOf i + 1).toNat)
  case atStart => exact ⟨0, Nat.zero_le _, by simp, by simp, rfl⟩
  case round =>
    obtain ⟨k, hk, rfl, rfl, rfl⟩ := hrel
    have hq : 0 ≤ v / 256 ^ k := Int.ediv_nonneg hv (Int.pow_nonneg (by decide))
    have hq' : v / 256 ^ k < 18446744073709551616 := Int.lt_of_le_of_lt (Int.ediv_le_self _ hv) hv'
    have hs8 : Hid (v / 256 ^ k / 256 = v / 256 ^ (k + 1)) := shr8 v k
    by_cases hlt : k < m
    · have hst : Hid ((cellsOf (fillL v m k)).setIfInBounds (m - 1 - k) (.int .u8 (v / 256 ^ k % 256)) = cellsOf (fillL v m (k + 1))) := fill_store v m k hlt
      have hsz : (cellsOf (fillL v m k)).size = m := by rw [cells_size, fill_length v m k (by omega)]
      generalize cellsOf (fillL v m k) = C at *
      generalize v / 256 ^ k = q at *
      obtain ⟨u, hu⟩ : ∃ u, C[m - 1 - k]? = some u := ⟨C[m - 1 - k]'(by omega), by simp⟩
      go_wp2
      go_roundw
      case rel => exact ⟨k + 1, by omega, by go_num, by rw [hs8.out], by rw [hst.out]⟩
      case measure => simp [intOf]; omega
    · have hkm : k = m := by omega
      subst hkm
      rw [fill_all]
      go_wp2
      go_ret
      exact ⟨rfl, rfl⟩
set_option maxHeartbeats 400000 in
theorem bytes_over (v n : Int) (w : World) (hn : 64 < n) (hv : 0 ≤ v) (hv' : v < 18446744073709551616) :
    Calls Try.prog 19 #[.int .u64 v, .int .i64 n] w fun e w' => e = .returned (.slice (some ⟨w.heap.size, 0, none⟩) 64 64) ∧ w' = w.alloc (.cells (cellsOf (bytesL v 64)) 5) := by
  have hmk := run_make_row' (P := Try.prog) 36 5 (.int .u8 0) 1 Try.underlying36 Try.info5 rfl .i64 .i64 64 (by omega) (by omega)
  rw [← fill_none v 64] at hmk
  simp only [show ((64 : Nat) : Int) = 64 from rfl] at hmk
  have h1 : ¬ n < 1 := by omega
  have h2 : ¬ n < 64 := by omega
  have h3 : ¬ n ≤ 64 := by omega
  go_enter Try.func19, Try.ntmps19
  go_wp2
  go_loopw [0, 6] (fun x i wr => ∃ k : Nat, k ≤ 64 ∧ i = .int .i64 ((63 : Int) - k) ∧ x = .int .u64 (v / 256 ^ k) ∧ wr = w.alloc (.cells (cellsOf (fillL v 64 k)) 5)) (fun _ i _ => (intOf i + 1).toNat)
  case atStart => exact ⟨0, Nat.zero_le _, by simp, by simp, rfl⟩
  case round =>
    obtain ⟨k, hk, rfl, rfl, rfl⟩ := hrel
    have hq : 0 ≤ v / 256 ^ k := Int.ediv_nonneg hv (Int.pow_nonneg (by decide))
    have hq' : v / 256 ^ k < 18446744073709551616 := Int.lt_of_le_of_lt (Int.ediv_le_self _ hv) hv'
    have hs8 : Hid (v / 256 ^ k / 256 = v / 256 ^ (k + 1)) := shr8 v k
    by_cases hlt : k < 64
    · have hst : Hid ((cellsOf (fillL v 64 k)).setIfInBounds (63 - k) (.int .u8 (v / 256 ^ k % 256)) = cellsOf (fillL v 64 (k + 1))) := fill_store v 64 k hlt
      have hsz : (cellsOf (fillL v 64 k)).size = 64 := by rw [cells_size, fill_length v 64 k (by omega)]
      generalize cellsOf (fillL v 64 k) = C at *
      generalize v / 256 ^ k = q at *
      obtain ⟨u, hu⟩ : ∃ u, C[63 - k]? = some u := ⟨C[63 - k]'(by omega), by simp⟩
      go_wp2
      go_roundw
      case rel => exact ⟨k + 1, by omega, by go_num, by rw [hs8.out], by rw [hst.out]⟩
      case measure => simp [intOf]; omega
    · have hkm : k = 64 := by omega
      subst hkm
      rw [fill_all]
      go_wp2
      go_ret
      exact ⟨rfl, rfl⟩

theorem bytesL_zeros (v : Int) (m : Nat) (h : v = 0) : bytesL v m = List.replicate m 0 := by
  subst h
  induction m with
  | zero => rfl
  | succ m ih => rw [bytesL, List.replicate_succ']; simp [ih]

theorem bytesL_long (v : Int) (m j : Nat) (hv : 0 ≤ v) (h : v < 256 ^ j) : bytesL v (m + j) = List.replicate m 0 ++ bytesL v j := by
  induction j generalizing v with
  | zero =>
    have : v = 0 := by simp at h; omega
    rw [bytesL_zeros v _ this]; simp [bytesL]
  | succ j ih =>
    have h' : v / 256 < 256 ^ j := by
      apply Int.ediv_lt_of_lt_mul (by decide); rw [← Int.pow_succ]; exact h
    rw [← Nat.add_assoc, bytesL, ih (v / 256) (by omega) h', bytesL, List.append_assoc]

theorem fill_eight (v : Int) (m k : Nat) (hv : 0 ≤ v) (hv' : v < 18446744073709551616) (hk : k ≤ m) (h : k = m ∨ 8 ≤ k) : fillL v m k = bytesL v m := by
  rcases h with h | h
  · subst h; exact fill_all v k
  · obtain ⟨j, rfl⟩ : ∃ j, m = j + k := ⟨m - k, by omega⟩
    have hp : (18446744073709551616 : Int) ≤ 256 ^ k := by
      have e8 : (256 : Int) ^ k = 18446744073709551616 * 256 ^ (k - 8) := by
        rw [show (18446744073709551616 : Int) = 256 ^ 8 from rfl, ← Int.pow_add, show 8 + (k - 8) = k by omega]
      have hp := Int.pow_pos (n := 256) (m := k - 8) (by decide)
      rw [e8]; omega
    rw [bytesL_long v j k hv (by omega), fillL, show j + k - k = j by omega]

theorem shr_mul (v : Int) (k : Nat) : v / 2 ^ (8 * k) = v / 256 ^ k := by
  rw [Int.pow_mul]; rfl

set_option maxHeartbeats 400000 in
theorem put_none (v n : Int) (w : World) (hn : n ≤ 0) :
    Calls Try.prog 20 #[.int .u64 v, .int .i64 n] w fun e w' => e = .returned (.slice (some ⟨w.heap.size, 0, none⟩) 0 0) ∧ w' = w.alloc (.cells (cellsOf (bytesL v 0)) 5) := by
  have hmk := run_make_row' (P := Try.prog) 36 5 (.int .u8 0) 1 Try.underlying36 Try.info5 rfl .i64 .i64 0 (by omega) (by omega)
  rw [← fill_none v 0, fill_all] at hmk
  simp only [show ((0 : Nat) : Int) = 0 from rfl] at hmk
  rcases (show n = 0 ∨ n < 0 by omega) with h | h
  · subst h
    go_enter Try.func20, Try.ntmps20
    go_wp2
    refine wp_loop_rounds 1 ?_
    rw [rounds_succ]
    go_wp2
    go_ret
    exact ⟨rfl, rfl⟩
  · go_enter Try.func20, Try.ntmps20
    go_wp2
    refine wp_loop_rounds 1 ?_
    rw [rounds_succ]
    go_wp2
    go_ret
    exact ⟨rfl, rfl⟩

set_option maxHeartbeats 400000 in
theorem put_fit (v : Int) (m : Nat) (w : World) (hm1 : 1 ≤ m) (hm2 : m ≤ 64) (hv : 0 ≤ v) (hv' : v < 18446744073709551616) :
    Calls Try.prog 20 #[.int .u64 v, .int .i64 (m : Int)] w fun e w' => e = .returned (.slice (some ⟨w.heap.size, 0, none⟩) m m) ∧ w' = w.alloc (.cells (cellsOf (bytesL v m)) 5) := by
  have hmk := run_make_row' (P := Try.prog) 36 5 (.int .u8 0) 1 Try.underlying36 Try.info5 rfl .i64 .i64 m (by omega) (by omega)
  rw [← fill_none v m] at hmk
  go_enter Try.func20, Try.ntmps20
  go_wp2
  go_loopw [6] (fun i wr => ∃ k : Nat, k ≤ m ∧ k ≤ 8 ∧ i = .int .i64 k ∧ wr = w.alloc (.cells (cellsOf (fillL v m k)) 5)) (fun i _ => 8 - (intOf i).toNat)
  case atStart => exact ⟨0, Nat.zero_le _, by omega, by simp, rfl⟩
  case round =>
    obtain ⟨k, hk, hk8, rfl, rfl⟩ := hrel
    by_cases hlt : k < m
    · by_cases h8 : k < 8
      · have hst : Hid ((cellsOf (fillL v m k)).setIfInBounds (m - 1 - k) (.int .u8 (v / 256 ^ k % 256)) = cellsOf (fillL v m (k + 1))) := fill_store v m k hlt
        have hsz : (cellsOf (fillL v m k)).size = m := by rw [cells_size, fill_length v m k (by omega)]
        generalize cellsOf (fillL v m k) = C at *
        obtain ⟨u, hu⟩ : ∃ u, C[m - 1 - k]? = some u := ⟨C[m - 1 - k]'(by omega), by simp⟩
        go_wp2
        go_roundw
        case rel => exact ⟨k + 1, by omega, by omega, by go_num, by rw [← hst.out, shr_mul]⟩
        case measure => simp [intOf]; omega
      · have e := fill_eight v m k hv hv' (by omega) (.inr (by omega))
        rw [e]
        go_wp2
        go_ret
        exact ⟨rfl, rfl⟩
    · have e := fill_eight v m k hv hv' (by omega) (.inl (by omega))
      rw [e]
      go_wp2
      go_ret
      exact ⟨rfl, rfl⟩
set_option maxHeartbeats 400000 in
theorem put_over (v n : Int) (w : World) (hn : 64 < n) (hv : 0 ≤ v) (hv' : v < 18446744073709551616) :
    Calls Try.prog 20 #[.int .u64 v, .int .i64 n] w fun e w' => e = .returned (.slice (some ⟨w.heap.size, 0, none⟩) 64 64) ∧ w' = w.alloc (.cells (cellsOf (bytesL v 64)) 5) := by
  have hmk := run_make_row' (P := Try.prog) 36 5 (.int .u8 0) 1 Try.underlying36 Try.info5 rfl .i64 .i64 64 (by omega) (by omega)
  rw [← fill_none v 64] at hmk
  simp only [show ((64 : Nat) : Int) = 64 from rfl] at hmk
  have h1 : ¬ n < 0 := by omega
  have h4 : ¬ n ≤ 0 := by omega
  have h2 : ¬ n < 64 := by omega
  have h3 : ¬ n ≤ 64 := by omega
  go_enter Try.func20, Try.ntmps20
  go_wp2
  go_loopw [6] (fun i wr => ∃ k : Nat, k ≤ 64 ∧ k ≤ 8 ∧ i = .int .i64 k ∧ wr = w.alloc (.cells (cellsOf (fillL v 64 k)) 5)) (fun i _ => 8 - (intOf i).toNat)
  case atStart => exact ⟨0, Nat.zero_le _, by omega, by simp, rfl⟩
  case round =>
    obtain ⟨k, hk, hk8, rfl, rfl⟩ := hrel
    by_cases hlt : k < 64
    · by_cases h8 : k < 8
      · have hst : Hid ((cellsOf (fillL v 64 k)).setIfInBounds (63 - k) (.int .u8 (v / 256 ^ k % 256)) = cellsOf (fillL v 64 (k + 1))) := fill_store v 64 k hlt
        have hsz : (cellsOf (fillL v 64 k)).size = 64 := by rw [cells_size, fill_length v 64 k (by omega)]
        generalize cellsOf (fillL v 64 k) = C at *
        obtain ⟨u, hu⟩ : ∃ u, C[63 - k]? = some u := ⟨C[63 - k]'(by omega), by simp⟩
        go_wp2
        go_roundw
        case rel => exact ⟨k + 1, by omega, by omega, by go_num, by rw [← hst.out, shr_mul]⟩
        case measure => simp [intOf]; omega
      · have e := fill_eight v 64 k hv hv' (by omega) (.inr (by omega))
        rw [e]
        go_wp2
        go_ret
        exact ⟨rfl, rfl⟩
    · exact absurd hk8 (by omega)
end Go.Proofs.Ytlgphfchjcpimaa
