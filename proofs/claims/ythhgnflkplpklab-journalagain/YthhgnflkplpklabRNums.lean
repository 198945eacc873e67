/- The number of a row of bytes, and the row of a number: the program's functions and the document's. -/
import Derived.Test.YthhgnflkplpklabRMem
namespace Go.Proofs.Ythhgnflkplpklab.Frm
open Go.ChangeShapes Go.WideShapes Go.ChangeAt Go.RowKit

set_option maxHeartbeats 400000 in
theorem number_any (ao : Option Addr) (cap : Nat) (zs : List Int) (w : World) (hr : RowAt w ao zs) (hb : Byt zs) (hl : zs.length ≤ maxLen) :
    Calls Try.prog 51 #[.slice ao zs.length cap] w fun e w' => e = .returned (.tuple #[.int .u64 (numZ zs), .bool (numB zs)]) ∧ w' = w := by
  unfold maxLen at hl
  go_enter Try.func51, Try.ntmps51
  go_wp2
  go_loop [4, 9] (fun v i => ∃ k : Nat, k ≤ zs.length ∧ i = .int .i64 k ∧ v = .int .u64 (num (zs.take k)) ∧ num (zs.take k) < 18446744073709551616) (fun _ i => zs.length - (intOf i).toNat)
  case atStart => exact ⟨0, Nat.zero_le _, rfl, rfl, by simp [num]⟩
  case round =>
    obtain ⟨k, hk, rfl, rfl, hv⟩ := hrel
    have hn0 := (num_bd (zs.take k) (byt_take hb k)).1
    by_cases hlt : k < zs.length
    · have hx := byt_getD hb k
      have hsn : Hid (num (zs.take (k + 1)) = num (zs.take k) * 256 + zs.getD k 0) := by rw [take_snocI zs k hlt]; exact num_snoc _ _
      rcases hr with h | ⟨b, off, rfl, hcell⟩
      · subst h; simp at hlt
      have hc := hcell k hlt
      have hov := num_over hb k hlt
      generalize num (zs.take k) = p at *
      generalize zs.getD k 0 = x at *
      by_cases ho : p < 72057594037927936
      · have ht : (p / 72057594037927936 != 0) = false := by simp; omega
        have e8 := or8 p x hn0 ho hx.1 hx.2
        clear hov hcell
        go_wp2
        go_round
        case rel => exact ⟨k + 1, by omega, by go_num, by rw [hsn.out], by rw [hsn.out]; omega⟩
        case measure => simp [intOf]; omega
      · have ht : (p / 72057594037927936 != 0) = true := by simp; omega
        have HB : Hid (numB zs = false) := hov (by omega)
        clear hov hcell
        go_wp2
        go_ret2
        exact ⟨ret_int_bool (by simp [numZ, HB.out]) HB.out.symm, rfl⟩
    · have e : zs.take k = zs := List.take_of_length_le (by omega)
      rw [e] at hv ⊢
      have HB : Hid (numB zs = true) := by show numB zs = true; unfold numB; simp; omega
      go_wp2
      go_ret2
      exact ⟨ret_int_bool (by simp [numZ, HB.out]) HB.out.symm, rfl⟩
set_option maxHeartbeats 400000 in
theorem bytes_fit (v : Int) (m : Nat) (w : World) (hm1 : 1 ≤ m) (hm2 : m ≤ 64) (hv : 0 ≤ v) (hv' : v < 18446744073709551616) :
    Calls Try.prog 55 #[.int .u64 v, .int .i64 (m : Int)] w fun e w' => e = .returned (.slice (some ⟨w.heap.size, 0, none⟩) m m) ∧ w' = w.alloc (.cells (cellsOf (bytesL v m)) 5) := by
  have hmk := run_make_row' (P := Try.prog) 22 5 (.int .u8 0) 1 Try.underlying22 Try.info5 rfl .i64 .i64 m (by omega) (by omega)
  rw [← fill_none v m] at hmk
  go_enter Try.func55, Try.ntmps55
  go_wp2
  go_loopw [0, 6] (fun x i wr => ∃ k : Nat, k ≤ m ∧ i = .int .i64 ((m : Int) - 1 - k) ∧ x = .int .u64 (v / 256 ^ k) ∧ wr = w.alloc (.cells (cellsOf (fillL v m k)) 5)) (fun _ i _ => (intOf i + 1).toNat)
  case atStart => exact ⟨0, Nat.zero_le _, by simp, by simp, rfl⟩
  case round =>
    obtain ⟨k, hk, rfl, rfl, rfl⟩ := hrel
    have hq : 0 ≤ v / 256 ^ k := Int.ediv_nonneg hv (Int.pow_nonneg (by decide))
    have hq' : v / 256 ^ k < 18446744073709551616 := Int.lt_of_le_of_lt (Int.ediv_le_self _ hv) hv'
    have hs8 : Hid (v / 256 ^ k / 256 = v / 256 ^ (k + 1)) := shr8 v k
    by_cases hlt : k < m
    · have hst : Hid ((cellsOf (fillL v m k)).setIfInBounds (m - 1 - k) (.int .u8 (v / 256 ^ k % 256)) = cellsOf (fillL v m (k + 1))) := fill_store v m k hlt
      have hsz : (cellsOf (fillL v m k)).size = m := by rw [cells_size, fill_length v m k (by omega)]
      generalize cellsOf (fillL v m k) = C at *
      generalize v / 256 ^ k = q at *
      obtain ⟨u, hu⟩ : ∃ u, C[m - 1 - k]? = some u := ⟨C[m - 1 - k]'(by omega), by simp⟩
      go_wp2
      go_roundw
      case rel => exact ⟨k + 1, by omega, by go_num, by rw [hs8.out], by rw [hst.out]⟩
      case measure => simp [intOf]; omega
    · have hkm : k = m := by omega
      subst hkm
      rw [fill_all]
      go_wp2
      go_ret
      exact ⟨rfl, rfl⟩
theorem num_small {zs : List Int} (hb : Byt zs) (h : zs.length ≤ 4) : numB zs = true ∧ numZ zs = num zs ∧ 0 ≤ num zs ∧ num zs < 4294967296 := by
  have h1 := num_bd zs hb
  have h2 : (2 : Int) ^ (8 * zs.length) ≤ 4294967296 := by
    have : (2 : Nat) ^ (8 * zs.length) ≤ 2 ^ 32 := Nat.pow_le_pow_right (by decide) (by omega)
    have e : (4294967296 : Int) = ((2 ^ 32 : Nat) : Int) := by decide
    rw [e]; exact_mod_cast this
  have h3 : numB zs = true := by unfold numB; simp; omega
  exact ⟨h3, by rw [numZ, if_pos h3], h1.1, by omega⟩
theorem number_at (ao : Option Addr) (len cap : Nat) (zs : List Int) (w : World) (hlen : zs.length = len) (hr : RowAt w ao zs) (hb : Byt zs) (hl : len ≤ 4) :
    Calls Try.prog 51 #[.slice ao len cap] w fun e w' => e = .returned (.tuple #[.int .u64 (num zs), .bool true]) ∧ w = w' := by
  subst hlen
  obtain ⟨h1, h2, _⟩ := num_small hb hl
  exact (number_any ao cap zs w hr hb (by unfold maxLen; omega)).mono fun _ _ h => ⟨by rw [h.1, h1, h2], h.2.symm⟩
theorem bytes_at (v : Int) (m : Nat) (w : World) (hm1 : 1 ≤ m) (hm2 : m ≤ 64) (hv : 0 ≤ v) (hv' : v < 18446744073709551616) :
    Calls Try.prog 55 #[.int .u64 v, .int .i64 (m : Int)] w fun e w' => ∃ b, e = .returned (.slice (some ⟨b, 0, none⟩) m m) ∧ RowAt w' (some ⟨b, 0, none⟩) (bytesL v m) ∧ Below w.heap.size w w' := by
  refine (bytes_fit v m w hm1 hm2 hv hv').mono ?_
  rintro e w' ⟨rfl, rfl⟩
  exact ⟨_, rfl, (row_new w _ m (bytesL_length _ _) (by omega)).at, bel1 _ _⟩
end Go.Proofs.Ythhgnflkplpklab.Frm
