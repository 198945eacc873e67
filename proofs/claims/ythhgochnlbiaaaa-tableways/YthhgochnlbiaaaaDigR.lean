/- Digits, the document's. -/
import Derived.Test.YthhgochnlbiaaaaDigP
namespace Go.Proofs.Ythhgochnlbiaaaa
open Go.ChangeShapes Go.WideShapes Go.ChangeAt Go.RowKit

theorem strN_cons (x : Int) (l : List Int) : strOfNums [x] ++ strOfNums l = strOfNums (x :: l) := (strN_app [x] l).symm
set_option maxHeartbeats 1000000 in
theorem digits11 (v n : Int) (w : World) (hv : v ≤ 9223372036854775807) :
    Calls Try.prog 24 #[.int .i64 v, .int .i64 n] w fun e w' => e = .returned (.tuple #[.string (digS v n), .bool (digOk v n)]) ∧ w = w' := by
  by_cases h1 : n < 1
  · have HF := hid (digOk_no (v := v) (n := n) (.inr (.inl h1)))
    rw [HF.out.1, HF.out.2]
    go_enter Try.func24, Try.ntmps24
    go_wp2
    go_ret2
    exact ⟨rfl, rfl⟩
  by_cases h2 : 18 < n
  · have HF := hid (digOk_no (v := v) (n := n) (.inr (.inr h2)))
    rw [HF.out.1, HF.out.2]
    go_enter Try.func24, Try.ntmps24
    go_wp2
    go_ret2
    exact ⟨rfl, rfl⟩
  by_cases h0 : v < 0
  · have HF := hid (digOk_no (v := v) (n := n) (.inl h0))
    rw [HF.out.1, HF.out.2]
    go_enter Try.func24, Try.ntmps24
    go_wp2
    go_ret2
    exact ⟨rfl, rfl⟩
  obtain ⟨m, rfl⟩ : ∃ m : Nat, n = m := ⟨n.toNat, by omega⟩
  have hm1 : 1 ≤ m := by omega
  have hm2 : m ≤ 18 := by omega
  go_enter Try.func24, Try.ntmps24
  go_wp2
  go_loopw [0, 6, 7] (fun x s i wr => ∃ (k : Nat) (t : ByteArray), k ≤ m ∧ i = .int .i64 (k : Int) ∧ x = .int .i64 (v / 10 ^ k) ∧ s = .string t ∧ t = strOfNums (decL v k) ∧ w = wr) (fun _ _ i _ => m - (intOf i).toNat)
  case atStart => exact ⟨0, ⟨#[]⟩, Nat.zero_le _, by simp, by simp, rfl, rfl, rfl⟩
  case round =>
    obtain ⟨k, t, hk, rfl, rfl, rfl, ht, rfl⟩ := hrel
    have HT := hid ht
    have hts : t.size = k := by rw [ht, strOfNums_size, decL_length]
    clear ht
    have hq : 0 ≤ v / 10 ^ k := Int.ediv_nonneg (by omega) (Int.pow_nonneg (by decide))
    have hq' : v / 10 ^ k ≤ 9223372036854775807 := Int.le_trans (Int.ediv_le_self _ (by omega)) hv
    have hs8 : Hid (v / 10 ^ k / 10 = v / 10 ^ (k + 1)) := div10 v k
    have HM : Hid (decL v (k + 1) = (48 + v / 10 ^ k % 10) :: decL v k) := decL_more v k
    by_cases hlt : k < m
    · generalize v / 10 ^ k = q at *
      obtain ⟨z, hz, z0, z1⟩ : ∃ z, q % 10 = z ∧ 0 ≤ z ∧ z < 10 := ⟨_, rfl, by omega, by omega⟩
      have e1 : q.tmod 10 = z := by rw [Int.tmod_eq_emod_of_nonneg hq, hz]
      have e2 : q.tdiv 10 = q / 10 := Int.tdiv_eq_ediv_of_nonneg hq
      have HC := hid (digit_cut z z0 z1)
      have HZ := hid hz
      clear hz
      have j2 : (k : Int) < (m : Int) := by omega
      have e4 : wrap64 (z + 1) = z + 1 := by have := IntKind.wrap_i64 (z + 1); unfold wrap64; omega
      have hz10 : z + 1 ≤ 10 := by omega
      obtain ⟨d, hd⟩ : ∃ d, (ByteArray.mk #[48, 49, 50, 51, 52, 53, 54, 55, 56, 57]).extract z.toNat (z + 1).toNat = d := ⟨_, rfl⟩
      have hds : d.size = 1 := by rw [← hd, HC.out, strOfNums_size]; rfl
      have HD : Hid (d = strOfNums [48 + z]) := hd.symm.trans HC.out
      have hsz : ¬ 9223372036854775807 < d.size + t.size := by omega
      go_wp2
      go_roundw
      case rel => exact ⟨k + 1, d ++ t, by omega, by go_num, by rw [hs8.out], rfl, by rw [HD.out, HT.out, strN_cons, HM.out, HZ.out], by trivial⟩
      case measure => simp [intOf]; omega
    · have hkm : k = m := by omega
      subst hkm
      by_cases hz : v / 10 ^ k = 0
      · have HY := hid (digOk_yes (by omega) hm1 hm2 hz)
        have hz' : ¬ 0 < v / 10 ^ k := by omega
        go_wp2
        go_ret2
        exact ⟨ret_str_bool (HT.out.trans HY.out.2.symm) HY.out.1.symm, rfl⟩
      · have HF := hid (digOk_big (by omega) hz)
        have hz' : 0 < v / 10 ^ k := by omega
        go_wp2
        go_ret2
        exact ⟨ret_str_bool HF.out.2.symm HF.out.1.symm, rfl⟩
end Go.Proofs.Ythhgochnlbiaaaa
