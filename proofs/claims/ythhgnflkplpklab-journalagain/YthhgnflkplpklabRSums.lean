/- The sum CRC-32C, by the program and by the document's. -/
import Derived.Test.YthhgnflkplpklabRMem
namespace Go.Proofs.Ythhgnflkplpklab.Frm
open Go.ChangeShapes Go.WideShapes Go.ChangeAt Go.RowKit

theorem and1_u32 (x : Int) (h : W32 x) : bits .and .u32 x 1 = x % 2 :=
  bits_mask .u32 32 (by decide) (fun n a b => by rw [IntKind.wrap_u32]; omega) 1 (by decide) x h.1 (by unfold W32 at h; omega)

set_option maxHeartbeats 400000 in
theorem through_any (c : Int) (w : World) (hc : W32 c) :
    Calls Try.prog 45 #[.int .u32 c] w fun e w' => e = .returned (.int .u32 (crcT 8 c)) ∧ w' = w := by
  go_enter Try.func45, Try.ntmps45
  go_wp2
  go_loop [0, 4] (fun s i => ∃ k : Nat, k ≤ 8 ∧ i = .int .i64 (k : Int) ∧ s = .int .u32 (crcT k c)) (fun _ i => 8 - (intOf i).toNat)
  case atStart => exact ⟨0, by omega, rfl, rfl⟩
  case round =>
    obtain ⟨k, hk, rfl, rfl⟩ := hrel
    have hw := crcT_w32 hc k
    have ha := and1_u32 _ hw
    by_cases hlt : k < 8
    · have HN : Hid (crcT (k + 1) c = crcS (crcT k c)) := rfl
      generalize crcT k c = s at *
      have hs1 := hw.1
      have hs2 := hw.2
      by_cases h0 : s % 2 = 0
      · have HS : Hid (crcS s = s / 2) := by unfold Hid crcS; rw [if_pos h0]
        have ht : (s % 2 != 0) = false := by simp [h0]
        clear hw
        go_wp2
        go_round
        case rel => exact ⟨k + 1, by omega, by go_num, by rw [HN.out, HS.out]⟩
        case measure => simp [intOf]; omega
      · have HS : Hid (crcS s = bits .xor .u32 (s / 2) 2197175160) := by unfold Hid crcS; rw [if_neg h0]
        have ht : (s % 2 != 0) = true := by simp [h0]
        clear hw h0
        go_wp2
        go_round
        case rel => exact ⟨k + 1, by omega, by go_num, by rw [HN.out, HS.out]⟩
        case measure => simp [intOf]; omega
    · have ek : k = 8 := by omega
      subst ek
      clear ha
      go_wp2
      go_ret
      exact ⟨rfl, rfl⟩
theorem crcF_snoc (l : List Int) (x : Int) : crcF (l ++ [x]) = crcB (crcF l) x := by simp [crcF]
set_option maxHeartbeats 400000 in
theorem sum_any (ao : Option Addr) (len cap : Nat) (zs : List Int) (w : World) (hlen : zs.length = len) (hr : RowAt w ao zs) (hb : Byt zs) (hl : len ≤ maxLen) :
    Calls Try.prog 38 #[.slice ao len cap] w fun e w' => e = .returned (.int .u32 (crcL zs)) ∧ w = w' := by
  subst hlen
  unfold maxLen at hl
  go_enter Try.func38, Try.ntmps38
  go_wp2
  go_loop [3, 8] (fun s i => ∃ k : Nat, k ≤ zs.length ∧ i = .int .i64 (k : Int) ∧ s = .int .u32 (crcF (zs.take k))) (fun _ i => zs.length - (intOf i).toNat)
  case atStart => exact ⟨0, by omega, rfl, rfl⟩
  case round =>
    obtain ⟨k, hk, rfl, rfl⟩ := hrel
    have hw := crcF_w32 (byt_take hb k)
    by_cases hlt : k < zs.length
    · have hx := byt_getD hb k
      have HN : Hid (crcF (zs.take (k + 1)) = crcB (crcF (zs.take k)) (zs.getD k 0)) := by unfold Hid; rw [take_snocI zs k hlt, crcF_snoc]
      rcases hr with h | ⟨b, off, rfl, hcell⟩
      · subst h; simp at hlt
      have hc := hcell k hlt
      generalize crcF (zs.take k) = s at *
      generalize zs.getD k 0 = x at *
      have HX := hid (xor_w32 hw (w32_byte hx))
      clear hcell
      go_wp2_with (go_at_call 45; refine (through_any _ _ HX.out).mono ?_; rintro e w' ⟨rfl, rfl⟩)
      go_round
      case rel => exact ⟨k + 1, by omega, by go_num, by rw [HN.out]; rfl⟩
      case measure => simp [intOf]; omega
    · have e : zs.take k = zs := List.take_of_length_le (by omega)
      rw [e]
      go_wp2
      go_ret
      exact ⟨rfl, rfl⟩
theorem xor_comm32 {a b : Int} (ha : W32 a) (hb : W32 b) : bits .xor .u32 a b = bits .xor .u32 b a := by
  obtain ⟨m, rfl, hm⟩ := w32_nat ha
  obtain ⟨n, rfl, hn⟩ := w32_nat hb
  rw [xor_nat m n hm hn, xor_nat n m hn hm, Nat.xor_comm]
theorem not_u32 (c : Int) (h : W32 c) : bits .xor .u32 c 4294967295 = 4294967295 - c := by
  obtain ⟨n, rfl, hn⟩ := w32_nat h
  rw [show (4294967295 : Int) = ((4294967295 : Nat) : Int) from rfl, xor_nat _ _ hn (by decide)]
  have : n ^^^ (2 ^ 32 - 1) = 2 ^ 32 - 1 - n := by
    have h1 := @BitVec.toNat_not 32 (BitVec.ofNat 32 n)
    have h2 : ~~~ (BitVec.ofNat 32 n) = BitVec.ofNat 32 n ^^^ BitVec.allOnes 32 := BitVec.xor_allOnes.symm
    rw [h2, BitVec.toNat_xor, BitVec.toNat_ofNat, BitVec.toNat_allOnes, Nat.mod_eq_of_lt hn] at h1
    exact h1
  have e : n ^^^ 4294967295 = 4294967295 - n := this
  rw [e]; omega
end Go.Proofs.Ythhgnflkplpklab.Frm
