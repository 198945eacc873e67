/- What the functions of rows of bytes answer, the program's and the document's: the number of a row, and the row of a number. -/
import Derived.Test.YtlgphfchjcpimaaPure
import Derived.Below
namespace Go.Proofs.Ytlgphfchjcpimaa
open Go.ChangeShapes Go.WideShapes Go.ChangeAt Go.RowKit

/-- In this world the address leads to the bytes 'zs' (or there are none). -/
def RowAt (w : World) (ao : Option Addr) (zs : List Int) : Prop :=
  zs = [] ∨ ∃ b off, ao = some ⟨b, off, none⟩ ∧ ∀ i, i < zs.length → w.cell? ⟨b, off + i, none⟩ = some (.int .u8 (zs.getD i 0))

def numB (zs : List Int) : Bool := decide (num zs < 18446744073709551616)
def numZ (zs : List Int) : Int := if numB zs = true then num zs else 0

theorem or8 (v x : Int) (h0 : 0 ≤ v) (h1 : v < 72057594037927936) (hx : 0 ≤ x) (hx' : x < 256) :
    bits .or .u64 (v * 256) x = v * 256 + x :=
  bits_join .u64 64 (by decide) (fun n a b => by rw [IntKind.wrap_u64]; omega) 8 _ _ (by omega) (by omega) (by omega) hx (by omega) (by omega)

theorem take_snocI (zs : List Int) (k : Nat) (h : k < zs.length) : zs.take (k + 1) = zs.take k ++ [zs.getD k 0] := by
  rw [List.take_succ_eq_append_getElem h]; simp [h]

theorem byt_take {zs : List Int} (h : Byt zs) (k : Nat) : Byt (zs.take k) := fun x hx => h x (List.mem_of_mem_take hx)
theorem byt_drop {zs : List Int} (h : Byt zs) (k : Nat) : Byt (zs.drop k) := fun x hx => h x (List.mem_of_mem_drop hx)
theorem byt_getD {zs : List Int} (h : Byt zs) (k : Nat) : 0 ≤ zs.getD k 0 ∧ zs.getD k 0 < 256 := by
  by_cases hk : k < zs.length
  · have : zs.getD k 0 = zs[k] := by simp [hk]
    rw [this]; exact h _ (List.getElem_mem hk)
  · simp [hk]

/-- A number that is too great already only grows. -/
theorem num_over {zs : List Int} (h : Byt zs) (k : Nat) (hk : k < zs.length) (ho : 72057594037927936 ≤ num (zs.take k)) : numB zs = false := by
  have e : zs = zs.take k ++ zs.getD k 0 :: zs.drop (k + 1) := by
    have h1 := List.take_append_drop (k + 1) zs
    rw [take_snocI zs k hk] at h1
    simpa using h1.symm
  have := num_more (zs.take k) (zs.getD k 0) (zs.drop (k + 1)) (byt_take h k) (byt_getD h k).1 (byt_drop h _)
  rw [← e] at this
  unfold numB
  simp; omega

set_option maxHeartbeats 400000 in
theorem number_any (ao : Option Addr) (cap : Nat) (zs : List Int) (w : World) (hr : RowAt w ao zs) (hb : Byt zs) (hl : zs.length ≤ maxLen) :
    Calls Try.prog 21 #[.slice ao zs.length cap] w fun e w' => e = .returned (.tuple #[.int .u64 (numZ zs), .bool (numB zs)]) ∧ w' = w := by
  unfold maxLen at hl
  go_enter Try.func21, Try.ntmps21
  go_wp2
  go_loop [4, 9] (fun v i => ∃ k : Nat, k ≤ zs.length ∧ i = .int .i64 k ∧ v = .int .u64 (num (zs.take k)) ∧ num (zs.take k) < 18446744073709551616) (fun _ i => zs.length - (intOf i).toNat)
  case atStart => exact ⟨0, Nat.zero_le _, rfl, rfl, by simp [num]⟩
  case round =>
    obtain ⟨k, hk, rfl, rfl, hv⟩ := hrel
    have hn0 := (num_bd (zs.take k) (byt_take hb k)).1
    by_cases hlt : k < zs.length
    · have hx := byt_getD hb k
      have hsn : Hid (num (zs.take (k + 1)) = num (zs.take k) * 256 + zs.getD k 0) := by rw [take_snocI zs k hlt]; exact num_snoc _ _
      rcases hr with h | ⟨b, off, rfl, hcell⟩
      · subst h; simp at hlt
      have hc := hcell k hlt
      have hov := num_over hb k hlt
      generalize num (zs.take k) = p at *
      generalize zs.getD k 0 = x at *
      by_cases ho : p < 72057594037927936
      · have ht : (p / 72057594037927936 != 0) = false := by simp; omega
        have e8 := or8 p x hn0 ho hx.1 hx.2
        clear hov hcell
        go_wp2
        go_round
        case rel => exact ⟨k + 1, by omega, by go_num, by rw [hsn.out], by rw [hsn.out]; omega⟩
        case measure => simp [intOf]; omega
      · have ht : (p / 72057594037927936 != 0) = true := by simp; omega
        have HB : Hid (numB zs = false) := hov (by omega)
        clear hov hcell
        go_wp2
        go_ret2
        exact ⟨ret_int_bool (by simp [numZ, HB.out]) HB.out.symm, rfl⟩
    · have e : zs.take k = zs := List.take_of_length_le (by omega)
      rw [e] at hv ⊢
      have HB : Hid (numB zs = true) := by show numB zs = true; unfold numB; simp; omega
      go_wp2
      go_ret2
      exact ⟨ret_int_bool (by simp [numZ, HB.out]) HB.out.symm, rfl⟩
set_option maxHeartbeats 400000 in
theorem numberR_any (ao : Option Addr) (cap : Nat) (zs : List Int) (w : World) (hr : RowAt w ao zs) (hb : Byt zs) (hl : zs.length ≤ maxLen) :
    Calls Try.prog 22 #[.slice ao zs.length cap] w fun e w' => e = .returned (.tuple #[.int .u64 (numZ zs), .bool (numB zs)]) ∧ w' = w := by
  unfold maxLen at hl
  go_enter Try.func22, Try.ntmps22
  go_wp2
  go_loop [4, 5] (fun v i => ∃ k : Nat, k ≤ zs.length ∧ i = .int .i64 k ∧ v = .int .u64 (num (zs.take k)) ∧ num (zs.take k) < 18446744073709551616) (fun _ i => zs.length - (intOf i).toNat)
  case atStart => exact ⟨0, Nat.zero_le _, rfl, rfl, by simp [num]⟩
  case round =>
    obtain ⟨k, hk, rfl, rfl, hv⟩ := hrel
    have hn0 := (num_bd (zs.take k) (byt_take hb k)).1
    by_cases hlt : k < zs.length
    · have hx := byt_getD hb k
      have hsn : Hid (num (zs.take (k + 1)) = num (zs.take k) * 256 + zs.getD k 0) := by rw [take_snocI zs k hlt]; exact num_snoc _ _
      rcases hr with h | ⟨b, off, rfl, hcell⟩
      · subst h; simp at hlt
      have hc := hcell k hlt
      have hov := num_over hb k hlt
      generalize num (zs.take k) = p at *
      generalize zs.getD k 0 = x at *
      by_cases ho : p < 72057594037927936
      · have ht : (p / 72057594037927936 != 0) = false := by simp; omega
        have e8 := or8 p x hn0 ho hx.1 hx.2
        clear hov hcell
        go_wp2
        go_round
        case rel => exact ⟨k + 1, by omega, by go_num, by rw [hsn.out], by rw [hsn.out]; omega⟩
        case measure => simp [intOf]; omega
      · have ht : (p / 72057594037927936 != 0) = true := by simp; omega
        have HB : Hid (numB zs = false) := hov (by omega)
        clear hov hcell
        go_wp2
        go_ret2
        exact ⟨ret_int_bool (by simp [numZ, HB.out]) HB.out.symm, rfl⟩
    · have e : zs.take k = zs := List.take_of_length_le (by omega)
      rw [e] at hv ⊢
      have HB : Hid (numB zs = true) := by show numB zs = true; unfold numB; simp; omega
      go_wp2
      go_ret2
      exact ⟨ret_int_bool (by simp [numZ, HB.out]) HB.out.symm, rfl⟩

/-- The number that one to eight bytes are in two's complement. -/
def sgnB (zs : List Int) : Bool := decide (1 ≤ zs.length) && decide (zs.length ≤ 8)
def sgnZ (zs : List Int) : Int := if sgnB zs = true then wrapZ (wrap64 (numZ zs)) (8 * zs.length) else 0

theorem numZ_bd (zs : List Int) (h : Byt zs) : 0 ≤ numZ zs ∧ numZ zs < 18446744073709551616 := by
  unfold numZ numB
  have := num_bd zs h
  by_cases e : num zs < 18446744073709551616
  · simp [e]; omega
  · simp [e]

theorem signed_any (ao : Option Addr) (cap : Nat) (zs : List Int) (w : World) (hr : RowAt w ao zs) (hb : Byt zs) (hl : zs.length ≤ maxLen) :
    Calls Try.prog 23 #[.slice ao zs.length cap] w fun e w' => e = .returned (.tuple #[.int .i64 (sgnZ zs), .bool (sgnB zs)]) ∧ w' = w := by
  have hl' := hl
  unfold maxLen at hl'
  by_cases h1 : zs.length < 1
  · have HB : Hid (sgnB zs = false) := by show sgnB zs = false; unfold sgnB; simp; omega
    go_enter Try.func23, Try.ntmps23
    go_wp2
    go_ret2
    exact ⟨ret_int_bool (by simp [sgnZ, HB.out]) HB.out.symm, rfl⟩
  · by_cases h2 : 8 < zs.length
    · have HB : Hid (sgnB zs = false) := by show sgnB zs = false; unfold sgnB; simp; omega
      go_enter Try.func23, Try.ntmps23
      go_wp2
      go_ret2
      exact ⟨ret_int_bool (by simp [sgnZ, HB.out]) HB.out.symm, rfl⟩
    · have HB : Hid (sgnB zs = true) := by show sgnB zs = true; unfold sgnB; simp; omega
      have hz := numZ_bd zs hb
      go_enter Try.func23, Try.ntmps23
      go_wp2_with (first | (go_at_call 21; refine (number_any _ _ _ _ hr hb hl).mono ?_; rintro e w' ⟨rfl, rfl⟩) | (go_at_call 13; refine (wrap_any _ _ _).mono ?_; rintro e w' ⟨rfl, rfl⟩))
      go_ret2
      exact ⟨ret_int_bool (by simp [sgnZ, HB.out, Int.mul_comm]) HB.out.symm, rfl⟩
theorem signedR_any (ao : Option Addr) (cap : Nat) (zs : List Int) (w : World) (hr : RowAt w ao zs) (hb : Byt zs) (hl : zs.length ≤ maxLen) :
    Calls Try.prog 24 #[.slice ao zs.length cap] w fun e w' => e = .returned (.tuple #[.int .i64 (sgnZ zs), .bool (sgnB zs)]) ∧ w' = w := by
  have hl' := hl
  unfold maxLen at hl'
  by_cases h1 : zs.length < 1
  · have HB : Hid (sgnB zs = false) := by show sgnB zs = false; unfold sgnB; simp; omega
    go_enter Try.func24, Try.ntmps24
    go_wp2
    go_ret2
    exact ⟨ret_int_bool (by simp [sgnZ, HB.out]) HB.out.symm, rfl⟩
  · by_cases h2 : 8 < zs.length
    · have HB : Hid (sgnB zs = false) := by show sgnB zs = false; unfold sgnB; simp; omega
      go_enter Try.func24, Try.ntmps24
      go_wp2
      go_ret2
      exact ⟨ret_int_bool (by simp [sgnZ, HB.out]) HB.out.symm, rfl⟩
    · have HB : Hid (sgnB zs = true) := by show sgnB zs = true; unfold sgnB; simp; omega
      have hz := numZ_bd zs hb
      go_enter Try.func24, Try.ntmps24
      go_wp2_with (first | (go_at_call 22; refine (numberR_any _ _ _ _ hr hb hl).mono ?_; rintro e w' ⟨rfl, rfl⟩) | (go_at_call 14; refine (wrapR_any _ _ _).mono ?_; rintro e w' ⟨rfl, rfl⟩))
      go_ret2
      exact ⟨ret_int_bool (by simp [sgnZ, HB.out]) HB.out.symm, rfl⟩
end Go.Proofs.Ytlgphfchjcpimaa
