/- Accounts of an input; half as many bytes; the accounts that are drawn; decimals. -/
import Derived.Test.YtnahbfnchopghaaTiny
import Derived.Test.YtnahbfnchopghaaDigP
import Derived.Lib.AppendIntMem
import Derived.Lib.ItoaLen
import Derived.Lib.SmallJoins
import Derived.BigQuiet
namespace Go.Proofs.Ytnahbfnchopghaa
open Go.ChangeShapes Go.WideShapes Go.ChangeAt Go.RowKit

def panB (s : ByteArray) : Bool := decide (1 ≤ s.size) && (decide (s.size ≤ 19) && digB s.data.toList)
theorem bytesOf_any (d : Nat) (w : World) (hd : d ≤ 9223372036854775807) :
    Calls Try.prog 33 #[.int .i64 (d : Int)] w fun e w' => e = .returned (.int .i64 (((d + 1) / 2 : Nat) : Int)) ∧ w = w' := by
  obtain ⟨q, hq⟩ : ∃ q : Nat, d / 2 = q := ⟨_, rfl⟩
  obtain ⟨r, hr⟩ : ∃ r : Nat, d % 2 = r := ⟨_, rfl⟩
  have e1 : ((d + 1) / 2 : Nat) = q + r := by omega
  have e2 : (d : Int).tdiv 2 = (q : Int) := by rw [Int.tdiv_eq_ediv_of_nonneg (by omega)]; omega
  have e3 : (d : Int).tmod 2 = (r : Int) := by rw [Int.tmod_eq_emod_of_nonneg (by omega)]; omega
  have e4 : wrap64 ((q : Int) + (r : Int)) = (q : Int) + (r : Int) := by have := IntKind.wrap_i64 ((q : Int) + r); unfold wrap64; omega
  have e5 : wrap64 (q : Int) = (q : Int) := by have := IntKind.wrap_i64 (q : Int); unfold wrap64; omega
  rw [e1]
  clear e1 hq hr
  go_enter Try.func33, Try.ntmps33
  go_wp2
  go_ret
  exact ⟨ret_int (by simpa using e4), rfl⟩
theorem pan_no {s : ByteArray} (h : s.size < 1 ∨ 19 < s.size) : panB s = false := by
  unfold panB
  rcases h with h | h
  · rw [decide_eq_false (by omega)]; rfl
  · rw [decide_eq_false (p := s.size ≤ 19) (by omega)]; simp
theorem pan_dig {s : ByteArray} (h1 : 1 ≤ s.size) (h2 : s.size ≤ 19) : panB s = digB s.data.toList := by
  unfold panB
  rw [decide_eq_true h1, decide_eq_true h2]; rfl
set_option maxHeartbeats 1000000 in
theorem pan20 (s : ByteArray) (w : World) (hs : s.size ≤ 9223372036854775807) :
    Calls Try.prog 19 #[.string s] w fun e w' => e = .returned (.bool (panB s)) ∧ w = w' := by
  rcases (show s.size < 1 ∨ 19 < s.size ∨ (1 ≤ s.size ∧ s.size ≤ 19) by omega) with h | h | ⟨h1, h2⟩
  · have HF := hid (pan_no (s := s) (.inl h))
    go_enter Try.func19, Try.ntmps19
    go_wp2
    go_ret
    exact ⟨by rw [HF.out]; rfl, rfl⟩
  · have HF := hid (pan_no (s := s) (.inr h))
    have h1 : 1 ≤ s.size := by omega
    have h3 : decide ((s.size : Int) ≤ 19) = false := by simp; omega
    go_enter Try.func19, Try.ntmps19
    go_wp2
    go_ret
    exact ⟨by rw [HF.out]; rfl, rfl⟩
  · have HF := hid (pan_dig h1 h2)
    have HS := hid hs
    go_enter Try.func19, Try.ntmps19
    go_wp2_with (go_at_call 25; refine (dig_any s _ HS.out).mono ?_; rintro e w2 ⟨rfl, rfl⟩)
    go_ret
    exact ⟨by rw [HF.out]; rfl, rfl⟩
/-- The accounts that are drawn. -/
def panK (k : Int) : ByteArray :=
  if k % 4 = 0 then ⟨#[52, 48, 48, 48, 49, 50, 51, 52, 49, 50, 51, 52, 49, 50, 51, 52]⟩ else if k % 4 = 1 then ⟨#[53, 49]⟩ else if k % 4 = 2 then ⟨#[57]⟩ else ⟨#[54, 48, 49, 49, 48, 48, 48, 57, 57, 48, 49, 51, 57, 52, 50, 52]⟩
theorem panK_ok (k : Int) : panB (panK k) = true := by
  unfold panK
  split
  · kernel_rfl
  · split
    · kernel_rfl
    · split <;> kernel_rfl
theorem panK_size (k : Int) : (panK k).size ≤ 16 := by
  unfold panK
  split
  · decide
  · split
    · decide
    · split <;> decide
set_option maxHeartbeats 1000000 in
theorem pan12 (k : Int) (w : World) (h0 : 0 ≤ k) : Calls Try.prog 12 #[.int .u8 k] w fun e w' => e = .returned (.string (panK k)) ∧ Below w.heap.size w w' := by
  have hm : k.tmod 4 = k % 4 := Int.tmod_eq_emod_of_nonneg h0
  rcases (show k % 4 = 0 ∨ k % 4 = 1 ∨ k % 4 = 2 ∨ k % 4 = 3 by omega) with h | h | h | h <;> (
    have HK := hid h
    rw [h] at hm
    clear h
    go_enter Try.func12, Try.ntmps12
    go_wp2
    go_ret
    refine ⟨?_, bel1 _ _⟩
    unfold panK
    rw [HK.out]
    rfl)
/-- A number's decimals. -/
def decS (v : Int) : ByteArray := ⟨(Lib.itoa v).toArray⟩
theorem decS_len (v : Int) (h0 : -9223372036854775808 ≤ v) (h1 : v ≤ 9223372036854775807) : (decS v).size ≤ 21 := by
  have := Lib.itoa_length_le v h0 h1
  simpa [decS, ByteArray.size] using this
theorem decS_small {v : Int} (h0 : 0 ≤ v) (h1 : v < 10) : decS v = strOfNums [48 + v] := by
  obtain ⟨u, rfl⟩ : ∃ u : Nat, v = u := ⟨v.toNat, by omega⟩
  have h : u < 10 := by omega
  rw [decS, Lib.itoa_nonneg, Lib.decDigits_one h]
  have e : (48 + (u : Int)).toNat = 48 + u := by omega
  simp [strOfNums, e]
theorem decS_more {v : Int} (h : 10 ≤ v) : decS v = decS (v / 10) ++ strOfNums [48 + v % 10] := by
  obtain ⟨u, rfl⟩ : ∃ u : Nat, v = u := ⟨v.toNat, by omega⟩
  have h1 : ¬ u < 10 := by omega
  have e : ((u : Int) / 10) = ((u / 10 : Nat) : Int) := by omega
  rw [e, decS, decS, Lib.itoa_nonneg, Lib.itoa_nonneg, Lib.decDigits, dif_neg h1]
  have e2 : (48 + (u : Int) % 10).toNat = 48 + u % 10 := by omega
  apply ByteArray.ext
  simp [strOfNums, e2]
set_option maxHeartbeats 2000000 in
theorem dec20 (n : Nat) : ∀ (v : Int) (w : World), 0 ≤ v → v ≤ 9223372036854775807 → v.toNat ≤ n →
    Calls Try.prog 20 #[.int .i64 v] w fun e w' => e = .returned (.string (decS v)) ∧ ∃ m, w' = w.drewN m := by
  induction n using Nat.strongRecOn with
  | _ n ih =>
    intro v w h0 h1 hn
    by_cases h : v < 10
    · have HD := hid (decS_small h0 h)
      have HC := hid (digit_cut v h0 h)
      have hv : v = 0 ∨ v = 1 ∨ v = 2 ∨ v = 3 ∨ v = 4 ∨ v = 5 ∨ v = 6 ∨ v = 7 ∨ v = 8 ∨ v = 9 := by omega
      clear HC h0 h1 hn h ih
      rcases hv with rfl | rfl | rfl | rfl | rfl | rfl | rfl | rfl | rfl | rfl <;> (
        go_enter Try.func20, Try.ntmps20
        go_wp2
        go_ret
        exact ⟨by rw [HD.out]; rfl, 0, rfl⟩)
    · have HD := hid (decS_more (v := v) (by omega))
      obtain ⟨q, hq, q0, q1, q2⟩ : ∃ q, v / 10 = q ∧ 0 ≤ q ∧ q ≤ 9223372036854775807 ∧ q.toNat < n := ⟨_, rfl, by omega, by omega, by omega⟩
      obtain ⟨z, hz, z0, z1⟩ : ∃ z, v % 10 = z ∧ 0 ≤ z ∧ z < 10 := ⟨_, rfl, by omega, by omega⟩
      have hz' : v.tmod 10 = z := by rw [Int.tmod_eq_emod_of_nonneg h0, hz]
      have hq' : v.tdiv 10 = q := by rw [Int.tdiv_eq_ediv_of_nonneg h0, hq]
      have HC : Hid ((ByteArray.mk #[48, 49, 50, 51, 52, 53, 54, 55, 56, 57]).extract z.toNat (z + 1).toNat = strOfNums [48 + z]) := digit_cut z z0 z1
      have hneg : ¬ v < 0 := by omega
      rw [hq, hz] at HD
      have HI := hid (fun w' => ih q.toNat q2 q w' q0 q1 (Nat.le_refl _))
      have hsz : (decS q).size ≤ 21 := decS_len q (by omega) q1
      generalize decS q = t at *
      have hsz2 : ¬ 9223372036854775807 < t.size + (strOfNums [48 + z]).size := by have : (strOfNums [48 + z]).size = 1 := rfl; omega
      clear ih h1 hn q2 hq hz
      go_enter Try.func20, Try.ntmps20
      go_wp2
      have wq : IntKind.i64.wrap q = q := by rw [IntKind.wrap_i64]; omega
      have wz : IntKind.i64.wrap z = z := by rw [IntKind.wrap_i64]; omega
      have wz1 : IntKind.i64.wrap (z + 1) = z + 1 := by rw [IntKind.wrap_i64]; omega
      have HW : Hid (∀ m, Calls Try.prog 20 #[.int .i64 q] (w.drewN m) fun e w'' => e = .returned (.string t) ∧ ∃ j, w'' = w.drewN j) := fun m => Calls.quiet_of (HI.out (w.drewN m))
      go_quiet ((go_at_call 20; exact HW.out _))
      go_wp2
      go_ret
      exact ⟨by rw [HD.out, ← HC.out]; rfl, _, rfl⟩
theorem bel_drewN {B : Nat} {w w' : World} (h : Below B w w') (m : Nat) : Below B w (w'.drewN m) := by
  induction m with
  | zero => exact h
  | succ m ih => exact ih.drew
theorem dec13 (v : Int) (w : World) (h0 : 0 ≤ v) (h1 : v ≤ 9223372036854775807) :
    Calls Try.prog 13 #[.int .i64 v] w fun e w' => e = .returned (.string (decS v)) ∧ Below w.heap.size w w' := by
  have HC := hid (dec20 v.toNat v w h0 h1 (Nat.le_refl _))
  clear h0 h1
  go_enter Try.func13, Try.ntmps13
  go_wp2_with (go_at_call 20; refine HC.out.mono ?_; rintro e w2 ⟨rfl, m, rfl⟩)
  go_ret
  exact ⟨rfl, bel_drewN (Below.refl _ _) m⟩
end Go.Proofs.Ytnahbfnchopghaa
