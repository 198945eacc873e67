/- Unpack: the digits of bytes. -/
import Derived.Test.YtfpjjdlfofejcaaPack
import Derived.BigQuiet
import Derived.Deep.QuietTactic
namespace Go.Proofs.Ytfpjjdlfofejcaa
open Go.ChangeShapes Go.WideShapes Go.ChangeAt Go.RowKit

def two (x : Int) : List Int := [48 + x / 16, 48 + x % 16]
def unL (zs : List Int) : List Int := zs.flatMap two
def nib (x : Int) : Bool := decide (x / 16 < 10) && decide (x % 16 < 10)
def nibB (zs : List Int) : Bool := zs.all nib
theorem unL_len (zs : List Int) : (unL zs).length = 2 * zs.length := by
  induction zs with
  | nil => rfl
  | cons x l ih => rw [unL, List.flatMap_cons, List.length_append, ← unL, ih]; simp [two]; omega
theorem unL_snoc (zs : List Int) (k : Nat) (h : k < zs.length) : unL (zs.take (k + 1)) = unL (zs.take k) ++ two (zs.getD k 0) := by
  rw [take_snocI zs k h, unL, List.flatMap_append]; simp [unL]
theorem nib_snoc (zs : List Int) (k : Nat) (h : k < zs.length) : nibB (zs.take (k + 1)) = (nibB (zs.take k) && nib (zs.getD k 0)) := by
  rw [take_snocI zs k h, nibB, List.all_append]; simp [nibB]
theorem nib_more {zs : List Int} {k : Nat} (h : nibB (zs.take k) = false) : nibB zs = false := by
  rw [← List.take_append_drop k zs]
  unfold nibB at *
  rw [List.all_append, h]; rfl
theorem unL_byt {zs : List Int} (hb : Byt zs) : Byt (unL zs) := by
  intro y hy
  simp [unL, two] at hy
  obtain ⟨x, hx, h⟩ := hy
  have := hb x hx
  rcases h with rfl | rfl <;> omega
theorem unL_head {zs : List Int} (h : 0 < zs.length) : (unL zs).getD 0 0 = 48 + zs.getD 0 0 / 16 := by
  cases zs with
  | nil => simp at h
  | cons x l => simp [unL, two]

def unOk (zs : List Int) (n : Int) : Bool := decide (0 ≤ n) && decide (zs.length = (n.toNat + 1) / 2) && nibB zs && (decide (2 * zs.length ≤ n.toNat) || decide (zs.getD 0 0 / 16 = 0))
def unS (zs : List Int) (n : Int) : ByteArray := if unOk zs n = true then strOfNums ((unL zs).drop (2 * zs.length - n.toNat)) else ⟨#[]⟩
theorem unS_no {zs : List Int} {n : Int} (h : unOk zs n = false) : unS zs n = ⟨#[]⟩ := by unfold unS; rw [h]; rfl
theorem un_neg {zs : List Int} {n : Int} (h : n < 0) : unOk zs n = false := by unfold unOk; rw [decide_eq_false (by omega)]; rfl
theorem un_len {zs : List Int} {n : Nat} (h : ¬ zs.length = (n + 1) / 2) : unOk zs n = false := by unfold unOk; rw [Int.toNat_natCast, decide_eq_false h]; simp
theorem un_nib {zs : List Int} {n : Int} (h : nibB zs = false) : unOk zs n = false := by unfold unOk; rw [h]; simp
theorem un_odd {zs : List Int} {n : Nat} (h : ¬ 2 * zs.length ≤ n) (h' : ¬ zs.getD 0 0 / 16 = 0) : unOk zs n = false := by unfold unOk; rw [Int.toNat_natCast, decide_eq_false h, decide_eq_false h']; simp
theorem un_yes {zs : List Int} {n : Nat} (h1 : zs.length = (n + 1) / 2) (h2 : nibB zs = true) (h3 : 2 * zs.length ≤ n ∨ zs.getD 0 0 / 16 = 0) : unOk zs n = true ∧ unS zs n = strOfNums ((unL zs).drop (2 * zs.length - n)) := by
  have : unOk zs n = true := by
    unfold unOk; rw [Int.toNat_natCast, decide_eq_true h1, h2, decide_eq_true (Int.natCast_nonneg n)]
    rcases h3 with h | h
    · rw [decide_eq_true h]; rfl
    · rw [decide_eq_true h]; simp
  exact ⟨this, by unfold unS; rw [if_pos this]; rfl⟩
theorem ret_str_bool' {a b : ByteArray} {c d : Bool} (h : a = b) (g : c = d) : Ending.returned (.tuple #[.string a, .bool c]) = .returned (.tuple #[.string b, .bool d]) := by rw [h, g]

theorem bytesOf_at (n : Nat) (m : Nat) (w : World) (hd : n ≤ 9223372036854775807) (hm : (n + 1) / 2 = m) :
    Calls Try.prog 50 #[.int .i64 (n : Int)] w fun e w' => e = .returned (.int .i64 (m : Int)) ∧ w = w' := by
  subst hm; exact bytesOf_any n w hd
set_option maxHeartbeats 1000000 in
theorem unpack_neg (ao : Option Addr) (len cap : Nat) (n : Int) (w : World) (h : n < 0) :
    Calls Try.prog 43 #[.slice ao len cap, .int .i64 n] w fun e w' => e = .returned (.tuple #[.string ⟨#[]⟩, .bool false]) ∧ w = w' := by
  go_enter Try.func43, Try.ntmps43
  go_wp2
  go_ret2
  exact ⟨rfl, rfl⟩
set_option maxHeartbeats 1000000 in
theorem unpack_len (ao : Option Addr) (len cap : Nat) (n : Nat) (w : World) (hn : n ≤ 9223372036854775807) (h : ¬ len = (n + 1) / 2) :
    Calls Try.prog 43 #[.slice ao len cap, .int .i64 (n : Int)] w fun e w' => e = .returned (.tuple #[.string ⟨#[]⟩, .bool false]) ∧ w = w' := by
  obtain ⟨m, hm⟩ : ∃ m, (n + 1) / 2 = m := ⟨_, rfl⟩
  rw [hm] at h
  have HM := hid hm
  clear hm
  have h0 : ¬ (n : Int) < 0 := by omega
  have h1 : ((len : Int) != (m : Int)) = true := by simp; omega
  go_enter Try.func43, Try.ntmps43
  go_wp2_with (go_at_call 50; refine (bytesOf_at n m _ hn HM.out).mono ?_; rintro e w2 ⟨rfl, rfl⟩)
  go_ret2
  exact ⟨rfl, rfl⟩
end Go.Proofs.Ytfpjjdlfofejcaa
