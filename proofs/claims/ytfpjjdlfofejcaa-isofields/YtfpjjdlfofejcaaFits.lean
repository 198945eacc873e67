/- A value fits in length; its signs are right. -/
import Derived.Test.YtfpjjdlfofejcaaOf
import Derived.Test.YtfpjjdlfofejcaaThere
import Derived.Test.YtfpjjdlfofejcaaDigP
namespace Go.Proofs.Ytfpjjdlfofejcaa
open Go.ChangeShapes Go.WideShapes Go.ChangeAt Go.RowKit

def fitI (L V len : Int) : Bool := if V = 0 then decide (len = L) else decide (1 ≤ len) && decide (len ≤ L)
theorem fits12 (D : Bool) (L V len : Int) (w : World) :
    Calls Try.prog 35 #[.agg #[.bool D, .int .i64 L, .int .i64 V], .int .i64 len] w fun e w' => e = .returned (.bool (fitI L V len)) ∧ Below w.heap.size w w' := by
  by_cases hV : V = 0
  · subst hV
    go_enter Try.func35, Try.ntmps35
    go_wp2
    go_ret
    exact ⟨rfl, bel1 _ _⟩
  · by_cases h1 : 1 ≤ len
    · go_enter Try.func35, Try.ntmps35
      go_wp2
      go_ret
      exact ⟨by unfold fitI; simp [hV, h1], bel1 _ _⟩
    · go_enter Try.func35, Try.ntmps35
      go_wp2
      go_ret
      exact ⟨by unfold fitI; rw [if_neg hV, decide_eq_false (p := 1 ≤ len) (by omega)]; rfl, bel1 _ _⟩
def prB (l : List UInt8) : Bool := l.all fun c => decide (32 ≤ (c.toNat : Int) ∧ (c.toNat : Int) ≤ 126)
theorem pr_snoc (l : List UInt8) (c : UInt8) : prB (l ++ [c]) = (prB l && decide (32 ≤ (c.toNat : Int) ∧ (c.toNat : Int) ≤ 126)) := by simp [prB]
theorem pr_more {s : ByteArray} {k : Nat} (h : prB (s.data.toList.take k) = false) : prB s.data.toList = false := by
  rw [← List.take_append_drop k s.data.toList]
  unfold prB at *
  rw [List.all_append, h]; rfl
theorem pr_all {s : ByteArray} {k : Nat} (h : prB (s.data.toList.take k) = true) (hk : s.size ≤ k) : prB s.data.toList = true := by
  rwa [List.take_of_length_le (by simpa using hk)] at h
def sgnB (D : Bool) (s : ByteArray) : Bool := if D = true then digB s.data.toList else prB s.data.toList
theorem signs_dig (L V : Int) (s : ByteArray) (w : World) (hs : s.size ≤ 1000000) :
    Calls Try.prog 36 #[.agg #[.bool true, .int .i64 L, .int .i64 V], .string s] w fun e w' => e = .returned (.bool (digB s.data.toList)) ∧ Below w.heap.size w w' := by
  cases hd : digB s.data.toList
  · have HD := hid hd
    clear hd
    go_enter Try.func36, Try.ntmps36
    go_wp2_with (go_at_call 39; refine (pack_no s _ hs HD.out).mono ?_; rintro e w1 ⟨rfl, l1⟩; have L1 := hid (sq (bel1 w _) l1); clear l1)
    go_ret
    exact ⟨rfl, L1.out⟩
  · have HD := hid hd
    clear hd
    go_enter Try.func36, Try.ntmps36
    go_wp2_with (go_at_call 39; refine (pack_yes s _ hs HD.out).mono ?_; rintro e w1 ⟨rfl, rfl⟩)
    go_ret
    exact ⟨rfl, sq (bel1 w _) (bel1 _ _)⟩
theorem signs_txt (L V : Int) (s : ByteArray) (w : World) (hs : s.size ≤ 9223372036854775807) :
    Calls Try.prog 36 #[.agg #[.bool false, .int .i64 L, .int .i64 V], .string s] w fun e w' => e = .returned (.bool (prB s.data.toList)) ∧ Below w.heap.size w w' := by
  go_enter Try.func36, Try.ntmps36
  go_wp2
  go_loopw [18] (fun i wr => ∃ k : Nat, k ≤ s.size ∧ i = .int .i64 (k : Int) ∧ prB (s.data.toList.take k) = true ∧ Below w.heap.size w wr) (fun i _ => s.size - (intOf i).toNat)
  case atStart => exact ⟨0, Nat.zero_le _, rfl, rfl, bel1 _ _⟩
  case round =>
    obtain ⟨k, hk, rfl, hD, hb⟩ := hrel
    have HD := hid hD
    have HB := hid hb
    clear hD hb
    by_cases hlt : k < s.size
    · have HN : Hid (prB (s.data.toList.take (k + 1)) = decide (32 ≤ (s[k].toNat : Int) ∧ (s[k].toNat : Int) ≤ 126)) := by
        unfold Hid; rw [take_snocU s k hlt, pr_snoc, HD.out, Bool.true_and]
      by_cases h0 : (s[k].toNat : Int) < 32
      · have HF : Hid (prB s.data.toList = false) := pr_more (HN.out.trans (decide_eq_false (by omega)))
        clear HN HD
        go_wp2
        go_ret
        exact ⟨by rw [HF.out]; rfl, HB.out⟩
      · by_cases h1 : 126 < (s[k].toNat : Int)
        · have HF : Hid (prB s.data.toList = false) := pr_more (HN.out.trans (decide_eq_false (by omega)))
          clear HN HD
          go_wp2
          go_ret
          exact ⟨by rw [HF.out]; rfl, HB.out⟩
        · have HT : Hid (prB (s.data.toList.take (k + 1)) = true) := HN.out.trans (decide_eq_true (by omega))
          clear HN HD
          go_wp2
          go_roundw
          case rel => exact ⟨k + 1, by omega, by go_num, HT.out, HB.out⟩
          case measure => simp [intOf]; omega
    · have HT : Hid (prB s.data.toList = true) := pr_all HD.out (by omega)
      go_wp2
      go_ret
      exact ⟨by rw [HT.out]; rfl, HB.out⟩
end Go.Proofs.Ytfpjjdlfofejcaa
