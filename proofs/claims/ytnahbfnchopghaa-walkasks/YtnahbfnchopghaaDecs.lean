/- Decimals as inputs. No function is walked. -/
import Derived.Test.YtnahbfnchopghaaKnown
namespace Go.Proofs.Ytnahbfnchopghaa
open Go.ChangeShapes Go.WideShapes Go.ChangeAt Go.RowKit

theorem data_app (a b : ByteArray) : (a ++ b).data.toList = a.data.toList ++ b.data.toList := by simp
theorem one_dig {d : Int} (h0 : 0 ≤ d) (h1 : d < 10) : ∃ c : UInt8, (strOfNums [48 + d]).data.toList = [c] ∧ (c.toNat : Int) = 48 + d := by
  refine ⟨UInt8.ofNat (48 + d).toNat, by simp [strOfNums], ?_⟩
  exact ofNat_toNat (48 + d) (by omega) (by omega)
theorem decS_all (n : Nat) : ∀ v : Int, 0 ≤ v → v.toNat ≤ n → digB (decS v).data.toList = true ∧ numD (decS v).data.toList = v ∧ 1 ≤ (decS v).size := by
  induction n using Nat.strongRecOn with
  | _ n ih =>
    intro v h0 hn
    by_cases h : v < 10
    · obtain ⟨c, e, hc⟩ := one_dig h0 h
      rw [decS_small h0 h, e]
      have hz : (strOfNums [48 + v]).size = 1 := rfl
      refine ⟨?_, ?_, by omega⟩
      · simp [digB]; omega
      · simp [numD]; omega
    · obtain ⟨q1, q2, q3⟩ := ih (v / 10).toNat (by omega) (v / 10) (by omega) (Nat.le_refl _)
      obtain ⟨c, e, hc⟩ := one_dig (d := v % 10) (by omega) (by omega)
      rw [decS_more (by omega), data_app, e]
      refine ⟨?_, ?_, ?_⟩
      · rw [dig_snoc, q1]; simp; omega
      · rw [numD_snoc, q2]; omega
      · rw [ByteArray.size_append]; omega
theorem decS_dig {v : Int} (h : 0 ≤ v) : digB (decS v).data.toList = true := (decS_all v.toNat v h (Nat.le_refl _)).1
theorem decS_num {v : Int} (h : 0 ≤ v) : numD (decS v).data.toList = v := (decS_all v.toNat v h (Nat.le_refl _)).2.1
theorem decS_one {v : Int} (h : 0 ≤ v) : 1 ≤ (decS v).size := (decS_all v.toNat v h (Nat.le_refl _)).2.2
theorem decS_sz1 {v : Int} (h : 0 ≤ v) (h1 : v < 10) : (decS v).size = 1 := by
  obtain ⟨c, e, _⟩ := one_dig h h1
  rw [decS_small h h1]
  rfl
theorem decS_szm {v : Int} (h : 10 ≤ v) : (decS v).size = (decS (v / 10)).size + 1 := by
  obtain ⟨c, e, _⟩ := one_dig (d := v % 10) (by omega) (by omega)
  have : (strOfNums [48 + v % 10]).size = 1 := rfl
  rw [decS_more h, ByteArray.size_append, this]
theorem decS_le {v : Int} (k : Nat) (h : 0 ≤ v) (hv : v < 10 ^ (k + 1)) : (decS v).size ≤ k + 1 := by
  induction k generalizing v with
  | zero => rw [decS_sz1 h (by simpa using hv)]; exact Nat.le_refl _
  | succ k ih =>
    by_cases h1 : v < 10
    · rw [decS_sz1 h h1]; omega
    · rw [decS_szm (by omega)]
      have := ih (v := v / 10) (by omega) (by rw [Int.pow_succ] at hv; omega)
      omega
theorem pin_dec {n : Int} (h0 : 0 ≤ n) (h1 : n < 65536) : pinB (decS n) = (decide (1000 ≤ n) && decide (n ≤ 9999)) := by
  by_cases a : 1000 ≤ n
  · have e1 := decS_szm (v := n) (by omega)
    have e2 := decS_szm (v := n / 10) (by omega)
    have e3 := decS_szm (v := n / 10 / 10) (by omega)
    by_cases b : n ≤ 9999
    · have e4 := decS_sz1 (v := n / 10 / 10 / 10) (by omega) (by omega)
      have e : (decS n).size = 4 := by omega
      rw [pin_4 e, (numOk_yes (by omega) (by omega) (decS_dig h0)).1, decide_eq_true a, decide_eq_true b]; rfl
    · have e4 := decS_szm (v := n / 10 / 10 / 10) (by omega)
      have e5 := decS_one (v := n / 10 / 10 / 10 / 10) (by omega)
      rw [pin_n4 (by omega), decide_eq_false b]; simp
  · have := decS_le (v := n) 2 h0 (by omega)
    rw [pin_n4 (by omega), decide_eq_false a]; rfl
/-- How a text of four digits is told. -/
def goodK (s : ByteArray) (k : Nat) : Bool := decide (s.size = 4) && digB (s.data.toList.take k)
theorem good_all (s : ByteArray) : goodK s s.size = pinB s := by
  unfold goodK
  rw [take_all s s.size (Nat.le_refl _)]
  by_cases h : s.size = 4
  · rw [pin_4 h, decide_eq_true h, Bool.true_and]
    unfold numOk
    rw [decide_eq_true (show 1 ≤ s.size by omega), decide_eq_true (show s.size ≤ 18 by omega)]; rfl
  · rw [pin_n4 h, decide_eq_false h]; rfl
theorem good_zero (s : ByteArray) : goodK s 0 = decide (s.size = 4) := by unfold goodK; simp [digB]
theorem good_step {s : ByteArray} {k : Nat} (h : k < s.size) : goodK s (k + 1) = (goodK s k && decide (48 ≤ (s[k].toNat : Int) ∧ (s[k].toNat : Int) ≤ 57)) := by
  unfold goodK
  rw [take_snocU s k h, dig_snoc, Bool.and_assoc]
def L3 : List St := [⟨0, 66, 1, 2⟩, ⟨1, 90, 0, 0⟩, ⟨2, 90, 0, 0⟩]
theorem pins_run (x : ByteArray) : runL L3 0 [x] = ⟨if pinB x = true then 1 else 2, 1, false, ⟨#[]⟩, 0⟩ := by
  have e : nxL L3 (Wk.new 0 ([x].take 100)) = ⟨⟨if pinB x = true then 1 else 2, 1, false, ⟨#[]⟩, 0⟩, ⟨#[]⟩, 0, []⟩ := by rfl
  unfold runL
  rw [show (200 : Nat) = 199 + 1 from rfl, runK_go (by rfl), e]
  cases pinB x
  · rw [runK_stop (by rfl)]
  · rw [runK_stop (by rfl)]
end Go.Proofs.Ytnahbfnchopghaa
