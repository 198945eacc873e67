/- Texts of keys stand in the same line as the keys. No function is walked. -/
import Derived.Test.YtahkgbhikkebhaaPs
namespace Go.Proofs.Ytahkgbhikkebhaa
open Go.ChangeShapes Go.WideShapes Go.ChangeAt Go.RowKit

abbrev bl := Op.bytesLess
theorem bl_app : ∀ (x x' y y' : List UInt8), x.length = x'.length → bl (x ++ y) (x' ++ y') = (bl x x' || (x == x' && bl y y'))
  | [], [], y, y', _ => by simp [bl, Op.bytesLess]
  | a :: x, b :: x', y, y', h => by
    have ih := bl_app x x' y y' (by simpa using h)
    simp only [List.cons_append, bl, Op.bytesLess] at ih ⊢
    rw [ih]
    by_cases e : a = b
    · subst e
      simp
    · have e2 : (a == b) = false := by simpa using e
      simp [e2]
  | [], _ :: _, _, _, h => by simp at h
  | _ :: _, [], _, _, h => by simp at h
theorem bl_self : ∀ x : List UInt8, bl x x = false
  | [] => rfl
  | a :: x => by
    have := bl_self x
    simp only [bl, Op.bytesLess] at this ⊢
    rw [this]
    simp
def decU (v : Int) (m : Nat) : List UInt8 := (strOfNums (decL v m)).data.toList
theorem decU_len (v : Int) (m : Nat) : (decU v m).length = m := by unfold decU; rw [strOfNums_data]; simp [decL_length]
theorem decU_succ (v : Int) (m : Nat) : decU v (m + 1) = decU (v / 10) m ++ [UInt8.ofNat (48 + v % 10).toNat] := by
  unfold decU; rw [strOfNums_data, strOfNums_data, decL, List.map_append]; rfl
theorem decU_inj {v v' : Int} {m : Nat} (h0 : 0 ≤ v) (h1 : v < 10 ^ m) (h0' : 0 ≤ v') (h1' : v' < 10 ^ m) : decU v m = decU v' m ↔ v = v' := by
  constructor
  · intro h
    have e := congrArg numD h
    unfold decU at e
    rw [decL_num, decL_num, Int.emod_eq_of_lt h0 h1, Int.emod_eq_of_lt h0' h1'] at e
    exact e
  · rintro rfl; rfl
theorem digit_lt (x y : Int) (hx : 0 ≤ x ∧ x < 10) (hy : 0 ≤ y ∧ y < 10) : (UInt8.ofNat (48 + x).toNat < UInt8.ofNat (48 + y).toNat) ↔ x < y := by
  rw [UInt8.lt_iff_toNat_lt, UInt8.toNat_ofNat', UInt8.toNat_ofNat']
  omega
theorem bl_dec (m : Nat) : ∀ (v v' : Int), 0 ≤ v → v < 10 ^ m → 0 ≤ v' → v' < 10 ^ m → bl (decU v m) (decU v' m) = decide (v < v') := by
  induction m with
  | zero =>
    intro v v' h0 h1 h0' h1'
    have e : v = v' := by simp at h1 h1'; omega
    subst e
    rw [bl_self]
    simp
  | succ m ih =>
    intro v v' h0 h1 h0' h1'
    rw [Int.pow_succ] at h1 h1'
    have a0 : 0 ≤ v / 10 := by omega
    have a1 : v / 10 < 10 ^ m := by omega
    have b0 : 0 ≤ v' / 10 := by omega
    have b1 : v' / 10 < 10 ^ m := by omega
    rw [decU_succ, decU_succ, bl_app _ _ _ _ (by rw [decU_len, decU_len]), ih _ _ a0 a1 b0 b1]
    have e1 : (decU (v / 10) m == decU (v' / 10) m) = decide (v / 10 = v' / 10) := by
      rw [Bool.eq_iff_iff]; simp [decU_inj a0 a1 b0 b1]
    have e2 : bl [UInt8.ofNat (48 + v % 10).toNat] [UInt8.ofNat (48 + v' % 10).toNat] = decide (v % 10 < v' % 10) := by
      rw [Bool.eq_iff_iff]
      simp only [bl, Op.bytesLess, Bool.and_false, Bool.or_false, decide_eq_true_eq]
      exact digit_lt _ _ (by omega) (by omega)
    rw [e1, e2, Bool.eq_iff_iff]
    simp
    omega
theorem text_list {t s : Int} (h0 : 0 ≤ t) (h1 : t < 100000) (s0 : 0 ≤ s) (s1 : s < 1000000) : (textL t s).toList = 45 :: (decU t 5 ++ 45 :: decU s 6) := by
  have k5 : digOk t 5 = true := by unfold digOk; simp; omega
  have k6 : digOk s 6 = true := by unfold digOk; simp; omega
  have e5 : digS t 5 = strOfNums (decL t 5) := by unfold digS; rw [if_pos k5]; rfl
  have e6 : digS s 6 = strOfNums (decL s 6) := by unfold digS; rw [if_pos k6]; rfl
  unfold textL decU
  rw [if_pos k6, e5, e6, ByteArray.toList_eq]
  simp
theorem text_less {a s b t : Int} (h0 : 0 ≤ a) (h1 : a < 65536) (s0 : 0 ≤ s) (s1 : s < 1000000) (h0' : 0 ≤ b) (h1' : b < 65536) (s0' : 0 ≤ t) (s1' : t < 1000000) : Op.bytesLess (textL a s).toList (textL b t).toList = lessL a s b t := by
  rw [text_list h0 (by omega) s0 s1, text_list h0' (by omega) s0' s1']
  show bl _ _ = _
  rw [show (45 :: (decU a 5 ++ 45 :: decU s 6)) = [45] ++ (decU a 5 ++ ([45] ++ decU s 6)) from rfl, show (45 :: (decU b 5 ++ 45 :: decU t 6)) = [45] ++ (decU b 5 ++ ([45] ++ decU t 6)) from rfl]
  rw [bl_app _ _ _ _ rfl, bl_app _ _ _ _ (by rw [decU_len, decU_len]), bl_app _ _ _ _ rfl, bl_self, bl_dec 5 a b h0 (by omega) h0' (by omega), bl_dec 6 s t s0 (by omega) s0' (by omega)]
  have e1 : (decU a 5 == decU b 5) = decide (a = b) := by
    rw [Bool.eq_iff_iff]; simp [decU_inj (m := 5) h0 (by omega) h0' (by omega)]
  rw [e1]
  unfold lessL
  by_cases e : a = b
  · subst e; simp
  · simp [e]
end Go.Proofs.Ytahkgbhikkebhaa
