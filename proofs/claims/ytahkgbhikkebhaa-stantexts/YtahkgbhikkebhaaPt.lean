/- What a key's text is read as. No function is walked. -/
import Derived.Test.YtahkgbhikkebhaaKp
namespace Go.Proofs.Ytahkgbhikkebhaa
open Go.ChangeShapes Go.WideShapes Go.ChangeAt Go.RowKit

theorem text_data {t s : Int} (k5 : digOk t 5 = true) (k6 : digOk s 6 = true) : (textL t s).data.toList = 45 :: ((digS t 5).data.toList ++ 45 :: (digS s 6).data.toList) ∧ (digS t 5).data.toList.length = 5 ∧ (digS s 6).data.toList.length = 6 := by
  have e5 : digS t 5 = strOfNums (decL t 5) := by unfold digS; rw [if_pos k5]; rfl
  have e6 : digS s 6 = strOfNums (decL s 6) := by unfold digS; rw [if_pos k6]; rfl
  refine ⟨?_, ?_, ?_⟩
  · unfold textL
    rw [if_pos k6]
    simp
  · rw [e5, strOfNums_data]; simp [decL_length]
  · rw [e6, strOfNums_data]; simp [decL_length]
theorem prs_text_yes {t s : Int} (h0 : 0 ≤ t) (h1 : t < 65536) (s0 : 0 ≤ s) (s1 : s ≤ 999999) : prs (textL t s) = .tuple #[.agg #[.int .u16 t, .int .u32 s], .bool true] := by
  have k5 : digOk t 5 = true := by unfold digOk; simp; omega
  have k6 : digOk s 6 = true := by unfold digOk; simp; omega
  obtain ⟨hd, l5, l6⟩ := text_data k5 k6
  obtain ⟨b5, v5⟩ := digS_back k5
  obtain ⟨b6, v6⟩ := digS_back k6
  have hz : (textL t s).size = 13 := by
    have : (textL t s).data.toList.length = 13 := by rw [hd]; simp [l5, l6]
    simpa using this
  have x1 : (textL t s).extract 1 6 = digS t 5 := by
    apply ByteArray.ext; apply Array.toList_inj.1
    rw [ext_list, hd]
    simp [List.take_left' l5]
  have x2 : (textL t s).extract 7 13 = digS s 6 := by
    apply ByteArray.ext; apply Array.toList_inj.1
    rw [ext_list, hd, List.take_of_length_le (by simp [l5, l6])]
    rw [show (45 :: ((digS t 5).data.toList ++ 45 :: (digS s 6).data.toList)) = (45 :: (digS t 5).data.toList ++ [45]) ++ (digS s 6).data.toList by simp]
    exact List.drop_left' (by simp [l5])
  have hp : pOk (textL t s) = true := by
    unfold pOk dashAt
    rw [x1, x2, b5, b6, v5, hz, hd]
    have g6 : (45 :: ((digS t 5).data.toList ++ 45 :: (digS s 6).data.toList)).getD 6 0 = 45 := by
      rw [List.getD_eq_getElem?_getD, List.getElem?_cons_succ, List.getElem?_append_right (by omega), l5]; rfl
    rw [g6]
    simp
    omega
  rw [prs_yes hp, x1, x2, v5, v6]
theorem prs_text_no {t s : Int} (s1 : 999999 < s) : textL t s = ⟨#[]⟩ ∧ prs (textL t s) = .tuple #[.agg #[.int .u16 0, .int .u32 0], .bool false] := by
  have k6 : digOk s 6 = false := by unfold digOk; simp; omega
  have e : textL t s = ⟨#[]⟩ := by unfold textL; rw [k6]; rfl
  exact ⟨e, by rw [e]; exact prs_no (by decide)⟩
theorem prs_text {t s : Int} (h0 : 0 ≤ t) (h1 : t < 65536) (s0 : 0 ≤ s) : ∃ m0 m1, prs (textL t s) = .tuple #[.agg #[.int .u16 m0, .int .u32 m1], .bool (decide (s ≤ 999999))] ∧ (s ≤ 999999 → m0 = t ∧ m1 = s) := by
  by_cases h : s ≤ 999999
  · rw [decide_eq_true h]
    exact ⟨t, s, prs_text_yes h0 h1 s0 h, fun _ => ⟨rfl, rfl⟩⟩
  · rw [decide_eq_false h]
    exact ⟨0, 0, (prs_text_no (t := t) (by omega)).2, fun k => absurd k h⟩
theorem prs_any (s : ByteArray) : ∃ m0 m1 o, prs s = .tuple #[.agg #[.int .u16 m0, .int .u32 m1], .bool o] := ⟨_, _, _, rfl⟩
theorem less_self (a s : Int) : lessL a s a s = false := by unfold lessL; simp
end Go.Proofs.Ytahkgbhikkebhaa
