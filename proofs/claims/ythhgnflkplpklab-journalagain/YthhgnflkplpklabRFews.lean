/- Which records are right: by the program and by the document's. -/
import Derived.Test.YthhgnflkplpklabRMem
namespace Go.Proofs.Ythhgnflkplpklab.Frm
open Go.ChangeShapes Go.WideShapes Go.ChangeAt Go.RowKit

theorem take_snocU (s : ByteArray) (k : Nat) (h : k < s.size) : s.data.toList.take (k + 1) = s.data.toList.take k ++ [s[k]] := by
  rw [List.take_succ_eq_append_getElem (by simpa using h)]; rfl
theorem dig_snoc (l : List UInt8) (c : UInt8) : digB (l ++ [c]) = (digB l && decide (48 ≤ (c.toNat : Int) ∧ (c.toNat : Int) ≤ 57)) := by simp [digB]
theorem dig_more {s : ByteArray} {k : Nat} (h : digB (s.data.toList.take k) = false) : digB s.data.toList = false := by
  rw [← List.take_append_drop k s.data.toList]
  unfold digB at *
  rw [List.all_append, h]; rfl
theorem dig_all {s : ByteArray} {k : Nat} (h : digB (s.data.toList.take k) = true) (hk : s.size ≤ k) : digB s.data.toList = true := by
  rwa [List.take_of_length_le (by simpa using hk)] at h
set_option maxHeartbeats 400000 in
theorem pan_fit (s : ByteArray) (w : World) (hs : s.size ≤ 9223372036854775807) (hsz : s.size ≤ 19) :
    Calls Try.prog 52 #[.string s] w fun e w' => e = .returned (.bool (panB s)) ∧ w = w' := by
  have hn : ¬ 19 < s.size := by omega
  go_enter Try.func52, Try.ntmps52
  go_wp2
  go_loop [9] (fun i => ∃ k : Nat, k ≤ s.size ∧ i = .int .i64 (k : Int) ∧ digB (s.data.toList.take k) = true) (fun i => s.size - (intOf i).toNat)
  case atStart => exact ⟨0, by omega, rfl, rfl⟩
  case round =>
    obtain ⟨k, hk, rfl, hd⟩ := hrel
    have HD := hid hd
    clear hd
    by_cases hlt : k < s.size
    · have HN : Hid (digB (s.data.toList.take (k + 1)) = decide (48 ≤ (s[k].toNat : Int) ∧ (s[k].toNat : Int) ≤ 57)) := by
        unfold Hid; rw [take_snocU s k hlt, dig_snoc, HD.out, Bool.true_and]
      by_cases h1 : (s[k].toNat : Int) < 48
      · have HF := hid (dig_more (k := k + 1) (HN.out.trans (by simp; omega)))
        clear HN HD
        go_wp2
        go_ret
        exact ⟨ret_bool (by first | exact HF.out.symm | simp [panB, HF.out]), rfl⟩
      · by_cases h2 : 57 < (s[k].toNat : Int)
        · have HF := hid (dig_more (k := k + 1) (HN.out.trans (by simp; omega)))
          clear HN HD
          go_wp2
          go_ret
          exact ⟨ret_bool (by first | exact HF.out.symm | simp [panB, HF.out]), rfl⟩
        · have HT : Hid (digB (s.data.toList.take (k + 1)) = true) := HN.out.trans (decide_eq_true ⟨by omega, by omega⟩)
          clear HN HD
          go_wp2
          go_round
          case rel => exact ⟨k + 1, by omega, by go_num, HT.out⟩
          case measure => simp [intOf]; omega
    · have HT := hid (dig_all HD.out (by omega))
      go_wp2
      go_ret
      exact ⟨ret_bool (by simp [panB, HT.out, hsz]), rfl⟩
theorem pan_any (s : ByteArray) (w : World) (hs : s.size ≤ 9223372036854775807) :
    Calls Try.prog 52 #[.string s] w fun e w' => e = .returned (.bool (panB s)) ∧ w = w' := by
  by_cases h : s.size ≤ 19
  · exact pan_fit s w hs h
  · have HF : Hid (panB s = false) := by unfold Hid panB; simp [h]
    have hn : 19 < s.size := by omega
    go_enter Try.func52, Try.ntmps52
    go_wp2
    go_ret
    exact ⟨ret_bool HF.out.symm, rfl⟩
def four (a b c d : Int) : Nat → Int
  | 0 => a
  | 1 => b
  | 2 => c
  | _ => d
theorem few_no {a b c d : Int} (j : Nat) (hj : j < 4) (h : ¬ (0 ≤ four a b c d j ∧ four a b c d j ≤ 10000)) : fewB a b c d = false := by
  cases e : fewB a b c d
  · rfl
  · rw [fewB_iff] at e
    have h4 : j = 0 ∨ j = 1 ∨ j = 2 ∨ j = 3 := by omega
    rcases h4 with rfl | rfl | rfl | rfl <;> simp only [four] at h <;> omega
theorem index4 (x0 x1 x2 x3 : Int) (w : World) :
    (Instr.index 37 (.agg #[.int .i64 x0, .int .i64 x1, .int .i64 x2, .int .i64 x3]) (.int .i64 0)).run Try.prog w = .ok (.int .i64 x0) w ∧
    (Instr.index 37 (.agg #[.int .i64 x0, .int .i64 x1, .int .i64 x2, .int .i64 x3]) (.int .i64 1)).run Try.prog w = .ok (.int .i64 x1) w ∧
    (Instr.index 37 (.agg #[.int .i64 x0, .int .i64 x1, .int .i64 x2, .int .i64 x3]) (.int .i64 2)).run Try.prog w = .ok (.int .i64 x2) w ∧
    (Instr.index 37 (.agg #[.int .i64 x0, .int .i64 x1, .int .i64 x2, .int .i64 x3]) (.int .i64 3)).run Try.prog w = .ok (.int .i64 x3) w := by
  refine ⟨?_, ?_, ?_, ?_⟩ <;> kernel_rfl
set_option maxHeartbeats 1000000 in
theorem counts_any (x0 x1 x2 x3 : Int) (w : World) :
    Calls Try.prog 53 #[.agg #[.int .i64 x0, .int .i64 x1, .int .i64 x2, .int .i64 x3]] w fun e w' => e = .returned (.bool (fewB x0 x1 x2 x3)) ∧ Below w.heap.size w w' := by
  have HNO : Hid (∀ j, j < 4 → ¬ (0 ≤ four x0 x1 x2 x3 j ∧ four x0 x1 x2 x3 j ≤ 10000) → fewB x0 x1 x2 x3 = false) := fun j hj h => few_no j hj h
  have i0 := fun w => (index4 x0 x1 x2 x3 w).1
  have i1 := fun w => (index4 x0 x1 x2 x3 w).2.1
  have i2 := fun w => (index4 x0 x1 x2 x3 w).2.2.1
  have i3 := fun w => (index4 x0 x1 x2 x3 w).2.2.2
  go_enter Try.func53, Try.ntmps53
  go_wp2
  go_loop [6] (fun i => ∃ k : Nat, k ≤ 4 ∧ i = .int .i64 (k : Int) ∧ ∀ j, j < k → 0 ≤ four x0 x1 x2 x3 j ∧ four x0 x1 x2 x3 j ≤ 10000) (fun i => 4 - (intOf i).toNat)
  case atStart => exact ⟨0, by omega, rfl, fun j hj => by omega⟩
  case round =>
    obtain ⟨k, hk, rfl, hd⟩ := hrel
    have HD := hid hd
    clear hd
    by_cases hlt : k < 4
    · have h4 : k = 0 ∨ k = 1 ∨ k = 2 ∨ k = 3 := by omega
      rcases h4 with rfl | rfl | rfl | rfl
      · by_cases h1 : x0 < 0
        · have HF : Hid (fewB x0 x1 x2 x3 = false) := HNO.out 0 (by omega) (by show ¬ (0 ≤ x0 ∧ x0 ≤ 10000); omega)
          go_wp2
          go_ret
          exact ⟨ret_bool HF.out.symm, bel1 _ _⟩
        · by_cases h2 : 10000 < x0
          · have HF : Hid (fewB x0 x1 x2 x3 = false) := HNO.out 0 (by omega) (by show ¬ (0 ≤ x0 ∧ x0 ≤ 10000); omega)
            go_wp2
            go_ret
            exact ⟨ret_bool HF.out.symm, bel1 _ _⟩
          · go_wp2
            go_round
            case rel => exact ⟨1, by omega, by go_num, fun j hj => by
              by_cases e : j = 0
              · subst e; show 0 ≤ x0 ∧ x0 ≤ 10000; omega
              · exact HD.out j (by omega)⟩
            case measure => simp [intOf]
      · by_cases h1 : x1 < 0
        · have HF : Hid (fewB x0 x1 x2 x3 = false) := HNO.out 1 (by omega) (by show ¬ (0 ≤ x1 ∧ x1 ≤ 10000); omega)
          go_wp2
          go_ret
          exact ⟨ret_bool HF.out.symm, bel1 _ _⟩
        · by_cases h2 : 10000 < x1
          · have HF : Hid (fewB x0 x1 x2 x3 = false) := HNO.out 1 (by omega) (by show ¬ (0 ≤ x1 ∧ x1 ≤ 10000); omega)
            go_wp2
            go_ret
            exact ⟨ret_bool HF.out.symm, bel1 _ _⟩
          · go_wp2
            go_round
            case rel => exact ⟨2, by omega, by go_num, fun j hj => by
              by_cases e : j = 1
              · subst e; show 0 ≤ x1 ∧ x1 ≤ 10000; omega
              · exact HD.out j (by omega)⟩
            case measure => simp [intOf]
      · by_cases h1 : x2 < 0
        · have HF : Hid (fewB x0 x1 x2 x3 = false) := HNO.out 2 (by omega) (by show ¬ (0 ≤ x2 ∧ x2 ≤ 10000); omega)
          go_wp2
          go_ret
          exact ⟨ret_bool HF.out.symm, bel1 _ _⟩
        · by_cases h2 : 10000 < x2
          · have HF : Hid (fewB x0 x1 x2 x3 = false) := HNO.out 2 (by omega) (by show ¬ (0 ≤ x2 ∧ x2 ≤ 10000); omega)
            go_wp2
            go_ret
            exact ⟨ret_bool HF.out.symm, bel1 _ _⟩
          · go_wp2
            go_round
            case rel => exact ⟨3, by omega, by go_num, fun j hj => by
              by_cases e : j = 2
              · subst e; show 0 ≤ x2 ∧ x2 ≤ 10000; omega
              · exact HD.out j (by omega)⟩
            case measure => simp [intOf]
      · by_cases h1 : x3 < 0
        · have HF : Hid (fewB x0 x1 x2 x3 = false) := HNO.out 3 (by omega) (by show ¬ (0 ≤ x3 ∧ x3 ≤ 10000); omega)
          go_wp2
          go_ret
          exact ⟨ret_bool HF.out.symm, bel1 _ _⟩
        · by_cases h2 : 10000 < x3
          · have HF : Hid (fewB x0 x1 x2 x3 = false) := HNO.out 3 (by omega) (by show ¬ (0 ≤ x3 ∧ x3 ≤ 10000); omega)
            go_wp2
            go_ret
            exact ⟨ret_bool HF.out.symm, bel1 _ _⟩
          · go_wp2
            go_round
            case rel => exact ⟨4, by omega, by go_num, fun j hj => by
              by_cases e : j = 3
              · subst e; show 0 ≤ x3 ∧ x3 ≤ 10000; omega
              · exact HD.out j (by omega)⟩
            case measure => simp [intOf]
    · have HT : Hid (fewB x0 x1 x2 x3 = true) := fewB_iff.2 ⟨HD.out 0 (by omega), HD.out 1 (by omega), HD.out 2 (by omega), HD.out 3 (by omega)⟩
      have ek : k = 4 := by omega
      subst ek
      go_wp2
      go_ret
      exact ⟨ret_bool HT.out.symm, bel1 _ _⟩
end Go.Proofs.Ythhgnflkplpklab.Frm
