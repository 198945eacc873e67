/- Which values of a field are right, by the document; which messages. -/
import Derived.Test.YtfpjjdlfofejcaaRights
namespace Go.Proofs.Ytfpjjdlfofejcaa
open Go.ChangeShapes Go.WideShapes Go.ChangeAt Go.RowKit

theorem of7' (n : Int) (w : World) : Calls Try.prog 10 #[.int .i64 n] w fun e w' => e = .returned (.tuple #[.agg #[.bool (fD n), .int .i64 (fL n : Int), .int .i64 (fV n : Int)], .bool (fK n)]) ∧ Below w.heap.size w w' := of7 n w
theorem sgn_pr (s : ByteArray) : sgnB false s = prB s.data.toList := rfl
theorem sgn_dig (s : ByteArray) : sgnB true s = digB s.data.toList := rfl
set_option maxHeartbeats 4000000 in
theorem right24 (n : Int) (s : ByteArray) (w : World) (hs : s.size ≤ 9223372036854775807) :
    Calls Try.prog 24 #[.int .i64 n, .string s] w fun e w' => e = .returned (.bool (rightB n s)) ∧ Below w.heap.size w w' := by
  have hof := of7' n w
  have hV0 : (0 : Int) ≤ fV n := by omega
  have HB9 := hid hs
  have hr : rightB n s = (fK n && fitI (fL n) (fV n) s.size && sgnB (fD n) s) := rfl
  generalize rightB n s = R at *
  generalize fD n = D at *
  generalize (fL n : Int) = L at *
  generalize (fV n : Int) = V at *
  cases hK : fK n
  · rw [hK] at hof hr
    have HO : Hid (R = false) := by unfold Hid; rw [hr]; rfl
    clear hK hr
    go_enter Try.func24, Try.ntmps24
    go_wp2_with (go_at_call 10; refine hof.mono ?_; rintro e w1 ⟨rfl, l1⟩; have L1 := hid (sq l1 (bel1 w1 (.cells #[.bool D, .int .i64 L, .int .i64 V] 35))); clear l1 hof)
    go_ret
    exact ⟨ret_bool HO.out.symm, L1.out⟩
  · rw [hK] at hof hr
    clear hK
    by_cases hV : V = 0
    · subst hV
      have HFi : Hid (fitI L 0 s.size = decide ((s.size : Int) = L)) := rfl
      by_cases hL : (s.size : Int) = L
      · have HO : Hid (R = sgnB D s) := by unfold Hid; rw [hr, HFi.out, decide_eq_true hL]; rfl
        clear hr HFi hV0
        cases D
        · go_enter Try.func24, Try.ntmps24
          go_wp2_with (go_at_call 10; refine hof.mono ?_; rintro e w1 ⟨rfl, l1⟩; have L1 := hid (sq l1 (bel1 w1 (.cells #[.bool false, .int .i64 L, .int .i64 0] 35))); clear l1 hof)
          go_loopw [7] (fun i wr => ∃ k : Nat, k ≤ s.size ∧ i = .int .i64 (k : Int) ∧ prB (s.data.toList.take k) = true ∧ Below w.heap.size w wr) (fun i _ => s.size - (intOf i).toNat)
          case atStart => exact ⟨0, Nat.zero_le _, rfl, rfl, L1.out⟩
          case round =>
            obtain ⟨k, hk, rfl, hD, hb⟩ := hrel
            have HD := hid hD
            have HB := hid hb
            clear hD hb L1
            by_cases hlt : k < s.size
            · have HN : Hid (prB (s.data.toList.take (k + 1)) = decide (32 ≤ (s[k].toNat : Int) ∧ (s[k].toNat : Int) ≤ 126)) := by
                unfold Hid; rw [take_snocU s k hlt, pr_snoc, HD.out, Bool.true_and]
              by_cases h0 : (s[k].toNat : Int) < 32
              · have HF : Hid (prB s.data.toList = false) := pr_more (HN.out.trans (decide_eq_false (by omega)))
                clear HN HD
                go_wp2
                go_ret
                exact ⟨ret_bool (by rw [HO.out]; exact HF.out.symm), HB.out⟩
              · by_cases h1 : 126 < (s[k].toNat : Int)
                · have HF : Hid (prB s.data.toList = false) := pr_more (HN.out.trans (decide_eq_false (by omega)))
                  clear HN HD
                  go_wp2
                  go_ret
                  exact ⟨ret_bool (by rw [HO.out]; exact HF.out.symm), HB.out⟩
                · have HT : Hid (prB (s.data.toList.take (k + 1)) = true) := HN.out.trans (decide_eq_true (by omega))
                  clear HN HD
                  go_wp2
                  go_roundw
                  case rel => exact ⟨k + 1, by omega, by go_num, HT.out, HB.out⟩
                  case measure => simp [intOf]; omega
            · have HT : Hid (prB s.data.toList = true) := pr_all HD.out (by omega)
              go_wp2
              go_ret
              exact ⟨ret_bool (by rw [HO.out]; exact HT.out.symm), HB.out⟩
        · go_enter Try.func24, Try.ntmps24
          go_wp2_with (first | (go_at_call 37; have kill := L1.out; refine (dig37 s _ HB9.out).mono ?_; rintro e w2 ⟨rfl, rfl⟩; have L2 := hid L1.out; clear L1 kill) | (go_at_call 10; refine hof.mono ?_; rintro e w1 ⟨rfl, l1⟩; have L1 := hid (sq l1 (bel1 w1 (.cells #[.bool true, .int .i64 L, .int .i64 0] 35))); clear l1 hof))
          go_ret
          exact ⟨ret_bool (by rw [HO.out]; rfl), L2.out⟩
      · have HO : Hid (R = false) := by unfold Hid; rw [hr, HFi.out, decide_eq_false hL]; rfl
        clear hr HFi hV0
        go_enter Try.func24, Try.ntmps24
        go_wp2_with (go_at_call 10; refine hof.mono ?_; rintro e w1 ⟨rfl, l1⟩; have L1 := hid (sq l1 (bel1 w1 (.cells #[.bool D, .int .i64 L, .int .i64 0] 35))); clear l1 hof)
        go_ret
        exact ⟨ret_bool HO.out.symm, L1.out⟩
    · have hV1 : decide ((0 : Int) < V) = true := decide_eq_true (by omega)
      have HFi : Hid (fitI L V s.size = (decide ((1 : Int) ≤ s.size) && decide ((s.size : Int) ≤ L))) := by unfold Hid fitI; rw [if_neg hV]
      clear hV0
      by_cases h1 : (s.size : Int) < 1
      · have HO : Hid (R = false) := by unfold Hid; rw [hr, HFi.out, show decide ((1 : Int) ≤ s.size) = false from decide_eq_false (by omega)]; rfl
        clear hr HFi
        go_enter Try.func24, Try.ntmps24
        go_wp2_with (go_at_call 10; refine hof.mono ?_; rintro e w1 ⟨rfl, l1⟩; have L1 := hid (sq l1 (bel1 w1 (.cells #[.bool D, .int .i64 L, .int .i64 V] 35))); clear l1 hof)
        go_ret
        exact ⟨ret_bool HO.out.symm, L1.out⟩
      · by_cases hL : L < (s.size : Int)
        · have HO : Hid (R = false) := by unfold Hid; rw [hr, HFi.out, show decide ((s.size : Int) ≤ L) = false from decide_eq_false (by omega), Bool.and_false]; rfl
          clear hr HFi
          go_enter Try.func24, Try.ntmps24
          go_wp2_with (go_at_call 10; refine hof.mono ?_; rintro e w1 ⟨rfl, l1⟩; have L1 := hid (sq l1 (bel1 w1 (.cells #[.bool D, .int .i64 L, .int .i64 V] 35))); clear l1 hof)
          go_ret
          exact ⟨ret_bool HO.out.symm, L1.out⟩
        · have HO : Hid (R = sgnB D s) := by unfold Hid; rw [hr, HFi.out, show decide ((1 : Int) ≤ s.size) = true from decide_eq_true (by omega), show decide ((s.size : Int) ≤ L) = true from decide_eq_true (by omega)]; rfl
          clear hr HFi
          cases D
          · go_enter Try.func24, Try.ntmps24
            go_wp2_with (go_at_call 10; refine hof.mono ?_; rintro e w1 ⟨rfl, l1⟩; have L1 := hid (sq l1 (bel1 w1 (.cells #[.bool false, .int .i64 L, .int .i64 V] 35))); clear l1 hof)
            go_loopw [7] (fun i wr => ∃ k : Nat, k ≤ s.size ∧ i = .int .i64 (k : Int) ∧ prB (s.data.toList.take k) = true ∧ Below w.heap.size w wr) (fun i _ => s.size - (intOf i).toNat)
            case atStart => exact ⟨0, Nat.zero_le _, rfl, rfl, L1.out⟩
            case round =>
              obtain ⟨k, hk, rfl, hD, hb⟩ := hrel
              have HD := hid hD
              have HB := hid hb
              clear hD hb L1
              by_cases hlt : k < s.size
              · have HN : Hid (prB (s.data.toList.take (k + 1)) = decide (32 ≤ (s[k].toNat : Int) ∧ (s[k].toNat : Int) ≤ 126)) := by
                  unfold Hid; rw [take_snocU s k hlt, pr_snoc, HD.out, Bool.true_and]
                by_cases h0 : (s[k].toNat : Int) < 32
                · have HF : Hid (prB s.data.toList = false) := pr_more (HN.out.trans (decide_eq_false (by omega)))
                  clear HN HD
                  go_wp2
                  go_ret
                  exact ⟨ret_bool (by rw [HO.out]; exact HF.out.symm), HB.out⟩
                · by_cases h1 : 126 < (s[k].toNat : Int)
                  · have HF : Hid (prB s.data.toList = false) := pr_more (HN.out.trans (decide_eq_false (by omega)))
                    clear HN HD
                    go_wp2
                    go_ret
                    exact ⟨ret_bool (by rw [HO.out]; exact HF.out.symm), HB.out⟩
                  · have HT : Hid (prB (s.data.toList.take (k + 1)) = true) := HN.out.trans (decide_eq_true (by omega))
                    clear HN HD
                    go_wp2
                    go_roundw
                    case rel => exact ⟨k + 1, by omega, by go_num, HT.out, HB.out⟩
                    case measure => simp [intOf]; omega
              · have HT : Hid (prB s.data.toList = true) := pr_all HD.out (by omega)
                go_wp2
                go_ret
                exact ⟨ret_bool (by rw [HO.out]; exact HT.out.symm), HB.out⟩
          · go_enter Try.func24, Try.ntmps24
            go_wp2_with (first | (go_at_call 37; have kill := L1.out; refine (dig37 s _ HB9.out).mono ?_; rintro e w2 ⟨rfl, rfl⟩; have L2 := hid L1.out; clear L1 kill) | (go_at_call 10; refine hof.mono ?_; rintro e w1 ⟨rfl, l1⟩; have L1 := hid (sq l1 (bel1 w1 (.cells #[.bool true, .int .i64 L, .int .i64 V] 35))); clear l1 hof))
            go_ret
            exact ⟨ret_bool (by rw [HO.out]; rfl), L2.out⟩
end Go.Proofs.Ytfpjjdlfofejcaa
