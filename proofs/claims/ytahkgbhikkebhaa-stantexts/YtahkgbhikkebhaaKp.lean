/- Which key a text is, the document's. -/
import Derived.Test.YtahkgbhikkebhaaPs
namespace Go.Proofs.Ytahkgbhikkebhaa
open Go.ChangeShapes Go.WideShapes Go.ChangeAt Go.RowKit

theorem dashAt_get (s : ByteArray) (i : Nat) (h : i < s.size) : dashAt s i = decide (((s[i]'h).toNat : Int) = 45) := by
  have e : s.data.toList.getD i 0 = s[i]'h := by
    have hz : i < s.data.size := h
    simp [Array.getElem?_eq_getElem hz]
    rfl
  unfold dashAt
  rw [e, Bool.eq_iff_iff]
  simp
  omega
set_option maxHeartbeats 1000000 in
theorem kparse14 (s : ByteArray) (w : World) : Calls Try.prog 14 #[.string s] w fun e w' => e = .returned (prs s) ∧ Below w.heap.size w w' := by
  by_cases h13 : s.size = 13
  · have i0 := dashAt_get s 0 (by omega)
    have i6 := dashAt_get s 6 (by omega)
    have HN1 : Hid (∀ w, Calls Try.prog 24 #[.string (s.extract 1 6)] w fun e w' => e = .returned (.tuple #[.int .i64 (numV (s.extract 1 6)), .bool (numOk (s.extract 1 6))]) ∧ w = w') := hid fun w => num9 _ w (by rw [ByteArray.size_extract]; omega)
    have HN2 : Hid (∀ w, Calls Try.prog 24 #[.string (s.extract 7 13)] w fun e w' => e = .returned (.tuple #[.int .i64 (numV (s.extract 7 13)), .bool (numOk (s.extract 7 13))]) ∧ w = w') := hid fun w => num9 _ w (by rw [ByteArray.size_extract]; omega)
    have HK : Hid (pOk s = (decide (s.size = 13) && (dashAt s 0 && numOk (s.extract 1 6)) && decide (numV (s.extract 1 6) ≤ 65535) && (dashAt s 6 && numOk (s.extract 7 13)))) := rfl
    have HY := hid (prs_yes (s := s))
    have HN := hid (prs_no (s := s))
    obtain ⟨hv10, hv11⟩ := numV_bd (s := s.extract 1 6) 5 (by rw [ByteArray.size_extract]; omega)
    obtain ⟨hv20, hv21⟩ := numV_bd (s := s.extract 7 13) 6 (by rw [ByteArray.size_extract]; omega)
    generalize numV (s.extract 1 6) = v1 at *
    generalize numV (s.extract 7 13) = v2 at *
    generalize numOk (s.extract 1 6) = z1 at *
    generalize numOk (s.extract 7 13) = z2 at *
    generalize dashAt s 0 = d0 at *
    generalize dashAt s 6 = d6 at *
    generalize prs s = R at *
    generalize pOk s = B at *
    have TK := hid True.intro
    by_cases g0 : ((s[0]'(by omega)).toNat : Int) = 45
    · rw [decide_eq_true g0] at i0
      subst i0
      by_cases g6 : ((s[6]'(by omega)).toNat : Int) = 45
      · rw [decide_eq_true g6] at i6
        subst i6
        cases z1
        · have e := HN.out (HK.out.trans (by simp))
          subst e
          clear HK HY HN
          go_enter Try.func14, Try.ntmps14
          go_wp2_with (first
            | (go_at_call 24; have kill := TK.out; refine (HN1.out _).mono ?_; rintro e w1 ⟨rfl, ew⟩; subst ew; have TJ := hid True.intro; clear TK kill)
            | (go_at_call 24; have kill := TJ.out; refine (HN2.out _).mono ?_; rintro e w1 ⟨rfl, ew⟩; subst ew; clear TJ kill))
          simp [bodyPost, results, Try.results14, go_sem]
          exact bel1 _ _
        cases z2
        · have e := HN.out (HK.out.trans (by simp))
          subst e
          clear HK HY HN
          go_enter Try.func14, Try.ntmps14
          go_wp2_with (first
            | (go_at_call 24; have kill := TK.out; refine (HN1.out _).mono ?_; rintro e w1 ⟨rfl, ew⟩; subst ew; have TJ := hid True.intro; clear TK kill)
            | (go_at_call 24; have kill := TJ.out; refine (HN2.out _).mono ?_; rintro e w1 ⟨rfl, ew⟩; subst ew; clear TJ kill))
          simp [bodyPost, results, Try.results14, go_sem]
          exact bel1 _ _
        by_cases ha : v1 ≤ 65535
        · have x1 : IntKind.u16.wrap v1 = v1 := by rw [IntKind.wrap_u16]; omega
          have x2 : IntKind.u32.wrap v2 = v2 := by rw [IntKind.wrap_u32]; omega
          have e := HY.out (HK.out.trans (by simp [h13, ha]))
          subst e
          clear HK HY HN
          go_enter Try.func14, Try.ntmps14
          go_wp2_with (first
            | (go_at_call 24; have kill := TK.out; refine (HN1.out _).mono ?_; rintro e w1 ⟨rfl, ew⟩; subst ew; have TJ := hid True.intro; clear TK kill)
            | (go_at_call 24; have kill := TJ.out; refine (HN2.out _).mono ?_; rintro e w1 ⟨rfl, ew⟩; subst ew; clear TJ kill))
          simp [bodyPost, results, Try.results14, go_sem]
          exact bel1 _ _
        · have e := HN.out (HK.out.trans (by simp [ha]))
          subst e
          clear HK HY HN
          go_enter Try.func14, Try.ntmps14
          go_wp2_with (first
            | (go_at_call 24; have kill := TK.out; refine (HN1.out _).mono ?_; rintro e w1 ⟨rfl, ew⟩; subst ew; have TJ := hid True.intro; clear TK kill)
            | (go_at_call 24; have kill := TJ.out; refine (HN2.out _).mono ?_; rintro e w1 ⟨rfl, ew⟩; subst ew; clear TJ kill))
          simp [bodyPost, results, Try.results14, go_sem]
          exact bel1 _ _
      · rw [decide_eq_false g6] at i6
        subst i6
        have e := HN.out (HK.out.trans (by simp))
        subst e
        clear HK HY HN HN1 HN2
        go_enter Try.func14, Try.ntmps14
        go_wp2
        simp [bodyPost, results, Try.results14, go_sem]
        exact bel1 _ _
    · rw [decide_eq_false g0] at i0
      subst i0
      have e := HN.out (HK.out.trans (by simp))
      subst e
      clear HK HY HN HN1 HN2
      go_enter Try.func14, Try.ntmps14
      go_wp2
      simp [bodyPost, results, Try.results14, go_sem]
      exact bel1 _ _
  · have hp := prs_no (s := s) (by unfold pOk; rw [decide_eq_false h13]; rfl)
    rw [hp]
    clear hp
    have hd2 : ¬ (s.size : Int) = 13 := by omega
    go_enter Try.func14, Try.ntmps14
    go_wp2
    simp [bodyPost, results, Try.results14, go_sem]
    exact bel1 _ _
end Go.Proofs.Ytahkgbhikkebhaa
