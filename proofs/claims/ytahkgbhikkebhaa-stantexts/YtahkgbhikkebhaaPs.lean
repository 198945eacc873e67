/- Which key a text is, and which key is ahead: the program's and the document's. -/
import Derived.Test.YtahkgbhikkebhaaTx
namespace Go.Proofs.Ytahkgbhikkebhaa
open Go.ChangeShapes Go.WideShapes Go.ChangeAt Go.RowKit

theorem pre31 (u : ByteArray) (w : World) (h0 : 1 ≤ u.size) :
    Calls Try.prog 31 #[.string u, .string ⟨#[45]⟩] w fun e w' => e = .returned (.bool ((u.extract 0 1).toList == [45])) ∧ w = w' := by
  go_enter Try.func31, Try.ntmps31
  go_wp2
  go_ret
  exact ⟨rfl, rfl⟩
def cutB (u : ByteArray) : ByteArray := if ((u.extract 0 1).toList == [45]) = true then u.extract 1 u.size else u
theorem cut29 (u : ByteArray) (w : World) (h0 : 1 ≤ u.size) (h1 : u.size ≤ 1000) :
    Calls Try.prog 29 #[.string u, .string ⟨#[45]⟩] w fun e w' => e = .returned (.tuple #[.string (cutB u), .bool ((u.extract 0 1).toList == [45])]) ∧ w = w' := by
  have HP := hid (pre31 u w h0)
  unfold cutB
  generalize ((u.extract 0 1).toList == [45]) = y at *
  cases y
  · rw [if_neg (by decide)]
    go_enter Try.func29, Try.ntmps29
    go_wp2_with (go_at_call 31; refine HP.out.mono ?_; rintro e w2 ⟨rfl, rfl⟩)
    go_ret2
    exact ⟨rfl, rfl⟩
  · rw [if_pos rfl]
    go_enter Try.func29, Try.ntmps29
    go_wp2_with (go_at_call 31; refine HP.out.mono ?_; rintro e w2 ⟨rfl, rfl⟩)
    go_ret2
    exact ⟨rfl, rfl⟩
theorem cut26 (u : ByteArray) (w : World) (h0 : 1 ≤ u.size) (h1 : u.size ≤ 1000) :
    Calls Try.prog 26 #[.string u, .string ⟨#[45]⟩] w fun e w' => e = .returned (.tuple #[.string (cutB u), .bool ((u.extract 0 1).toList == [45])]) ∧ w = w' := by
  have HP := hid (cut29 u w h0 h1)
  generalize ((u.extract 0 1).toList == [45]) = y at *
  generalize cutB u = C at *
  go_enter Try.func26, Try.ntmps26
  go_wp2_with (go_at_call 29; refine HP.out.mono ?_; rintro e w2 ⟨rfl, rfl⟩)
  go_ret2
  exact ⟨rfl, rfl⟩
/-- A sign '-' and a number behind it. -/
def partOk (u : ByteArray) : Bool := ((u.extract 0 1).toList == [45]) && numOk (u.extract 1 u.size)
def partV (u : ByteArray) : Int := if partOk u = true then numV (u.extract 1 u.size) else 0
theorem part22 (u : ByteArray) (w : World) (h0 : 1 ≤ u.size) (h1 : u.size ≤ 1000) :
    Calls Try.prog 22 #[.string u] w fun e w' => e = .returned (.tuple #[.int .i64 (partV u), .bool (partOk u)]) ∧ w = w' := by
  have HP := hid (cut26 u w h0 h1)
  have HN := hid (number8 (u.extract 1 u.size) w (by rw [ByteArray.size_extract]; omega))
  have HV : Hid (numOk (u.extract 1 u.size) = false → numV (u.extract 1 u.size) = 0) := hid fun h => by unfold numV; rw [h]; rfl
  unfold partV partOk
  unfold cutB at HP
  generalize ((u.extract 0 1).toList == [45]) = y at *
  generalize u.extract 1 u.size = D at *
  generalize numV D = v at *
  generalize numOk D = z at *
  cases y
  · rw [if_neg (by decide)] at HP
    go_enter Try.func22, Try.ntmps22
    go_wp2_with (go_at_call 26; refine HP.out.mono ?_; rintro e w2 ⟨rfl, rfl⟩)
    go_ret2
    exact ⟨rfl, rfl⟩
  · rw [if_pos rfl] at HP
    have HR : (if (true && z) = true then v else 0) = v := by
      cases z
      · rw [if_neg (by decide)]; exact (HV.out rfl).symm
      · rfl
    rw [HR, Bool.true_and]
    clear HR HV
    go_enter Try.func22, Try.ntmps22
    go_wp2_with (first
      | (go_at_call 27; refine HN.out.mono ?_; rintro e w3 ⟨rfl, rfl⟩)
      | (go_at_call 26; refine HP.out.mono ?_; rintro e w2 ⟨rfl, rfl⟩))
    go_ret2
    exact ⟨rfl, rfl⟩
/-- Sign i of the text is '-'. -/
def dashAt (s : ByteArray) (i : Nat) : Bool := decide ((s.data.toList.getD i 0).toNat = 45)
/-- The text is a key's. -/
def pOk (s : ByteArray) : Bool := decide (s.size = 13) && (dashAt s 0 && numOk (s.extract 1 6)) && decide (numV (s.extract 1 6) ≤ 65535) && (dashAt s 6 && numOk (s.extract 7 13))
def prs (s : ByteArray) : Value := .tuple #[.agg #[.int .u16 (if pOk s = true then numV (s.extract 1 6) else 0), .int .u32 (if pOk s = true then numV (s.extract 7 13) else 0)], .bool (pOk s)]
theorem prs_no {s : ByteArray} (h : pOk s = false) : prs s = .tuple #[.agg #[.int .u16 0, .int .u32 0], .bool false] := by unfold prs; rw [h]; rfl
theorem prs_yes {s : ByteArray} (h : pOk s = true) : prs s = .tuple #[.agg #[.int .u16 (numV (s.extract 1 6)), .int .u32 (numV (s.extract 7 13))], .bool true] := by unfold prs; rw [h]; rfl
theorem ext_list (s : ByteArray) (a b : Nat) : (s.extract a b).data.toList = (s.data.toList.take b).drop a := by
  rw [ByteArray.data_extract, Array.toList_extract]
  simp [List.extract, List.drop_take]
theorem ext_ext (s : ByteArray) (a b c d e f : Nat) (he : a + c = e) (hf : a + d = f) (hd : a + d ≤ b) : (s.extract a b).extract c d = s.extract e f := by
  subst he hf
  apply ByteArray.ext
  apply Array.toList_inj.1
  rw [ext_list, ext_list, ext_list]
  rw [List.take_drop, List.take_take, List.drop_drop, Nat.min_eq_left hd]
theorem dash_of (s : ByteArray) (a b : Nat) (hab : a < b) (hb : b ≤ s.size) : (((s.extract a b).extract 0 1).toList == [45]) = dashAt s a := by
  rw [ByteArray.toList_eq, ext_ext s a b 0 1 a (a + 1) (by omega) (by omega) (by omega), ext_list]
  have hl : a < s.data.toList.length := by simp; omega
  have hb2 : a < s.data.size := by have : s.data.size = s.size := rfl; omega
  have e : (s.data.toList.take (a + 1)).drop a = [s.data.toList.getD a 0] := by
    rw [List.take_succ_eq_append_getElem hl, List.drop_append_of_le_length (by rw [List.length_take]; omega), List.drop_eq_nil_of_le (by rw [List.length_take]; omega)]
    have hz : a < s.data.size := hb2
    simp [Array.getElem?_eq_getElem hz]
  rw [e]
  unfold dashAt
  generalize s.data.toList.getD a 0 = c
  rw [Bool.eq_iff_iff]
  simp
  constructor
  · intro h; rw [h]; rfl
  · intro h; exact UInt8.toNat_inj.1 h
theorem numV_bd {s : ByteArray} (n : Nat) (h : s.size = n) : 0 ≤ numV s ∧ numV s < 10 ^ n := by
  unfold numV
  split
  · rename_i h1
    refine numD_bd n s.data.toList (by simpa using h) ?_
    unfold numOk at h1
    simp at h1
    exact h1.2
  · exact ⟨by omega, Int.pow_pos (by decide)⟩

theorem part_of (s : ByteArray) (a b : Nat) (hab : a < b) (hb : b ≤ s.size) : partOk (s.extract a b) = (dashAt s a && numOk (s.extract (a + 1) b)) ∧ (partOk (s.extract a b) = true → partV (s.extract a b) = numV (s.extract (a + 1) b)) := by
  have e1 : (s.extract a b).extract 1 (s.extract a b).size = s.extract (a + 1) b := ext_ext s a b 1 _ (a + 1) b rfl (by rw [ByteArray.size_extract]; omega) (by rw [ByteArray.size_extract]; omega)
  refine ⟨by unfold partOk; rw [dash_of s a b hab hb, e1], fun h => ?_⟩
  unfold partV
  rw [if_pos h, e1]
theorem part_no {u : ByteArray} (h : partOk u = false) : partV u = 0 := by unfold partV; rw [h]; rfl
theorem pOk_13 {s : ByteArray} (h : s.size = 13) : pOk s = (partOk (s.extract 0 6) && decide (numV (s.extract 1 6) ≤ 65535) && partOk (s.extract 6 13)) := by
  unfold pOk
  rw [(part_of s 0 6 (by omega) (by omega)).1, (part_of s 6 13 (by omega) (by omega)).1, decide_eq_true h, Bool.true_and]
set_option maxHeartbeats 1000000 in
theorem parse12 (s : ByteArray) (w : World) : Calls Try.prog 12 #[.string s] w fun e w' => e = .returned (prs s) ∧ Below w.heap.size w w' := by
  by_cases h13 : s.size = 13
  · have HP1 : Hid (∀ w, Calls Try.prog 22 #[.string (s.extract 0 6)] w fun e w' => e = .returned (.tuple #[.int .i64 (partV (s.extract 0 6)), .bool (partOk (s.extract 0 6))]) ∧ w = w') :=
      hid fun w => part22 (s.extract 0 6) w (by rw [ByteArray.size_extract]; omega) (by rw [ByteArray.size_extract]; omega)
    have HP2 : Hid (∀ w, Calls Try.prog 22 #[.string (s.extract 6 13)] w fun e w' => e = .returned (.tuple #[.int .i64 (partV (s.extract 6 13)), .bool (partOk (s.extract 6 13))]) ∧ w = w') :=
      hid fun w => part22 (s.extract 6 13) w (by rw [ByteArray.size_extract]; omega) (by rw [ByteArray.size_extract]; omega)
    have HK := hid (pOk_13 h13)
    have HY := hid (prs_yes (s := s))
    have HN := hid (prs_no (s := s))
    obtain ⟨hv10, hv11⟩ := numV_bd (s := s.extract 1 6) 5 (by rw [ByteArray.size_extract]; omega)
    obtain ⟨hv20, hv21⟩ := numV_bd (s := s.extract 7 13) 6 (by rw [ByteArray.size_extract]; omega)
    have HV1 := hid (part_of s 0 6 (by omega) (by omega)).2
    have HV2 := hid (part_of s 6 13 (by omega) (by omega)).2
    have HV3 := hid (part_no (u := s.extract 0 6))
    have HV4 := hid (part_no (u := s.extract 6 13))
    generalize numV (s.extract 1 6) = a at *
    generalize numV (s.extract 7 13) = c at *
    generalize partV (s.extract 0 6) = v1 at *
    generalize partV (s.extract 6 13) = v2 at *
    generalize partOk (s.extract 0 6) = P1 at *
    generalize partOk (s.extract 6 13) = P2 at *
    generalize prs s = R at *
    generalize pOk s = B at *
    have TK := hid True.intro
    cases P1
    · have e := HV3.out rfl
      subst e
      have e := HN.out (HK.out.trans (by simp))
      subst e
      clear HK HY HN HV1 HV2 HV3 HV4 HP2
      go_enter Try.func12, Try.ntmps12
      go_wp2_with (go_at_call 22; have kill := TK.out; refine (HP1.out _).mono ?_; rintro e w1 ⟨rfl, ew⟩; subst ew; clear TK kill)
      simp [bodyPost, results, Try.results12, go_sem]
      exact bel1 _ _
    have e := HV1.out rfl
    subst e
    by_cases ha : v1 ≤ 65535
    · have x1 : IntKind.u16.wrap v1 = v1 := by rw [IntKind.wrap_u16]; omega
      have x2 : IntKind.u32.wrap c = c := by rw [IntKind.wrap_u32]; omega
      cases P2
      · have e := HV4.out rfl
        subst e
        have e := HN.out (HK.out.trans (by simp))
        subst e
        clear HK HY HN HV1 HV2 HV3 HV4
        go_enter Try.func12, Try.ntmps12
        go_wp2_with (first
          | (go_at_call 22; have kill := TK.out; refine (HP1.out _).mono ?_; rintro e w1 ⟨rfl, ew⟩; subst ew; have TJ := hid True.intro; clear TK kill)
          | (go_at_call 22; have kill := TJ.out; refine (HP2.out _).mono ?_; rintro e w1 ⟨rfl, ew⟩; subst ew; clear TJ kill))
        simp [bodyPost, results, Try.results12, go_sem]
        exact bel1 _ _
      · have e := HV2.out rfl
        subst e
        have e := HY.out (HK.out.trans (by simp [ha]))
        subst e
        clear HK HY HN HV1 HV2 HV3 HV4
        go_enter Try.func12, Try.ntmps12
        go_wp2_with (first
          | (go_at_call 22; have kill := TK.out; refine (HP1.out _).mono ?_; rintro e w1 ⟨rfl, ew⟩; subst ew; have TJ := hid True.intro; clear TK kill)
          | (go_at_call 22; have kill := TJ.out; refine (HP2.out _).mono ?_; rintro e w1 ⟨rfl, ew⟩; subst ew; clear TJ kill))
        simp [bodyPost, results, Try.results12, go_sem]
        exact bel1 _ _
    · have e := HN.out (HK.out.trans (by simp [ha]))
      subst e
      clear HK HY HN HV1 HV2 HV3 HV4 HP2
      go_enter Try.func12, Try.ntmps12
      go_wp2_with (go_at_call 22; have kill := TK.out; refine (HP1.out _).mono ?_; rintro e w1 ⟨rfl, ew⟩; subst ew; clear TK kill)
      simp [bodyPost, results, Try.results12, go_sem]
      exact bel1 _ _
  · have hp := prs_no (s := s) (by unfold pOk; rw [decide_eq_false h13]; rfl)
    rw [hp]
    clear hp
    have hd : decide ((s.size : Int) = 13) = false := decide_eq_false (by omega)
    have hd2 : ¬ (s.size : Int) = 13 := by omega
    go_enter Try.func12, Try.ntmps12
    go_wp2
    simp [bodyPost, results, Try.results12, go_sem]
    exact bel1 _ _
def lessL (a s b t : Int) : Bool := if a = b then decide (s < t) else decide (a < b)
theorem less15 (a s b t : Int) (w : World) : Calls Try.prog 15 #[.agg #[.int .u16 a, .int .u32 s], .agg #[.int .u16 b, .int .u32 t]] w fun e w' => e = .returned (.bool (lessL a s b t)) ∧ Below w.heap.size w w' := by
  by_cases h : a = b
  · have e : lessL a s b t = decide (s < t) := if_pos h
    rw [e]
    clear e
    subst h
    go_enter Try.func15, Try.ntmps15
    go_wp2
    go_ret
    exact ⟨rfl, sq (bel1 _ _) (bel1 _ _)⟩
  · have e : lessL a s b t = decide (a < b) := if_neg h
    rw [e]
    clear e
    go_enter Try.func15, Try.ntmps15
    go_wp2
    go_ret
    exact ⟨rfl, sq (bel1 _ _) (bel1 _ _)⟩
theorem less16 (a s b t : Int) (w : World) : Calls Try.prog 16 #[.agg #[.int .u16 a, .int .u32 s], .agg #[.int .u16 b, .int .u32 t]] w fun e w' => e = .returned (.bool (lessL a s b t)) ∧ Below w.heap.size w w' := by
  rcases (show a < b ∨ a = b ∨ b < a by omega) with h | h | h
  · have e : lessL a s b t = true := by unfold lessL; rw [if_neg (by omega)]; exact decide_eq_true h
    rw [e]
    clear e
    go_enter Try.func16, Try.ntmps16
    go_wp2
    go_ret
    exact ⟨rfl, sq (bel1 _ _) (bel1 _ _)⟩
  · have e : lessL a s b t = decide (s < t) := if_pos h
    rw [e]
    clear e
    subst h
    go_enter Try.func16, Try.ntmps16
    go_wp2
    go_ret
    exact ⟨rfl, sq (bel1 _ _) (bel1 _ _)⟩
  · have e : lessL a s b t = false := by unfold lessL; rw [if_neg (by omega)]; exact decide_eq_false (by omega)
    rw [e]
    clear e
    have h1 : ¬ a < b := by omega
    have h2 : ¬ a = b := by omega
    go_enter Try.func16, Try.ntmps16
    go_wp2
    go_ret
    exact ⟨rfl, sq (bel1 _ _) (bel1 _ _)⟩
theorem place17 (k : Int) (w : World) (h0 : 0 ≤ k) : Calls Try.prog 17 #[.int .i64 k, .int .i64 3] w fun e w' => (∃ z : Int, e = .returned (.int .i64 z) ∧ 0 ≤ z) ∧ w = w' := by
  obtain ⟨z, hz, z0, z1⟩ : ∃ z, k.tmod 3 = z ∧ 0 ≤ z ∧ z < 3 := ⟨k % 3, by rw [Int.tmod_eq_emod_of_nonneg h0], by omega, by omega⟩
  go_enter Try.func17, Try.ntmps17
  go_wp2
  go_ret
  exact ⟨⟨z, rfl, z0⟩, rfl⟩
end Go.Proofs.Ytahkgbhikkebhaa
