/- The small tests: accounts, numbers, letters, fields among fields, kinds. -/
import Derived.Test.YtbipikbefokihaaDoorTiny
import Derived.Test.YtbipikbefokihaaDoorPack
namespace Go.Proofs.YtbipikbefokihaaDoor
open Go.ChangeShapes Go.WideShapes Go.ChangeAt Go.RowKit

theorem pan_no {s : ByteArray} (h : s.size < 1 ∨ 19 < s.size) : panB s = false := by
  unfold panB
  rcases h with h | h
  · rw [decide_eq_false (by omega)]; rfl
  · rw [decide_eq_false (p := s.size ≤ 19) (by omega)]; simp
theorem pan_dig {s : ByteArray} (h1 : 1 ≤ s.size) (h2 : s.size ≤ 19) : panB s = digB s.data.toList := by
  unfold panB
  rw [decide_eq_true h1, decide_eq_true h2]; rfl
set_option maxHeartbeats 1000000 in
theorem isPan42 (s : ByteArray) (w : World) (hs : s.size ≤ 9223372036854775807) :
    Calls Tryd.prog 42 #[.string s] w fun e w' => e = .returned (.bool (panB s)) ∧ Below w.heap.size w w' := by
  rcases (show s.size < 1 ∨ 19 < s.size ∨ (1 ≤ s.size ∧ s.size ≤ 19) by omega) with h | h | ⟨h1, h2⟩
  · have HF := hid (pan_no (s := s) (.inl h))
    go_enter Tryd.func42, Tryd.ntmps42
    go_wp2
    go_ret
    exact ⟨by rw [HF.out]; rfl, Below.refl _ _⟩
  · have HF := hid (pan_no (s := s) (.inr h))
    have h1 : ¬ s.size < 1 := by omega
    go_enter Tryd.func42, Tryd.ntmps42
    go_wp2
    go_ret
    exact ⟨by rw [HF.out]; rfl, Below.refl _ _⟩
  · have HF := hid (pan_dig h1 h2)
    have h3 : ¬ s.size < 1 := by omega
    have h4 : ¬ 19 < s.size := by omega
    have h5 := hid (show s.size ≤ 1000000 by omega)
    clear h1 h2
    cases hD : digB s.data.toList
    · have HD := hid hD
      rw [hD] at HF
      clear hD
      go_enter Tryd.func42, Tryd.ntmps42
      go_wp2_with (go_at_call 50; refine (pack_no s _ h5.out HD.out).mono ?_; rintro e w2 ⟨rfl, l2⟩; have L2 := hid l2; clear l2)
      go_ret
      exact ⟨by rw [HF.out]; rfl, L2.out⟩
    · have HD := hid hD
      rw [hD] at HF
      clear hD
      go_enter Tryd.func42, Tryd.ntmps42
      go_wp2_with (go_at_call 50; refine (pack_yes s _ h5.out HD.out).mono ?_; rintro e w2 ⟨rfl, m2⟩; have L2 : Hid (Below w.heap.size w w2) := (by subst m2; exact bel1 _ _); clear m2)
      go_ret
      exact ⟨by rw [HF.out]; rfl, L2.out⟩
set_option maxHeartbeats 1000000 in
theorem pan29 (s : ByteArray) (w : World) (hs : s.size ≤ 9223372036854775807) :
    Calls Tryd.prog 29 #[.string s] w fun e w' => e = .returned (.bool (panB s)) ∧ w = w' := by
  rcases (show s.size < 1 ∨ 19 < s.size ∨ (1 ≤ s.size ∧ s.size ≤ 19) by omega) with h | h | ⟨h1, h2⟩
  · have HF := hid (pan_no (s := s) (.inl h))
    go_enter Tryd.func29, Tryd.ntmps29
    go_wp2
    go_ret
    exact ⟨by rw [HF.out]; rfl, rfl⟩
  · have HF := hid (pan_no (s := s) (.inr h))
    have h1 : 1 ≤ s.size := by omega
    have h3 : decide ((s.size : Int) ≤ 19) = false := by simp; omega
    go_enter Tryd.func29, Tryd.ntmps29
    go_wp2
    go_ret
    exact ⟨by rw [HF.out]; rfl, rfl⟩
  · have HF := hid (pan_dig h1 h2)
    have HS := hid hs
    go_enter Tryd.func29, Tryd.ntmps29
    go_wp2_with (go_at_call 44; refine (dig_any s _ HS.out).mono ?_; rintro e w2 ⟨rfl, rfl⟩)
    go_ret
    exact ⟨by rw [HF.out]; rfl, rfl⟩
/-! Numbers of the one form. -/
def nV (hi : Int) (s : ByteArray) : Int := if numB hi s = true then numV s else 0
def nV10 (s : ByteArray) : Int := if numB10 s = true then numV s else 0
theorem n_no {hi : Int} {s : ByteArray} (h : numB hi s = false) : nV hi s = 0 := by unfold nV; rw [h]; rfl
theorem n10_no {s : ByteArray} (h : numB10 s = false) : nV10 s = 0 := by unfold nV10; rw [h]; rfl
theorem head_nat (s : ByteArray) (h : 0 < s.size) : ((s[0]'h).toNat : Int) = 48 ↔ s.data.toList.getD 0 0 = 48 := by
  have hl : 0 < s.data.toList.length := by simpa using h
  have e : s.data.toList.getD 0 0 = s[0]'h := by
    simp [h]; rfl
  rw [e]
  constructor
  · intro h1; apply UInt8.toNat_inj.1; have : (48 : UInt8).toNat = 48 := rfl
    omega
  · intro h1; rw [h1]; rfl
set_option maxHeartbeats 2000000 in
theorem number45 (s : ByteArray) (hi : Int) (w : World) (hs : s.size ≤ 9223372036854775807) :
    Calls Tryd.prog 45 #[.string s, .int .i64 hi] w fun e w' => e = .returned (.tuple #[.int .i64 (nV hi s), .bool (numB hi s)]) ∧ w = w' := by
  have HS := hid hs
  cases hok : numOk s
  · have HF : Hid (numB hi s = false) := by unfold Hid numB; rw [hok]; rfl
    have HO := hid hok
    have HV : Hid (nV hi s = 0) := n_no HF.out
    clear hok hs
    go_enter Tryd.func45, Tryd.ntmps45
    go_wp2_with (go_at_call 51; refine (number8 s _ HS.out).mono ?_; rintro e w2 ⟨rfl, rfl⟩; rw [HO.out])
    go_ret2
    exact ⟨by rw [HF.out, HV.out]; rfl, rfl⟩
  · have HO := hid hok
    obtain ⟨v, hv⟩ : ∃ v, numV s = v := ⟨_, rfl⟩
    have HN := hid hv
    by_cases h : hi < v
    · have HF : Hid (numB hi s = false) := by unfold Hid numB; rw [hv, decide_eq_false (show ¬ v ≤ hi by omega)]; simp
      have HV : Hid (nV hi s = 0) := n_no HF.out
      clear hok hs hv
      go_enter Tryd.func45, Tryd.ntmps45
      go_wp2_with (go_at_call 51; refine (number8 s _ HS.out).mono ?_; rintro e w2 ⟨rfl, rfl⟩; rw [HO.out, HN.out])
      go_ret2
      exact ⟨by rw [HF.out, HV.out]; rfl, rfl⟩
    · have hle : v ≤ hi := by omega
      by_cases h1 : 1 < s.size
      · have hlt : 0 < s.size := by omega
        obtain ⟨c, hc⟩ : ∃ c : Int, ((s[0]'hlt).toNat : Int) = c := ⟨_, rfl⟩
        have hd := head_nat s hlt
        rw [hc] at hd
        by_cases h48 : c = 48
        · have HF : Hid (numB hi s = false) := by unfold Hid numB leadB; rw [decide_eq_true h1, decide_eq_true (hd.1 h48)]; simp
          have HV : Hid (nV hi s = 0) := n_no HF.out
          clear hok hs hv hd
          subst h48
          go_enter Tryd.func45, Tryd.ntmps45
          go_wp2_with (go_at_call 51; refine (number8 s _ HS.out).mono ?_; rintro e w2 ⟨rfl, rfl⟩; rw [HO.out, HN.out])
          go_ret2
          exact ⟨by rw [HF.out, HV.out]; rfl, rfl⟩
        · have HF : Hid (numB hi s = true) := by unfold Hid numB leadB; rw [hok, hv, decide_eq_true hle, decide_eq_false (fun e => h48 (hd.2 e))]; simp
          have HV : Hid (nV hi s = v) := by unfold Hid nV; rw [HF.out, hv]; rfl
          have e48 : (c == 48) = false := by simpa using h48
          clear hok hs hv hd
          go_enter Tryd.func45, Tryd.ntmps45
          go_wp2_with (go_at_call 51; refine (number8 s _ HS.out).mono ?_; rintro e w2 ⟨rfl, rfl⟩; rw [HO.out, HN.out])
          go_ret2
          exact ⟨by rw [HF.out, HV.out]; rfl, rfl⟩
      · have HF : Hid (numB hi s = true) := by unfold Hid numB leadB; rw [hok, hv, decide_eq_true hle, decide_eq_false h1]; rfl
        have HV : Hid (nV hi s = v) := by unfold Hid nV; rw [HF.out, hv]; rfl
        clear hok hs hv
        go_enter Tryd.func45, Tryd.ntmps45
        go_wp2_with (go_at_call 51; refine (number8 s _ HS.out).mono ?_; rintro e w2 ⟨rfl, rfl⟩; rw [HO.out, HN.out])
        go_ret2
        exact ⟨by rw [HF.out, HV.out]; rfl, rfl⟩
set_option maxHeartbeats 2000000 in
theorem number47 (s : ByteArray) (w : World) (hs : s.size ≤ 9223372036854775807) :
    Calls Tryd.prog 47 #[.string s] w fun e w' => e = .returned (.tuple #[.int .i64 (nV10 s), .bool (numB10 s)]) ∧ w = w' := by
  have HS := hid hs
  by_cases h10 : 10 < s.size
  · have HF : Hid (numB10 s = false) := by unfold Hid numB10; rw [decide_eq_false (show ¬ s.size ≤ 10 by omega)]; simp
    have HV : Hid (nV10 s = 0) := n10_no HF.out
    clear hs
    go_enter Tryd.func47, Tryd.ntmps47
    go_wp2
    go_ret2
    exact ⟨by rw [HF.out, HV.out]; rfl, rfl⟩
  · have h10' : s.size ≤ 10 := by omega
    by_cases h1 : 1 < s.size
    · have hlt : 0 < s.size := by omega
      obtain ⟨c, hc⟩ : ∃ c : Int, ((s[0]'hlt).toNat : Int) = c := ⟨_, rfl⟩
      have hd := head_nat s hlt
      rw [hc] at hd
      by_cases h48 : c = 48
      · have HF : Hid (numB10 s = false) := by unfold Hid numB10 leadB; rw [decide_eq_true h1, decide_eq_true (hd.1 h48)]; simp
        have HV : Hid (nV10 s = 0) := n10_no HF.out
        clear hs hd
        subst h48
        go_enter Tryd.func47, Tryd.ntmps47
        go_wp2
        go_ret2
        exact ⟨by rw [HF.out, HV.out]; rfl, rfl⟩
      · have HF : Hid (numB10 s = numOk s) := by unfold Hid numB10 leadB; rw [decide_eq_true h10', decide_eq_false (fun e => h48 (hd.2 e))]; simp
        have HV : Hid (nV10 s = numV s) := by
          unfold Hid nV10; rw [HF.out]
          cases h : numOk s
          · rw [numV, h]; rfl
          · rfl
        have e48 : (c == 48) = false := by simpa using h48
        clear hs hd
        go_enter Tryd.func47, Tryd.ntmps47
        go_wp2_with (go_at_call 53; refine (num9 s _ HS.out).mono ?_; rintro e w2 ⟨rfl, rfl⟩)
        go_ret2
        exact ⟨by rw [HF.out, HV.out]; rfl, rfl⟩
    · have HF : Hid (numB10 s = numOk s) := by unfold Hid numB10 leadB; rw [decide_eq_true h10', decide_eq_false h1]; simp
      have HV : Hid (nV10 s = numV s) := by
        unfold Hid nV10; rw [HF.out]
        cases h : numOk s
        · rw [numV, h]; rfl
        · rfl
      clear hs
      go_enter Tryd.func47, Tryd.ntmps47
      go_wp2_with (go_at_call 53; refine (num9 s _ HS.out).mono ?_; rintro e w2 ⟨rfl, rfl⟩)
      go_ret2
      exact ⟨by rw [HF.out, HV.out]; rfl, rfl⟩
end Go.Proofs.YtbipikbefokihaaDoor
