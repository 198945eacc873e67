/- Number, the program's and the document's: by the same plain function. -/
import Derived.Test.YtnahbfnchopghaaSmall
namespace Go.Proofs.Ytnahbfnchopghaa
open Go.ChangeShapes Go.WideShapes Go.ChangeAt Go.RowKit

/-- The number of a row of digits. -/
def numD (l : List UInt8) : Int := l.foldl (fun v c => v * 10 + ((c.toNat : Int) - 48)) 0
theorem numD_snoc (l : List UInt8) (c : UInt8) : numD (l ++ [c]) = numD l * 10 + ((c.toNat : Int) - 48) := by simp [numD]
theorem dig_split {l : List UInt8} {c : UInt8} (h : digB (l ++ [c]) = true) : digB l = true ∧ 48 ≤ (c.toNat : Int) ∧ (c.toNat : Int) ≤ 57 := by
  rw [dig_snoc] at h; simpa using h
theorem numD_bd (n : Nat) (l : List UInt8) (hn : l.length = n) (h : digB l = true) : 0 ≤ numD l ∧ numD l < 10 ^ n := by
  induction n generalizing l with
  | zero => have : l = [] := List.length_eq_zero_iff.1 hn; subst this; simp [numD]
  | succ n ih =>
    have hne : l ≠ [] := by intro e; subst e; simp at hn
    obtain ⟨m, c, rfl⟩ : ∃ m c, l = m ++ [c] := ⟨l.dropLast, l.getLast hne, (List.dropLast_concat_getLast hne).symm⟩
    obtain ⟨h1, h2, h3⟩ := dig_split h
    have := ih m (by simpa using hn) h1
    rw [numD_snoc, Int.pow_succ]
    omega
theorem pow17 {n : Nat} (h : n ≤ 17) : (10 : Int) ^ n ≤ 100000000000000000 := by
  rw [show (100000000000000000 : Int) = 10 ^ 17 from rfl]
  have := Nat.pow_le_pow_right (n := 10) (by decide) h
  exact_mod_cast this
def numOk (s : ByteArray) : Bool := decide (1 ≤ s.size) && decide (s.size ≤ 18) && digB s.data.toList
def numV (s : ByteArray) : Int := if numOk s = true then numD s.data.toList else 0
theorem numOk_size {s : ByteArray} (h : s.size < 1 ∨ 18 < s.size) : numOk s = false ∧ numV s = 0 := by
  have h1 : numOk s = false := by unfold numOk; rcases h with h | h <;> simp <;> omega
  exact ⟨h1, by unfold numV; rw [h1]; rfl⟩
theorem numOk_dig {s : ByteArray} (h : digB s.data.toList = false) : numOk s = false ∧ numV s = 0 := by
  have h1 : numOk s = false := by unfold numOk; rw [h]; simp
  exact ⟨h1, by unfold numV; rw [h1]; rfl⟩
theorem numOk_yes {s : ByteArray} (h1 : 1 ≤ s.size) (h2 : s.size ≤ 18) (h : digB s.data.toList = true) : numOk s = true ∧ numV s = numD s.data.toList := by
  have h1 : numOk s = true := by unfold numOk; rw [h]; simp [h1, h2]
  exact ⟨h1, by unfold numV; rw [if_pos h1]⟩
theorem take_all (s : ByteArray) (k : Nat) (h : s.size ≤ k) : s.data.toList.take k = s.data.toList := List.take_of_length_le (by simpa using h)
theorem take_len (s : ByteArray) (k : Nat) (h : k ≤ s.size) : (s.data.toList.take k).length = k := by
  rw [List.length_take]; have : s.data.toList.length = s.size := by simp
  omega

set_option maxHeartbeats 1000000 in
theorem number8 (s : ByteArray) (w : World) (hs : s.size ≤ 9223372036854775807) :
    Calls Try.prog 32 #[.string s] w fun e w' => e = .returned (.tuple #[.int .i64 (numV s), .bool (numOk s)]) ∧ w = w' := by
  rcases (show s.size < 1 ∨ 18 < s.size ∨ (1 ≤ s.size ∧ s.size ≤ 18) by omega) with h | h | ⟨h1, h2⟩
  · have HF := hid (numOk_size (s := s) (.inl h))
    rw [HF.out.1, HF.out.2]
    go_enter Try.func32, Try.ntmps32
    go_wp2
    go_ret2
    exact ⟨rfl, rfl⟩
  · have HF := hid (numOk_size (s := s) (.inr h))
    rw [HF.out.1, HF.out.2]
    have h' : ¬ s.size < 1 := by omega
    go_enter Try.func32, Try.ntmps32
    go_wp2
    go_ret2
    exact ⟨rfl, rfl⟩
  · have h3 : ¬ s.size < 1 := by omega
    have h4 : ¬ 18 < s.size := by omega
    go_enter Try.func32, Try.ntmps32
    go_wp2
    go_loop [4, 18] (fun v i => ∃ k : Nat, k ≤ s.size ∧ i = .int .i64 (k : Int) ∧ v = .int .i64 (numD (s.data.toList.take k)) ∧ digB (s.data.toList.take k) = true) (fun _ i => s.size - (intOf i).toNat)
    case atStart => exact ⟨0, by omega, rfl, rfl, rfl⟩
    case round =>
      obtain ⟨k, hk, rfl, rfl, hd⟩ := hrel
      have HD := hid hd
      clear hd
      by_cases hlt : k < s.size
      · have HN : Hid (digB (s.data.toList.take (k + 1)) = decide (48 ≤ (s[k].toNat : Int) ∧ (s[k].toNat : Int) ≤ 57)) := by
          unfold Hid; rw [take_snocU s k hlt, dig_snoc, HD.out, Bool.true_and]
        have HS : Hid (numD (s.data.toList.take (k + 1)) = numD (s.data.toList.take k) * 10 + ((s[k].toNat : Int) - 48)) := by
          unfold Hid; rw [take_snocU s k hlt, numD_snoc]
        obtain ⟨p0, p1⟩ := numD_bd k _ (take_len s k (by omega)) HD.out
        have p2 := pow17 (n := k) (by omega)
        have p3 : numD (s.data.toList.take k) < 100000000000000000 := by omega
        clear p1 p2
        generalize numD (s.data.toList.take k) = p at *
        by_cases hc : 48 ≤ (s[k].toNat : Int) ∧ (s[k].toNat : Int) ≤ 57
        · have HT : Hid (digB (s.data.toList.take (k + 1)) = true) := HN.out.trans (decide_eq_true hc)
          clear HN HD
          obtain ⟨c0, c1⟩ := hc
          go_wp2_with (go_at_call 34; refine (value_yes _ _ c0 c1).mono ?_; rintro e w2 ⟨rfl, rfl⟩)
          go_round
          case rel => exact ⟨k + 1, by omega, by go_num, by rw [HS.out], HT.out⟩
          case measure => simp [intOf]; omega
        · have HF := hid (numOk_dig (dig_more (k := k + 1) (HN.out.trans (decide_eq_false hc))))
          have hc' : (s[k].toNat : Int) < 48 ∨ 57 < (s[k].toNat : Int) := by omega
          clear HN HD HS
          go_wp2_with (go_at_call 34; refine (value_no _ _ hc').mono ?_; rintro e w2 ⟨rfl, rfl⟩)
          go_ret2
          exact ⟨ret_int_bool HF.out.2.symm HF.out.1.symm, rfl⟩
      · have HT := hid (numOk_yes h1 h2 (dig_all HD.out (by omega)))
        rw [take_all s k (by omega)]
        go_wp2
        go_ret2
        exact ⟨ret_int_bool HT.out.2.symm HT.out.1.symm, rfl⟩
set_option maxHeartbeats 1000000 in
theorem num9 (s : ByteArray) (w : World) (hs : s.size ≤ 9223372036854775807) :
    Calls Try.prog 18 #[.string s] w fun e w' => e = .returned (.tuple #[.int .i64 (numV s), .bool (numOk s)]) ∧ w = w' := by
  rcases (show s.size < 1 ∨ 18 < s.size ∨ (1 ≤ s.size ∧ s.size ≤ 18) by omega) with h | h | ⟨h1, h2⟩
  · have HF := hid (numOk_size (s := s) (.inl h))
    rw [HF.out.1, HF.out.2]
    go_enter Try.func18, Try.ntmps18
    go_wp2
    go_ret2
    exact ⟨rfl, rfl⟩
  · have HF := hid (numOk_size (s := s) (.inr h))
    rw [HF.out.1, HF.out.2]
    have h' : ¬ s.size < 1 := by omega
    go_enter Try.func18, Try.ntmps18
    go_wp2
    go_ret2
    exact ⟨rfl, rfl⟩
  · have h3 : ¬ s.size < 1 := by omega
    have h4 : ¬ 18 < s.size := by omega
    cases hD : digB s.data.toList
    · have HF := hid (numOk_dig hD)
      have HD := hid hD
      rw [HF.out.1, HF.out.2]
      clear hD
      go_enter Try.func18, Try.ntmps18
      go_wp2_with (go_at_call 25; refine (dig_any s _ hs).mono ?_; rintro e w2 ⟨rfl, rfl⟩; rw [HD.out])
      go_ret2
      exact ⟨rfl, rfl⟩
    · have HD := hid hD
      have HT := hid (numOk_yes h1 h2 hD)
      have HC : Hid (∀ k, (hk : k < s.size) → 48 ≤ (s[k].toNat : Int) ∧ (s[k].toNat : Int) ≤ 57) := by
        intro k hk
        unfold digB at hD
        have := List.all_eq_true.1 hD (s[k]) (by rw [ByteArray.getElem_eq_getElem_data]; simp)
        exact of_decide_eq_true this
      have HB : Hid (∀ k, k ≤ s.size → 0 ≤ numD (s.data.toList.take k) ∧ numD (s.data.toList.take k) < 10 ^ k) := fun k hk => numD_bd k _ (take_len s k hk) (by
        unfold digB at hD ⊢
        exact List.all_eq_true.2 fun x hx => List.all_eq_true.1 hD x (List.mem_of_mem_take hx))
      clear hD
      go_enter Try.func18, Try.ntmps18
      go_wp2_with (go_at_call 25; refine (dig_any s _ hs).mono ?_; rintro e w2 ⟨rfl, rfl⟩; rw [HD.out])
      go_loop [4, 5] (fun v i => ∃ k : Nat, k ≤ s.size ∧ i = .int .i64 (k : Int) ∧ v = .int .i64 (numD (s.data.toList.take k))) (fun _ i => s.size - (intOf i).toNat)
      case atStart => exact ⟨0, by omega, rfl, rfl⟩
      case round =>
        obtain ⟨k, hk, rfl, rfl⟩ := hrel
        by_cases hlt : k < s.size
        · have HS : Hid (numD (s.data.toList.take (k + 1)) = 10 * numD (s.data.toList.take k) + ((s[k].toNat : Int) - 48)) := by
            unfold Hid; rw [take_snocU s k hlt, numD_snoc]; omega
          obtain ⟨p0, p1⟩ := HB.out k hk
          have p2 := pow17 (n := k) (by omega)
          have p3 : numD (s.data.toList.take k) < 100000000000000000 := by omega
          obtain ⟨c0, c1⟩ := HC.out k hlt
          have c2 : IntKind.u8.wrap ((s[k].toNat : Int) - 48) = (s[k].toNat : Int) - 48 := by rw [IntKind.wrap_u8]; omega
          clear p1 p2
          generalize numD (s.data.toList.take k) = p at *
          go_wp2
          go_round
          case rel => exact ⟨k + 1, by omega, by go_num, by rw [HS.out]⟩
          case measure => simp [intOf]; omega
        · rw [take_all s k (by omega)]
          go_wp2
          go_ret2
          exact ⟨ret_int_bool HT.out.2.symm HT.out.1.symm, rfl⟩
end Go.Proofs.Ytnahbfnchopghaa
