/- Pack. -/
import Derived.Test.YtnahbfnchopghaaPackP
namespace Go.Proofs.Ytnahbfnchopghaa
open Go.ChangeShapes Go.WideShapes Go.ChangeAt Go.RowKit

set_option maxHeartbeats 2000000 in
theorem pack_yes (s : ByteArray) (w : World) (hs : s.size ≤ 1000000) (hd : digB s.data.toList = true) :
    Calls Try.prog 31 #[.string s] w fun e w' => e = .returned (.tuple #[.slice (some ⟨w.heap.size, 0, none⟩) ((s.size + 1) / 2) ((s.size + 1) / 2), .bool true]) ∧ w' = w.alloc (.cells (cellsOf (packL s)) 5) := by
  obtain ⟨n, hn⟩ : ∃ n, s.size = n := ⟨_, rfl⟩
  obtain ⟨m, hm⟩ : ∃ m, (s.size + 1) / 2 = m := ⟨_, rfl⟩
  obtain ⟨r, hr⟩ : ∃ r, s.size % 2 = r := ⟨_, rfl⟩
  have hrm : (m : Int) * 2 - (s.size : Int) = (r : Int) := by omega
  have HM := hid hm
  have HR := hid hr
  have HSM : Hid (∀ i, i < s.size → 0 ≤ bt (padL s) (s.size % 2 + i) ((s.size % 2 + i) / 2) ∧ bt (padL s) (s.size % 2 + i) ((s.size % 2 + i) / 2) < 10) := fun i hi => bt_small s i hi (by
    unfold digB at hd ⊢
    exact List.all_eq_true.2 fun x hx => List.all_eq_true.1 hd x (List.mem_of_mem_take hx))
  have HC : Hid (∀ k, (hk : k < s.size) → 48 ≤ (s[k].toNat : Int) ∧ (s[k].toNat : Int) ≤ 57) := by
    intro k hk
    unfold digB at hd
    have := List.all_eq_true.1 hd (s[k]) (by rw [ByteArray.getElem_eq_getElem_data]; simp)
    exact of_decide_eq_true this
  have hmk := run_make_row' (P := Try.prog) 24 5 (.int .u8 0) 1 Try.underlying24 Try.info5 rfl .i64 .i64 m (by omega) (by omega)
  rw [← hm, ← BC_zero s, hm] at hmk
  have HM1 : Hid (2 * m = s.size + r) := by unfold Hid; omega
  have hr1 : r < 2 := by omega
  clear hm hr hd hn
  rw [HM.out]
  go_enter Try.func31, Try.ntmps31
  go_wp2_with (go_at_call 33; refine (bytesOf_any s.size _ (by omega)).mono ?_; rintro e w2 ⟨rfl, rfl⟩; rw [HM.out])
  go_loopw [22] (fun i wr => ∃ k : Nat, k ≤ s.size ∧ i = .int .i64 (k : Int) ∧ wr = w.alloc (.cells (BC s k) 5)) (fun i _ => s.size - (intOf i).toNat)
  case atStart => exact ⟨0, Nat.zero_le _, rfl, rfl⟩
  case round =>
    obtain ⟨k, hk, rfl, rfl⟩ := hrel
    by_cases hlt : k < s.size
    · obtain ⟨c0, c1⟩ := HC.out k hlt
      obtain ⟨b0, b1⟩ := HSM.out k hlt
      obtain ⟨j, hj⟩ : ∃ j, (r + k) / 2 = j := ⟨_, rfl⟩
      have hjm : j < m := by have := HM1.out; omega
      have hu := BC_get s k j (by rw [HM.out]; exact hjm)
      have hsz := BC_size s k
      rw [HM.out] at hsz
      rw [HR.out, hj] at b0 b1
      rw [HR.out] at hu
      have HST : Hid (∀ v, v = bt (padL s) (r + k) j * 16 + ((s[k].toNat : Int) - 48) → (BC s k).setIfInBounds j (.int .u8 v) = BC s (k + 1)) := by
        intro v hv
        have := BC_store s k hlt v (by rw [HR.out, hj]; exact hv)
        rw [HR.out, hj] at this; exact this
      generalize bt (padL s) (r + k) j = x at *
      generalize BC s k = C at *
      have e5 : wrap64 (j : Int) = (j : Int) := by have := IntKind.wrap_i64 (j : Int); unfold wrap64; omega
      have hge : C[j]'(by omega) = .int .u8 x := by obtain ⟨_, h⟩ := Array.getElem?_eq_some_iff.1 hu; exact h
      have e1 : (((r : Int) + (k : Int)).tdiv 2) = (j : Int) := by rw [Int.tdiv_eq_ediv_of_nonneg (by omega)]; omega
      have e2 : wrap64 ((r : Int) + (k : Int)) = (r : Int) + (k : Int) := by have := IntKind.wrap_i64 ((r : Int) + k); unfold wrap64; omega
      have e3 := or4 x ((s[k].toNat : Int) - 48) b0 (by omega) (by omega) (by omega)
      have e4 : IntKind.u8.wrap (x * 16) = x * 16 := by rw [IntKind.wrap_u8]; omega
      clear hj hrm b0 b1 hr1
      go_wp2_with (go_at_call 34; refine (value_yes _ _ c0 c1).mono ?_; rintro e w2 ⟨rfl, rfl⟩)
      go_roundw
      case rel => exact ⟨k + 1, by omega, by go_num, by rw [HST.out _ rfl]⟩
      case measure => simp [intOf]; omega
    · have hkm : k = s.size := by omega
      subst hkm
      rw [BC_all]
      go_wp2
      go_ret2
      exact ⟨rfl, rfl⟩
set_option maxHeartbeats 2000000 in
theorem pack_no (s : ByteArray) (w : World) (hs : s.size ≤ 1000000) (hd : digB s.data.toList = false) :
    Calls Try.prog 31 #[.string s] w fun e w' => e = .returned (.tuple #[.slice none 0 0, .bool false]) ∧ Below w.heap.size w w' := by
  obtain ⟨n, hn⟩ : ∃ n, s.size = n := ⟨_, rfl⟩
  obtain ⟨m, hm⟩ : ∃ m, (s.size + 1) / 2 = m := ⟨_, rfl⟩
  obtain ⟨r, hr⟩ : ∃ r, s.size % 2 = r := ⟨_, rfl⟩
  have hrm : (m : Int) * 2 - (s.size : Int) = (r : Int) := by omega
  have HM := hid hm
  have HR := hid hr
  have HNO := hid hd
  have hmk := run_make_row' (P := Try.prog) 24 5 (.int .u8 0) 1 Try.underlying24 Try.info5 rfl .i64 .i64 m (by omega) (by omega)
  rw [← hm, ← BC_zero s, hm] at hmk
  have HM1 : Hid (2 * m = s.size + r) := by unfold Hid; omega
  have hr1 : r < 2 := by omega
  clear hm hr hd hn
  go_enter Try.func31, Try.ntmps31
  go_wp2_with (go_at_call 33; refine (bytesOf_any s.size _ (by omega)).mono ?_; rintro e w2 ⟨rfl, rfl⟩; rw [HM.out])
  go_loopw [22] (fun i wr => ∃ k : Nat, k ≤ s.size ∧ i = .int .i64 (k : Int) ∧ digB (s.data.toList.take k) = true ∧ wr = w.alloc (.cells (BC s k) 5)) (fun i _ => s.size - (intOf i).toNat)
  case atStart => exact ⟨0, Nat.zero_le _, rfl, rfl, rfl⟩
  case round =>
    obtain ⟨k, hk, rfl, hD, rfl⟩ := hrel
    have HD := hid hD
    clear hD
    by_cases hlt : k < s.size
    · have HN : Hid (digB (s.data.toList.take (k + 1)) = decide (48 ≤ (s[k].toNat : Int) ∧ (s[k].toNat : Int) ≤ 57)) := by
        unfold Hid; rw [take_snocU s k hlt, dig_snoc, HD.out, Bool.true_and]
      by_cases hc : 48 ≤ (s[k].toNat : Int) ∧ (s[k].toNat : Int) ≤ 57
      · have HT : Hid (digB (s.data.toList.take (k + 1)) = true) := HN.out.trans (decide_eq_true hc)
        obtain ⟨b0, b1⟩ := bt_small s k hlt HD.out
        clear HN HD
        obtain ⟨c0, c1⟩ := hc
        obtain ⟨j, hj⟩ : ∃ j, (r + k) / 2 = j := ⟨_, rfl⟩
        have hjm : j < m := by have := HM1.out; omega
        have hu := BC_get s k j (by rw [HM.out]; exact hjm)
        have hsz := BC_size s k
        rw [HM.out] at hsz
        rw [HR.out, hj] at b0 b1
        rw [HR.out] at hu
        have HST : Hid (∀ v, v = bt (padL s) (r + k) j * 16 + ((s[k].toNat : Int) - 48) → (BC s k).setIfInBounds j (.int .u8 v) = BC s (k + 1)) := by
          intro v hv
          have := BC_store s k hlt v (by rw [HR.out, hj]; exact hv)
          rw [HR.out, hj] at this; exact this
        generalize bt (padL s) (r + k) j = x at *
        generalize BC s k = C at *
        have e5 : wrap64 (j : Int) = (j : Int) := by have := IntKind.wrap_i64 (j : Int); unfold wrap64; omega
        have hge : C[j]'(by omega) = .int .u8 x := by obtain ⟨_, h⟩ := Array.getElem?_eq_some_iff.1 hu; exact h
        have e1 : (((r : Int) + (k : Int)).tdiv 2) = (j : Int) := by rw [Int.tdiv_eq_ediv_of_nonneg (by omega)]; omega
        have e2 : wrap64 ((r : Int) + (k : Int)) = (r : Int) + (k : Int) := by have := IntKind.wrap_i64 ((r : Int) + k); unfold wrap64; omega
        have e3 := or4 x ((s[k].toNat : Int) - 48) b0 (by omega) (by omega) (by omega)
        have e4 : IntKind.u8.wrap (x * 16) = x * 16 := by rw [IntKind.wrap_u8]; omega
        clear hj hrm b0 b1 hr1
        go_wp2_with (go_at_call 34; refine (value_yes _ _ c0 c1).mono ?_; rintro e w2 ⟨rfl, rfl⟩)
        go_roundw
        case rel => exact ⟨k + 1, by omega, by go_num, HT.out, by rw [HST.out _ rfl]⟩
        case measure => simp [intOf]; omega
      · have hc' : (s[k].toNat : Int) < 48 ∨ 57 < (s[k].toNat : Int) := by omega
        clear HN HD hrm
        go_wp2_with (go_at_call 34; refine (value_no _ _ hc').mono ?_; rintro e w2 ⟨rfl, rfl⟩)
        go_ret2
        exact ⟨rfl, bel1 _ _⟩
    · exfalso
      have := dig_all HD.out (by omega)
      rw [HNO.out] at this
      cases this
theorem pack_any (s : ByteArray) (w : World) (hs : s.size ≤ 1000000) :
    Calls Try.prog 31 #[.string s] w fun e w' => (digB s.data.toList = true ∧ e = .returned (.tuple #[.slice (some ⟨w.heap.size, 0, none⟩) ((s.size + 1) / 2) ((s.size + 1) / 2), .bool true]) ∧ Mk w w' (.slice (some ⟨w.heap.size, 0, none⟩) ((s.size + 1) / 2) ((s.size + 1) / 2)) ((s.size + 1) / 2) (packL s))
      ∨ (digB s.data.toList = false ∧ e = .returned (.tuple #[.slice none 0 0, .bool false]) ∧ Below w.heap.size w w') := by
  cases h : digB s.data.toList
  · exact (pack_no s w hs h).mono fun e w' ⟨h1, h2⟩ => .inr ⟨rfl, h1, h2⟩
  · exact (pack_yes s w hs h).mono fun e w' ⟨h1, h2⟩ => .inl ⟨rfl, h1, h2 ▸ Mk.new w (packL s) _ (packL_length s) (by omega)⟩
end Go.Proofs.Ytnahbfnchopghaa
