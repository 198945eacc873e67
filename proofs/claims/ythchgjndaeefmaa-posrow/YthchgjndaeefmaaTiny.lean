/- The small functions: accounts, Right, the accounts that are drawn. -/
import Derived.Test.YthchgjndaeefmaaReq
namespace Go.Proofs.Ythchgjndaeefmaa
open Go.ChangeShapes Go.WideShapes Go.ChangeAt Go.RowKit

theorem and10n : ∀ c, c < 256 → bits .and .u64 (287948901175001088 / 2 ^ min c 64) 1 = if 48 ≤ c ∧ c ≤ 57 then 1 else 0 := by decide +kernel
theorem and10 {c : Int} (h : B8 c) : bits .and .u64 (287948901175001088 / 2 ^ min c.toNat 64) 1 = if 48 ≤ c ∧ c ≤ 57 then 1 else 0 := by
  obtain ⟨n, rfl, hn⟩ := b8_nat h
  have := and10n n hn
  rw [show ((n : Int)).toNat = n from rfl, this]
  by_cases e : 48 ≤ n ∧ n ≤ 57
  · rw [if_pos e, if_pos (by omega)]
  · rw [if_neg e, if_neg (by omega)]
theorem pan_no {s : ByteArray} (h : s.size < 1 ∨ 19 < s.size) : panB s = false := by
  unfold panB
  rcases h with h | h
  · rw [decide_eq_false (by omega)]; rfl
  · rw [decide_eq_false (p := s.size ≤ 19) (by omega)]; simp
theorem pan_dig {s : ByteArray} (h1 : 1 ≤ s.size) (h2 : s.size ≤ 19) : panB s = digB s.data.toList := by
  unfold panB
  rw [decide_eq_true h1, decide_eq_true h2]; rfl
set_option maxHeartbeats 1000000 in
theorem pan20 (s : ByteArray) (w : World) (hs : s.size ≤ 9223372036854775807) :
    Calls Try.prog 20 #[.string s] w fun e w' => e = .returned (.bool (panB s)) ∧ w = w' := by
  rcases (show s.size < 1 ∨ 19 < s.size ∨ (1 ≤ s.size ∧ s.size ≤ 19) by omega) with h | h | ⟨h1, h2⟩
  · have HF := hid (pan_no (s := s) (.inl h))
    go_enter Try.func20, Try.ntmps20
    go_wp2
    go_ret
    exact ⟨by rw [HF.out]; rfl, rfl⟩
  · have HF := hid (pan_no (s := s) (.inr h))
    have h1 : 1 ≤ s.size := by omega
    have h3 : decide ((s.size : Int) ≤ 19) = false := by simp; omega
    go_enter Try.func20, Try.ntmps20
    go_wp2
    go_ret
    exact ⟨by rw [HF.out]; rfl, rfl⟩
  · have HF := hid (pan_dig h1 h2)
    have HS := hid hs
    go_enter Try.func20, Try.ntmps20
    go_wp2_with (go_at_call 28; refine (dig_any s _ HS.out).mono ?_; rintro e w2 ⟨rfl, rfl⟩)
    go_ret
    exact ⟨by rw [HF.out]; rfl, rfl⟩
set_option maxHeartbeats 1000000 in
theorem isPan19 (s : ByteArray) (w : World) (hs : s.size ≤ 9223372036854775807) :
    Calls Try.prog 19 #[.string s] w fun e w' => e = .returned (.bool (panB s)) ∧ w = w' := by
  rcases (show s.size < 1 ∨ 19 < s.size ∨ (1 ≤ s.size ∧ s.size ≤ 19) by omega) with h | h | ⟨h1, h2⟩
  · have HF := hid (pan_no (s := s) (.inl h))
    go_enter Try.func19, Try.ntmps19
    go_wp2
    go_ret
    exact ⟨by rw [HF.out]; rfl, rfl⟩
  · have HF := hid (pan_no (s := s) (.inr h))
    have h1 : ¬ s.size < 1 := by omega
    go_enter Try.func19, Try.ntmps19
    go_wp2
    go_ret
    exact ⟨by rw [HF.out]; rfl, rfl⟩
  · have HF := hid (pan_dig h1 h2)
    have h3 : ¬ s.size < 1 := by omega
    have h4 : ¬ 19 < s.size := by omega
    go_enter Try.func19, Try.ntmps19
    go_wp2
    go_loop [14] (fun i => ∃ k : Nat, k ≤ s.size ∧ i = .int .i64 (k : Int) ∧ digB (s.data.toList.take k) = true) (fun i => s.size - (intOf i).toNat)
    case atStart => exact ⟨0, by omega, rfl, rfl⟩
    case round =>
      obtain ⟨k, hk, rfl, hd⟩ := hrel
      have HD := hid hd
      clear hd
      by_cases hlt : k < s.size
      · have HN : Hid (digB (s.data.toList.take (k + 1)) = decide (48 ≤ (s[k].toNat : Int) ∧ (s[k].toNat : Int) ≤ 57)) := by
          unfold Hid; rw [take_snocU s k hlt, dig_snoc, HD.out, Bool.true_and]
        have hb8 : B8 (s[k].toNat : Int) := ⟨by omega, by have := s[k].toNat_lt; omega⟩
        have HA := hid (and10 hb8)
        obtain ⟨c, hc⟩ : ∃ c, (s[k].toNat : Int) = c := ⟨_, rfl⟩
        rw [hc] at HN HA hb8
        have hc0 : 0 ≤ c := hb8.1
        have hc1 : c < 256 := hb8.2
        by_cases h5 : 48 ≤ c ∧ c ≤ 57
        · have hv : bits .and .u64 (287948901175001088 / 2 ^ min c.toNat 64) 1 = 1 := by rw [HA.out, if_pos h5]
          have HT : Hid (digB (s.data.toList.take (k + 1)) = true) := HN.out.trans (decide_eq_true h5)
          clear HN HD HA hb8 h5
          go_wp2
          go_round
          case rel => exact ⟨k + 1, by omega, by go_num, HT.out⟩
          case measure => simp [intOf]; omega
        · have hv : bits .and .u64 (287948901175001088 / 2 ^ min c.toNat 64) 1 = 0 := by rw [HA.out, if_neg h5]
          have HT := hid (dig_more (k := k + 1) (HN.out.trans (decide_eq_false h5)))
          clear HN HD HA hb8 h5
          go_wp2
          go_ret
          exact ⟨by rw [HF.out, HT.out]; rfl, rfl⟩
      · have HT := hid (dig_all HD.out (by omega))
        go_wp2
        go_ret
        exact ⟨by rw [HF.out, HT.out]; rfl, rfl⟩
theorem right_no1 {r : Ps} (h : ¬ r.seq ≤ 999999) : rightL r = false := by unfold rightL; rw [decide_eq_false h]; rfl
theorem right_no2 {r : Ps} (h1 : r.seq ≤ 999999) (h : panB r.pan = false) : rightL r = false := by unfold rightL; rw [decide_eq_true h1, h]; rfl
theorem right_no3 {r : Ps} (h1 : r.seq ≤ 999999) (h2 : panB r.pan = true) (h : ¬ 1 ≤ r.amt) : rightL r = false := by unfold rightL; rw [decide_eq_true h1, h2, decide_eq_false h]; rfl
theorem right_no4 {r : Ps} (h1 : r.seq ≤ 999999) (h2 : panB r.pan = true) (h3 : 1 ≤ r.amt) (h : ¬ r.amt ≤ 1000000) : rightL r = false := by unfold rightL; rw [decide_eq_true h1, h2, decide_eq_true h3, decide_eq_false h]; rfl
theorem right_yes {r : Ps} (h1 : r.seq ≤ 999999) (h2 : panB r.pan = true) (h3 : 1 ≤ r.amt) (h : r.amt ≤ 1000000) : rightL r = true := by unfold rightL; rw [decide_eq_true h1, h2, decide_eq_true h3, decide_eq_true h]; rfl
set_option maxHeartbeats 1000000 in
theorem right10 (r : Ps) (w : World) (hs : r.pan.size ≤ 9223372036854775807) :
    Calls Try.prog 10 #[r.val] w fun e w' => e = .returned (.bool (rightL r)) ∧ Below w.heap.size w w' := by
  obtain ⟨t, s, p, a⟩ := r
  have HS := hid hs
  clear hs
  by_cases h1 : s ≤ 999999
  · have d1 : decide (s ≤ 999999) = true := decide_eq_true h1
    cases h2 : panB p
    · have HR := hid (right_no2 (r := ⟨t, s, p, a⟩) h1 h2)
      have HP := hid h2
      clear h2
      go_enter Try.func10, Try.ntmps10
      go_wp2_with (first | (go_at_call 19; have kill := c2; refine (isPan19 p _ HS.out).mono ?_; rintro e w3 ⟨rfl, rfl⟩; rw [HP.out]) | (refine bx25 (r := ⟨t, s, p, a⟩) rfl _ rfl rfl ?_; intro b1 w1 hb1 v1 l1; have L1 := hid l1; have c1 := v1.cell 1 rfl; have c2 := v1.cell 2 rfl; have c3 := v1.cell 3 rfl; clear v1 l1))
      go_ret
      exact ⟨by rw [HR.out]; rfl, L1.out⟩
    · by_cases h3 : 1 ≤ a
      · by_cases h4 : a ≤ 1000000
        · have HR := hid (right_yes (r := ⟨t, s, p, a⟩) h1 h2 h3 h4)
          have HP := hid h2
          have d2 : decide (1 ≤ a) = true := decide_eq_true h3
          have d3 : decide (a ≤ 1000000) = true := decide_eq_true h4
          clear h2
          go_enter Try.func10, Try.ntmps10
          go_wp2_with (first | (go_at_call 19; have kill := c2; refine (isPan19 p _ HS.out).mono ?_; rintro e w3 ⟨rfl, rfl⟩; rw [HP.out]) | (refine bx25 (r := ⟨t, s, p, a⟩) rfl _ rfl rfl ?_; intro b1 w1 hb1 v1 l1; have L1 := hid l1; have c1 := v1.cell 1 rfl; have c2 := v1.cell 2 rfl; have c3 := v1.cell 3 rfl; clear v1 l1))
          go_ret
          exact ⟨by rw [HR.out]; rfl, L1.out⟩
        · have HR := hid (right_no4 (r := ⟨t, s, p, a⟩) h1 h2 h3 h4)
          have HP := hid h2
          have d2 : decide (1 ≤ a) = true := decide_eq_true h3
          have d3 : decide (a ≤ 1000000) = false := decide_eq_false h4
          clear h2
          go_enter Try.func10, Try.ntmps10
          go_wp2_with (first | (go_at_call 19; have kill := c2; refine (isPan19 p _ HS.out).mono ?_; rintro e w3 ⟨rfl, rfl⟩; rw [HP.out]) | (refine bx25 (r := ⟨t, s, p, a⟩) rfl _ rfl rfl ?_; intro b1 w1 hb1 v1 l1; have L1 := hid l1; have c1 := v1.cell 1 rfl; have c2 := v1.cell 2 rfl; have c3 := v1.cell 3 rfl; clear v1 l1))
          go_ret
          exact ⟨by rw [HR.out]; rfl, L1.out⟩
      · have HR := hid (right_no3 (r := ⟨t, s, p, a⟩) h1 h2 h3)
        have HP := hid h2
        have d2 : decide (1 ≤ a) = false := decide_eq_false h3
        clear h2
        go_enter Try.func10, Try.ntmps10
        go_wp2_with (first | (go_at_call 19; have kill := c2; refine (isPan19 p _ HS.out).mono ?_; rintro e w3 ⟨rfl, rfl⟩; rw [HP.out]) | (refine bx25 (r := ⟨t, s, p, a⟩) rfl _ rfl rfl ?_; intro b1 w1 hb1 v1 l1; have L1 := hid l1; have c1 := v1.cell 1 rfl; have c2 := v1.cell 2 rfl; have c3 := v1.cell 3 rfl; clear v1 l1))
        go_ret
        exact ⟨by rw [HR.out]; rfl, L1.out⟩
  · have HR := hid (right_no1 (r := ⟨t, s, p, a⟩) h1)
    have d1 : decide (s ≤ 999999) = false := decide_eq_false h1
    have HP : Hid (panB p = panB p) := rfl
    go_enter Try.func10, Try.ntmps10
    go_wp2_with (first | (go_at_call 19; have kill := c2; refine (isPan19 p _ HS.out).mono ?_; rintro e w3 ⟨rfl, rfl⟩; rw [HP.out]) | (refine bx25 (r := ⟨t, s, p, a⟩) rfl _ rfl rfl ?_; intro b1 w1 hb1 v1 l1; have L1 := hid l1; have c1 := v1.cell 1 rfl; have c2 := v1.cell 2 rfl; have c3 := v1.cell 3 rfl; clear v1 l1))
    go_ret
    exact ⟨by rw [HR.out]; rfl, L1.out⟩
set_option maxHeartbeats 1000000 in
theorem right11 (r : Ps) (w : World) (hs : r.pan.size ≤ 9223372036854775807) :
    Calls Try.prog 11 #[r.val] w fun e w' => e = .returned (.bool (rightL r)) ∧ Below w.heap.size w w' := by
  obtain ⟨t, s, p, a⟩ := r
  have HS := hid hs
  clear hs
  by_cases h1 : s ≤ 999999
  · have d1 : decide (s ≤ 999999) = true := decide_eq_true h1
    cases h2 : panB p
    · have HR := hid (right_no2 (r := ⟨t, s, p, a⟩) h1 h2)
      have HP := hid h2
      clear h2
      go_enter Try.func11, Try.ntmps11
      go_wp2_with (first | (go_at_call 20; have kill := c2; refine (pan20 p _ HS.out).mono ?_; rintro e w3 ⟨rfl, rfl⟩; rw [HP.out]) | (refine bx25 (r := ⟨t, s, p, a⟩) rfl _ rfl rfl ?_; intro b1 w1 hb1 v1 l1; have L1 := hid l1; have c1 := v1.cell 1 rfl; have c2 := v1.cell 2 rfl; have c3 := v1.cell 3 rfl; clear v1 l1))
      go_ret
      exact ⟨by rw [HR.out]; rfl, L1.out⟩
    · by_cases h3 : 1 ≤ a
      · by_cases h4 : a ≤ 1000000
        · have HR := hid (right_yes (r := ⟨t, s, p, a⟩) h1 h2 h3 h4)
          have HP := hid h2
          have d2 : decide (1 ≤ a) = true := decide_eq_true h3
          have d3 : decide (a ≤ 1000000) = true := decide_eq_true h4
          clear h2
          go_enter Try.func11, Try.ntmps11
          go_wp2_with (first | (go_at_call 20; have kill := c2; refine (pan20 p _ HS.out).mono ?_; rintro e w3 ⟨rfl, rfl⟩; rw [HP.out]) | (refine bx25 (r := ⟨t, s, p, a⟩) rfl _ rfl rfl ?_; intro b1 w1 hb1 v1 l1; have L1 := hid l1; have c1 := v1.cell 1 rfl; have c2 := v1.cell 2 rfl; have c3 := v1.cell 3 rfl; clear v1 l1))
          go_ret
          exact ⟨by rw [HR.out]; rfl, L1.out⟩
        · have HR := hid (right_no4 (r := ⟨t, s, p, a⟩) h1 h2 h3 h4)
          have HP := hid h2
          have d2 : decide (1 ≤ a) = true := decide_eq_true h3
          have d3 : decide (a ≤ 1000000) = false := decide_eq_false h4
          clear h2
          go_enter Try.func11, Try.ntmps11
          go_wp2_with (first | (go_at_call 20; have kill := c2; refine (pan20 p _ HS.out).mono ?_; rintro e w3 ⟨rfl, rfl⟩; rw [HP.out]) | (refine bx25 (r := ⟨t, s, p, a⟩) rfl _ rfl rfl ?_; intro b1 w1 hb1 v1 l1; have L1 := hid l1; have c1 := v1.cell 1 rfl; have c2 := v1.cell 2 rfl; have c3 := v1.cell 3 rfl; clear v1 l1))
          go_ret
          exact ⟨by rw [HR.out]; rfl, L1.out⟩
      · have HR := hid (right_no3 (r := ⟨t, s, p, a⟩) h1 h2 h3)
        have HP := hid h2
        have d2 : decide (1 ≤ a) = false := decide_eq_false h3
        clear h2
        go_enter Try.func11, Try.ntmps11
        go_wp2_with (first | (go_at_call 20; have kill := c2; refine (pan20 p _ HS.out).mono ?_; rintro e w3 ⟨rfl, rfl⟩; rw [HP.out]) | (refine bx25 (r := ⟨t, s, p, a⟩) rfl _ rfl rfl ?_; intro b1 w1 hb1 v1 l1; have L1 := hid l1; have c1 := v1.cell 1 rfl; have c2 := v1.cell 2 rfl; have c3 := v1.cell 3 rfl; clear v1 l1))
        go_ret
        exact ⟨by rw [HR.out]; rfl, L1.out⟩
  · have HR := hid (right_no1 (r := ⟨t, s, p, a⟩) h1)
    have d1 : decide (s ≤ 999999) = false := decide_eq_false h1
    have HP : Hid (panB p = panB p) := rfl
    go_enter Try.func11, Try.ntmps11
    go_wp2_with (first | (go_at_call 20; have kill := c2; refine (pan20 p _ HS.out).mono ?_; rintro e w3 ⟨rfl, rfl⟩; rw [HP.out]) | (refine bx25 (r := ⟨t, s, p, a⟩) rfl _ rfl rfl ?_; intro b1 w1 hb1 v1 l1; have L1 := hid l1; have c1 := v1.cell 1 rfl; have c2 := v1.cell 2 rfl; have c3 := v1.cell 3 rfl; clear v1 l1))
    go_ret
    exact ⟨by rw [HR.out]; rfl, L1.out⟩
/-- The accounts that are drawn. -/
def panK (k : Int) : ByteArray :=
  if k % 4 = 0 then ⟨#[52, 48, 48, 48, 49, 50, 51, 52, 49, 50, 51, 52, 49, 50, 51, 52]⟩ else if k % 4 = 1 then ⟨#[53, 49]⟩ else if k % 4 = 2 then ⟨#[57]⟩ else ⟨#[54, 48, 49, 49, 48, 48, 48, 57, 57, 48, 49, 51, 57, 52, 50, 52]⟩
theorem panK_ok (k : Int) : panB (panK k) = true := by
  unfold panK
  split
  · kernel_rfl
  · split
    · kernel_rfl
    · split <;> kernel_rfl
theorem panK_size (k : Int) : (panK k).size ≤ 16 := by
  unfold panK
  split
  · decide
  · split
    · decide
    · split <;> decide
set_option maxHeartbeats 1000000 in
theorem pan7 (k : Int) (w : World) (h0 : 0 ≤ k) : Calls Try.prog 7 #[.int .u8 k] w fun e w' => e = .returned (.string (panK k)) ∧ Below w.heap.size w w' := by
  have hm : k.tmod 4 = k % 4 := Int.tmod_eq_emod_of_nonneg h0
  rcases (show k % 4 = 0 ∨ k % 4 = 1 ∨ k % 4 = 2 ∨ k % 4 = 3 by omega) with h | h | h | h <;> (
    have HK := hid h
    rw [h] at hm
    clear h
    go_enter Try.func7, Try.ntmps7
    go_wp2
    go_ret
    refine ⟨?_, bel1 _ _⟩
    unfold panK
    rw [HK.out]
    rfl)
end Go.Proofs.Ythchgjndaeefmaa
