/- What an input is taken for: number, account, PIN, choice. -/
import Derived.Test.YtnahbfnchopghaaRes
import Derived.Test.YtnahbfnchopghaaPack
namespace Go.Proofs.Ytnahbfnchopghaa
open Go.ChangeShapes Go.WideShapes Go.ChangeAt Go.RowKit

theorem num_big {m : Nat} {x : ByteArray} (h : m < x.size) : numK m x = 0 ∧ numB m x = false := by
  unfold numK numB
  rw [if_neg (by omega), decide_eq_false (by omega)]
  exact ⟨rfl, rfl⟩
theorem num_fit {m : Nat} {x : ByteArray} (h : x.size ≤ m) : numK m x = numV x ∧ numB m x = numOk x := by
  unfold numK numB
  rw [if_pos h, decide_eq_true h]
  exact ⟨rfl, rfl⟩
theorem numV_one (c : UInt8) : numV ⟨#[c]⟩ = if 48 ≤ c.toNat ∧ c.toNat ≤ 57 then (c.toNat : Int) - 48 else 0 := by
  by_cases h : 48 ≤ c.toNat ∧ c.toNat ≤ 57
  · rw [if_pos h, (numOk_yes (s := ⟨#[c]⟩) (Nat.le_refl 1) (show 1 ≤ 18 by decide) (by simp [digB]; omega)).2]
    simp [numD]
  · rw [if_neg h, (numOk_dig (s := ⟨#[c]⟩) (by simp [digB]; omega)).2]
theorem numK_cho (x : ByteArray) : (numK 1 x = 1 ↔ x = ⟨#[49]⟩) ∧ (numK 1 x = 2 ↔ x = ⟨#[50]⟩) := by
  by_cases h : x.size ≤ 1
  · rw [(num_fit h).1]
    by_cases h0 : x.size = 0
    · rw [(numOk_size (.inl (by omega))).2]
      constructor
      · constructor
        · intro e; simp at e
        · intro e; subst e; exact absurd h0 (by decide)
      · constructor
        · intro e; simp at e
        · intro e; subst e; exact absurd h0 (by decide)
    · obtain ⟨a⟩ := x
      obtain ⟨l⟩ := a
      have hl : l.length = 1 := by have e : (ByteArray.mk ⟨l⟩).size = l.length := rfl; omega
      match l, hl with
      | [c], _ =>
        rw [numV_one]
        have e49 : ((⟨#[c]⟩ : ByteArray) = ⟨#[49]⟩) ↔ c.toNat = 49 := by
          constructor
          · intro e; have := congrArg ByteArray.data e; simp at this; subst this; rfl
          · intro e; have : c = 49 := by apply UInt8.toNat_inj.1; simpa using e
            rw [this]
        have e50 : ((⟨#[c]⟩ : ByteArray) = ⟨#[50]⟩) ↔ c.toNat = 50 := by
          constructor
          · intro e; have := congrArg ByteArray.data e; simp at this; subst this; rfl
          · intro e; have : c = 50 := by apply UInt8.toNat_inj.1; simpa using e
            rw [this]
        rw [e49, e50]
        constructor <;> split <;> omega
  · rw [(num_big (by omega)).1]
    constructor
    · constructor
      · intro e; simp at e
      · intro e; subst e; exact absurd (by decide) h
    · constructor
      · intro e; simp at e
      · intro e; subst e; exact absurd (by decide) h
theorem choL_num (s : St) (x : ByteArray) : choL s x = if numK 1 x = 1 then s.next else if numK 1 x = 2 then s.other else s.id := by
  unfold choL
  have h := numK_cho x
  by_cases h1 : x = ⟨#[49]⟩
  · rw [if_pos h1, if_pos (h.1.2 h1)]
  · rw [if_neg h1, if_neg (fun e => h1 (h.1.1 e))]
    by_cases h2 : x = ⟨#[50]⟩
    · rw [if_pos h2, if_pos (h.2.2 h2)]
    · rw [if_neg h2, if_neg (fun e => h2 (h.2.1 e))]
set_option maxHeartbeats 1000000 in
theorem number29 (s : ByteArray) (m : Nat) (w : World) (hs : s.size ≤ 9223372036854775807) :
    Calls Try.prog 29 #[.string s, .int .i64 (m : Int)] w fun e w' => e = .returned (.tuple #[.int .i64 (numK m s), .bool (numB m s)]) ∧ w = w' := by
  by_cases h : m < s.size
  · have HN := hid (num_big h)
    have hd : decide ((m : Int) < (s.size : Int)) = true := by simpa using h
    clear hs
    go_enter Try.func29, Try.ntmps29
    go_wp2
    go_ret2
    exact ⟨by rw [HN.out.1, HN.out.2]; rfl, rfl⟩
  · have HN := hid (num_fit (m := m) (x := s) (by omega))
    have HC := hid (number8 s w hs)
    have hd : decide ((m : Int) < (s.size : Int)) = false := by simpa using h
    have hlt : ¬ ((m : Int) < (s.size : Int)) := by omega
    clear hs
    go_enter Try.func29, Try.ntmps29
    go_wp2_with (go_at_call 32; refine HC.out.mono ?_; rintro e w2 ⟨rfl, rfl⟩)
    go_ret2
    exact ⟨by rw [HN.out.1, HN.out.2]; rfl, rfl⟩
set_option maxHeartbeats 1000000 in
theorem isPan27 (s : ByteArray) (w : World) (hs : s.size ≤ 9223372036854775807) :
    Calls Try.prog 27 #[.string s] w fun e w' => e = .returned (.bool (panB s)) ∧ Below w.heap.size w w' := by
  rcases (show s.size < 1 ∨ 19 < s.size ∨ (1 ≤ s.size ∧ s.size ≤ 19) by omega) with h | h | ⟨h1, h2⟩
  · have HF := hid (pan_no (s := s) (.inl h))
    have hd : decide ((s.size : Int) < 1) = true := by simp; omega
    go_enter Try.func27, Try.ntmps27
    go_wp2
    go_ret
    exact ⟨by rw [HF.out]; rfl, Below.refl _ _⟩
  · have HF := hid (pan_no (s := s) (.inr h))
    have hd : decide ((s.size : Int) < 1) = false := by simp; omega
    have hd2 : decide (19 < (s.size : Int)) = true := by simp; omega
    go_enter Try.func27, Try.ntmps27
    go_wp2
    go_ret
    exact ⟨by rw [HF.out]; rfl, Below.refl _ _⟩
  · have HF := hid (pan_dig h1 h2)
    have HC := hid (pack_any s w (by omega))
    have hd : decide ((s.size : Int) < 1) = false := by simp; omega
    have hd2 : decide (19 < (s.size : Int)) = false := by simp; omega
    clear hs
    go_enter Try.func27, Try.ntmps27
    go_wp2_with (go_at_call 31; refine HC.out.mono ?_; rintro e w2 (⟨d, rfl, m⟩ | ⟨d, rfl, m⟩) <;> (have HD := hid d; have HM := hid m; clear d m))
    · go_ret
      exact ⟨by rw [HF.out, HD.out]; rfl, HM.out.bel⟩
    · go_ret
      exact ⟨by rw [HF.out, HD.out]; rfl, HM.out⟩
set_option maxHeartbeats 1000000 in
theorem isPin28 (s : ByteArray) (w : World) (hs : s.size ≤ 9223372036854775807) :
    Calls Try.prog 28 #[.string s] w fun e w' => e = .returned (.bool (pinB s)) ∧ w = w' := by
  have HC := hid (number29 s 4 w hs)
  have HP : Hid (pinB s = (numB 4 s && decide (s.size = 4))) := rfl
  generalize numB 4 s = B at HC HP
  by_cases h : s.size = 4
  · have hd : ((s.size : Int) == 4) = true := by simp; omega
    rw [decide_eq_true h] at HP
    clear hs h
    cases B
    · go_enter Try.func28, Try.ntmps28
      go_wp2_with (go_at_call 29; refine HC.out.mono ?_; rintro e w2 ⟨rfl, rfl⟩)
      go_ret
      exact ⟨by rw [HP.out]; rfl, rfl⟩
    · go_enter Try.func28, Try.ntmps28
      go_wp2_with (go_at_call 29; refine HC.out.mono ?_; rintro e w2 ⟨rfl, rfl⟩)
      go_ret
      exact ⟨by rw [HP.out]; rfl, rfl⟩
  · have hd : ((s.size : Int) == 4) = false := by rw [beq_eq_false_iff_ne]; omega
    rw [decide_eq_false h] at HP
    clear hs h
    cases B
    · go_enter Try.func28, Try.ntmps28
      go_wp2_with (go_at_call 29; refine HC.out.mono ?_; rintro e w2 ⟨rfl, rfl⟩)
      go_ret
      exact ⟨by rw [HP.out]; rfl, rfl⟩
    · go_enter Try.func28, Try.ntmps28
      go_wp2_with (go_at_call 29; refine HC.out.mono ?_; rintro e w2 ⟨rfl, rfl⟩)
      go_ret
      exact ⟨by rw [HP.out]; rfl, rfl⟩
set_option maxHeartbeats 1000000 in
theorem choose30 (s : St) (x : ByteArray) (w : World) (hs : x.size ≤ 9223372036854775807) :
    Calls Try.prog 30 #[s.val, .string x] w fun e w' => e = .returned (.int .i64 (choL s x)) ∧ Below w.heap.size w w' := by
  have HL := hid (choL_num s x)
  have HC := hid (fun w => number29 x 1 w hs)
  generalize numB 1 x = B at HC
  generalize numK 1 x = z at HC HL
  clear hs
  by_cases h1 : z = 1
  · subst h1
    go_enter Try.func30, Try.ntmps30
    go_wp2_with (first | (go_at_call 29; refine (HC.out _).mono ?_; rintro e w2 ⟨rfl, rfl⟩) | (refine bx34 rfl _ rfl rfl ?_; intro b0 w1 hb0 v1 l1; have c2 := v1.cell 2 (v := .int .i64 s.next) rfl; have V1 := hid v1; have L1 := hid l1; clear v1 l1))
    go_ret
    exact ⟨by rw [HL.out]; rfl, L1.out⟩
  · have d1 : (z == 1) = false := by simpa using h1
    by_cases h2 : z = 2
    · subst h2
      go_enter Try.func30, Try.ntmps30
      go_wp2_with (first | (go_at_call 29; refine (HC.out _).mono ?_; rintro e w2 ⟨rfl, rfl⟩) | (refine bx34 rfl _ rfl rfl ?_; intro b0 w1 hb0 v1 l1; have c2 := v1.cell 3 (v := .int .i64 s.other) rfl; have V1 := hid v1; have L1 := hid l1; clear v1 l1))
      go_ret
      exact ⟨by rw [HL.out]; rfl, L1.out⟩
    · have d2 : (z == 2) = false := by simpa using h2
      rw [if_neg h1, if_neg h2] at HL
      go_enter Try.func30, Try.ntmps30
      go_wp2_with (first | (go_at_call 29; refine (HC.out _).mono ?_; rintro e w2 ⟨rfl, rfl⟩) | (refine bx34 rfl _ rfl rfl ?_; intro b0 w1 hb0 v1 l1; have c2 := v1.cell 0 (v := .int .i64 s.id) rfl; have V1 := hid v1; have L1 := hid l1; clear v1 l1))
      go_ret
      exact ⟨by rw [HL.out]; rfl, L1.out⟩
end Go.Proofs.Ytnahbfnchopghaa
