/- Letters among letters, kinds, the states to which one leads, the state of a number. -/
import Derived.Test.YtnahbfnchopghaaSmall
import Derived.Test.YtnahbfnchopghaaPure
import Derived.Test.YtnahbfnchopghaaSts
namespace Go.Proofs.Ytnahbfnchopghaa
open Go.ChangeShapes Go.WideShapes Go.ChangeAt Go.RowKit

theorem pan_getD (s : ByteArray) (k : Nat) (h : k < s.size) : (panL s).getD k 0 = (s[k].toNat : Int) := by
  have : k < s.data.toList.length := by simpa using h
  simp [panL, h]; rfl
/-- A letter among letters. -/
def hasC (s : ByteArray) (c : Int) : Bool := (panL s).any fun x => decide (x = c)
theorem any_snoc (p : Int → Bool) (l : List Int) (k : Nat) (h : k < l.length) : (l.take (k + 1)).any p = ((l.take k).any p || p (l.getD k 0)) := by
  rw [take_snocI l k h, List.any_append]; simp
theorem any_more {p : Int → Bool} {l : List Int} {k : Nat} (h : (l.take k).any p = true) : l.any p = true := by
  rw [← List.take_append_drop k l, List.any_append, h]; rfl
theorem all_snoc (p : Int → Bool) (l : List Int) (k : Nat) (h : k < l.length) : (l.take (k + 1)).all p = ((l.take k).all p && p (l.getD k 0)) := by
  rw [take_snocI l k h, List.all_append]; simp
theorem all_more {p : Int → Bool} {l : List Int} {k : Nat} (h : (l.take k).all p = false) : l.all p = false := by
  rw [← List.take_append_drop k l, List.all_append, h]; rfl
set_option maxHeartbeats 1000000 in
theorem has28 (s : ByteArray) (c : Int) (w : World) (hs : s.size ≤ 9223372036854775807) :
    Calls Try.prog 24 #[.string s, .int .u8 c] w fun e w' => e = .returned (.bool (hasC s c)) ∧ w = w' := by
  have HPL : Hid ((panL s).length = s.size) := panL_len s
  go_enter Try.func24, Try.ntmps24
  go_wp2
  go_loop [5] (fun i => ∃ k : Nat, k ≤ s.size ∧ i = .int .i64 (k : Int) ∧ ((panL s).take k).any (fun x => decide (x = c)) = false) (fun i => s.size - (intOf i).toNat)
  case atStart => exact ⟨0, by omega, rfl, rfl⟩
  case round =>
    obtain ⟨k, hk, rfl, hn⟩ := hrel
    have HN := hid hn
    clear hn
    by_cases hlt : k < s.size
    · have HS : Hid (((panL s).take (k + 1)).any (fun x => decide (x = c)) = decide ((s[k].toNat : Int) = c)) := by
        unfold Hid; rw [any_snoc _ _ _ (by rw [HPL.out]; exact hlt), HN.out, Bool.false_or, pan_getD s k hlt]
      by_cases hc : (s[k].toNat : Int) = c
      · have HT : Hid (hasC s c = true) := any_more (HS.out.trans (decide_eq_true hc))
        have e1 : ((s[k].toNat : Int) == c) = true := by simpa using hc
        clear HS
        go_wp2
        go_ret
        exact ⟨by rw [HT.out]; rfl, rfl⟩
      · have HF := hid (HS.out.trans (decide_eq_false hc))
        have e1 : ((s[k].toNat : Int) == c) = false := by simpa using hc
        clear HS
        go_wp2
        go_round
        case rel => exact ⟨k + 1, by omega, by go_num, HF.out⟩
        case measure => simp [intOf]; omega
    · have HT : Hid (hasC s c = false) := by
        have := HN.out; rwa [List.take_of_length_le (by rw [HPL.out]; omega)] at this
      go_wp2
      go_ret
      exact ⟨by rw [HT.out]; rfl, rfl⟩
def kindB (c : Int) : Bool := c == 65 || c == 66 || c == 68 || c == 69 || c == 73 || c == 90
theorem hasC_kind (c : Int) : hasC ⟨#[65, 66, 68, 69, 73, 90]⟩ c = kindB c := by
  have e : panL ⟨#[65, 66, 68, 69, 73, 90]⟩ = [65, 66, 68, 69, 73, 90] := rfl
  unfold hasC kindB
  rw [e, Bool.eq_iff_iff]
  simp only [List.any_cons, List.any_nil, Bool.or_eq_true, decide_eq_true_eq, beq_iff_eq, Bool.false_eq_true, or_false]
  constructor <;> intro h <;> omega
theorem hasC_two (c : Int) : hasC ⟨#[66, 68, 69]⟩ c = twoB c := by
  have e : panL ⟨#[66, 68, 69]⟩ = [66, 68, 69] := rfl
  unfold hasC twoB
  rw [e, Bool.eq_iff_iff]
  simp only [List.any_cons, List.any_nil, Bool.or_eq_true, decide_eq_true_eq, beq_iff_eq, Bool.false_eq_true, or_false]
  constructor <;> intro h <;> omega
theorem kind25 (c : Int) (w : World) : Calls Try.prog 17 #[.int .u8 c] w fun e w' => e = .returned (.bool (kindB c)) ∧ w = w' := by
  have HK := hid (hasC_kind c)
  go_enter Try.func17, Try.ntmps17
  go_wp2_with (go_at_call 24; refine (has28 _ c _ (by decide)).mono ?_; rintro e w2 ⟨rfl, rfl⟩; rw [HK.out])
  go_ret
  exact ⟨rfl, rfl⟩
end Go.Proofs.Ytnahbfnchopghaa
