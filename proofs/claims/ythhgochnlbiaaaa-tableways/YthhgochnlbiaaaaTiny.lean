/- Letters among letters, kinds, the states to which one leads, the state of a number. -/
import Derived.Test.YthhgochnlbiaaaaSmall
import Derived.Test.YthhgochnlbiaaaaPure
import Derived.Test.YthhgochnlbiaaaaSts
namespace Go.Proofs.Ythhgochnlbiaaaa
open Go.ChangeShapes Go.WideShapes Go.ChangeAt Go.RowKit

theorem pan_getD (s : ByteArray) (k : Nat) (h : k < s.size) : (panL s).getD k 0 = (s[k].toNat : Int) := by
  have : k < s.data.toList.length := by simpa using h
  simp [panL, h]; rfl
/-- A letter among letters. -/
def hasC (s : ByteArray) (c : Int) : Bool := (panL s).any fun x => decide (x = c)
theorem any_snoc (p : Int → Bool) (l : List Int) (k : Nat) (h : k < l.length) : (l.take (k + 1)).any p = ((l.take k).any p || p (l.getD k 0)) := by
  rw [take_snocI l k h, List.any_append]; simp
theorem any_more {p : Int → Bool} {l : List Int} {k : Nat} (h : (l.take k).any p = true) : l.any p = true := by
  rw [← List.take_append_drop k l, List.any_append, h]; rfl
theorem all_snoc (p : Int → Bool) (l : List Int) (k : Nat) (h : k < l.length) : (l.take (k + 1)).all p = ((l.take k).all p && p (l.getD k 0)) := by
  rw [take_snocI l k h, List.all_append]; simp
theorem all_more {p : Int → Bool} {l : List Int} {k : Nat} (h : (l.take k).all p = false) : l.all p = false := by
  rw [← List.take_append_drop k l, List.all_append, h]; rfl
set_option maxHeartbeats 1000000 in
theorem has28 (s : ByteArray) (c : Int) (w : World) (hs : s.size ≤ 9223372036854775807) :
    Calls Try.prog 28 #[.string s, .int .u8 c] w fun e w' => e = .returned (.bool (hasC s c)) ∧ w = w' := by
  have HPL : Hid ((panL s).length = s.size) := panL_len s
  go_enter Try.func28, Try.ntmps28
  go_wp2
  go_loop [5] (fun i => ∃ k : Nat, k ≤ s.size ∧ i = .int .i64 (k : Int) ∧ ((panL s).take k).any (fun x => decide (x = c)) = false) (fun i => s.size - (intOf i).toNat)
  case atStart => exact ⟨0, by omega, rfl, rfl⟩
  case round =>
    obtain ⟨k, hk, rfl, hn⟩ := hrel
    have HN := hid hn
    clear hn
    by_cases hlt : k < s.size
    · have HS : Hid (((panL s).take (k + 1)).any (fun x => decide (x = c)) = decide ((s[k].toNat : Int) = c)) := by
        unfold Hid; rw [any_snoc _ _ _ (by rw [HPL.out]; exact hlt), HN.out, Bool.false_or, pan_getD s k hlt]
      by_cases hc : (s[k].toNat : Int) = c
      · have HT : Hid (hasC s c = true) := any_more (HS.out.trans (decide_eq_true hc))
        have e1 : ((s[k].toNat : Int) == c) = true := by simpa using hc
        clear HS
        go_wp2
        go_ret
        exact ⟨by rw [HT.out]; rfl, rfl⟩
      · have HF := hid (HS.out.trans (decide_eq_false hc))
        have e1 : ((s[k].toNat : Int) == c) = false := by simpa using hc
        clear HS
        go_wp2
        go_round
        case rel => exact ⟨k + 1, by omega, by go_num, HF.out⟩
        case measure => simp [intOf]; omega
    · have HT : Hid (hasC s c = false) := by
        have := HN.out; rwa [List.take_of_length_le (by rw [HPL.out]; omega)] at this
      go_wp2
      go_ret
      exact ⟨by rw [HT.out]; rfl, rfl⟩
def kindB (c : Int) : Bool := c == 65 || c == 66 || c == 68 || c == 69 || c == 73 || c == 90
theorem hasC_kind (c : Int) : hasC ⟨#[65, 66, 68, 69, 73, 90]⟩ c = kindB c := by
  have e : panL ⟨#[65, 66, 68, 69, 73, 90]⟩ = [65, 66, 68, 69, 73, 90] := rfl
  unfold hasC kindB
  rw [e, Bool.eq_iff_iff]
  simp only [List.any_cons, List.any_nil, Bool.or_eq_true, decide_eq_true_eq, beq_iff_eq, Bool.false_eq_true, or_false]
  constructor <;> intro h <;> omega
theorem hasC_two (c : Int) : hasC ⟨#[66, 68, 69]⟩ c = twoB c := by
  have e : panL ⟨#[66, 68, 69]⟩ = [66, 68, 69] := rfl
  unfold hasC twoB
  rw [e, Bool.eq_iff_iff]
  simp only [List.any_cons, List.any_nil, Bool.or_eq_true, decide_eq_true_eq, beq_iff_eq, Bool.false_eq_true, or_false]
  constructor <;> intro h <;> omega
theorem kind25 (c : Int) (w : World) : Calls Try.prog 25 #[.int .u8 c] w fun e w' => e = .returned (.bool (kindB c)) ∧ w = w' := by
  have HK := hid (hasC_kind c)
  go_enter Try.func25, Try.ntmps25
  go_wp2_with (go_at_call 28; refine (has28 _ c _ (by decide)).mono ?_; rintro e w2 ⟨rfl, rfl⟩; rw [HK.out])
  go_ret
  exact ⟨rfl, rfl⟩
theorem isKind30 (c : Int) (w : World) : Calls Try.prog 30 #[.int .u8 c] w fun e w' => e = .returned (.bool (kindB c)) ∧ w = w' := by
  by_cases h : c = 65 ∨ c = 66 ∨ c = 68 ∨ c = 69 ∨ c = 73 ∨ c = 90
  · have e : kindB c = true := by unfold kindB; simp only [Bool.or_eq_true, beq_iff_eq]; omega
    rw [e]
    rcases h with rfl | rfl | rfl | rfl | rfl | rfl <;> (go_enter Try.func30, Try.ntmps30; go_wp2; go_ret; exact ⟨rfl, rfl⟩)
  · have e : kindB c = false := by unfold kindB; simp only [Bool.or_eq_false_iff, beq_eq_false_iff_ne, ne_eq]; omega
    rw [e]
    have h1 : (c == 65) = false := by simp; omega
    have h2 : (c == 66) = false := by simp; omega
    have h3 : (c == 68) = false := by simp; omega
    have h4 : (c == 69) = false := by simp; omega
    have h5 : (c == 73) = false := by simp; omega
    have h6 : (c == 90) = false := by simp; omega
    clear h
    go_enter Try.func30, Try.ntmps30
    go_wp2
    go_ret
    exact ⟨rfl, rfl⟩
theorem two20 (s : St) (w : World) : Calls Try.prog 20 #[s.val] w fun e w' => e = .returned (.bool (twoB s.kind)) ∧ Below w.heap.size w w' := by
  have HK := hid (hasC_two s.kind)
  go_enter Try.func20, Try.ntmps20
  go_wp2_with (first | (go_at_call 28; refine (has28 _ s.kind _ (by decide)).mono ?_; rintro e w2 ⟨rfl, rfl⟩; rw [HK.out]) | (refine bx34 (r := s) rfl _ rfl rfl ?_; intro b w1 hb hr hw; have c1 := hr.cell 1 (v := .int .u8 s.kind) rfl; have HW := hid hw; clear hr hw hb))
  go_ret
  exact ⟨rfl, HW.out⟩
end Go.Proofs.Ythhgochnlbiaaaa
