/- Letters among letters, fields among fields, which kind a first part tells, notes within limits. -/
import Derived.Test.YtbipikbefokihaaDoorNums37
namespace Go.Proofs.YtbipikbefokihaaDoor
open Go.ChangeShapes Go.WideShapes Go.ChangeAt Go.RowKit

/-- A letter among letters. -/
def hasC (s : ByteArray) (c : Int) : Bool := (panL s).any fun x => decide (x = c)
theorem any_snoc (p : Int → Bool) (l : List Int) (k : Nat) (h : k < l.length) : (l.take (k + 1)).any p = ((l.take k).any p || p (l.getD k 0)) := by
  rw [take_snocI l k h, List.any_append]; simp
theorem any_more {p : Int → Bool} {l : List Int} {k : Nat} (h : (l.take k).any p = true) : l.any p = true := by
  rw [← List.take_append_drop k l, List.any_append, h]; rfl
theorem all_snoc (p : Int → Bool) (l : List Int) (k : Nat) (h : k < l.length) : (l.take (k + 1)).all p = ((l.take k).all p && p (l.getD k 0)) := by
  rw [take_snocI l k h, List.all_append]; simp
theorem all_more {p : Int → Bool} {l : List Int} {k : Nat} (h : (l.take k).all p = false) : l.all p = false := by
  rw [← List.take_append_drop k l, List.all_append, h]; rfl
set_option maxHeartbeats 1000000 in
theorem has28 (s : ByteArray) (c : Int) (w : World) (hs : s.size ≤ 9223372036854775807) :
    Calls Tryd.prog 28 #[.string s, .int .u8 c] w fun e w' => e = .returned (.bool (hasC s c)) ∧ w = w' := by
  have HPL : Hid ((panL s).length = s.size) := panL_len s
  go_enter Tryd.func28, Tryd.ntmps28
  go_wp2
  go_loop [5] (fun i => ∃ k : Nat, k ≤ s.size ∧ i = .int .i64 (k : Int) ∧ ((panL s).take k).any (fun x => decide (x = c)) = false) (fun i => s.size - (intOf i).toNat)
  case atStart => exact ⟨0, by omega, rfl, rfl⟩
  case round =>
    obtain ⟨k, hk, rfl, hn⟩ := hrel
    have HN := hid hn
    clear hn
    by_cases hlt : k < s.size
    · have HS : Hid (((panL s).take (k + 1)).any (fun x => decide (x = c)) = decide ((s[k].toNat : Int) = c)) := by
        unfold Hid; rw [any_snoc _ _ _ (by rw [HPL.out]; exact hlt), HN.out, Bool.false_or, pan_getD s k hlt]
      by_cases hc : (s[k].toNat : Int) = c
      · have HT : Hid (hasC s c = true) := any_more (HS.out.trans (decide_eq_true hc))
        have e1 : ((s[k].toNat : Int) == c) = true := by simpa using hc
        clear HS
        go_wp2
        go_ret
        exact ⟨by rw [HT.out]; rfl, rfl⟩
      · have HF := hid (HS.out.trans (decide_eq_false hc))
        have e1 : ((s[k].toNat : Int) == c) = false := by simpa using hc
        clear HS
        go_wp2
        go_round
        case rel => exact ⟨k + 1, by omega, by go_num, HF.out⟩
        case measure => simp [intOf]; omega
    · have HT : Hid (hasC s c = false) := by
        have := HN.out; rwa [List.take_of_length_le (by rw [HPL.out]; omega)] at this
      go_wp2
      go_ret
      exact ⟨by rw [HT.out]; rfl, rfl⟩
def IxB (z : Int) (l : List Int) (f : Int) : Prop := decide (0 ≤ z) = l.contains f
set_option maxHeartbeats 1000000 in
theorem index41 (ao : Option Addr) (len cap : Nat) (l : List Int) (f : Int) (w : World) (h : I.Given w ao len cap l) :
    Calls Tryd.prog 41 #[.slice ao len cap, .int .i64 f] w fun e w' => ∃ z : Int, e = .returned (.int .i64 z) ∧ IxB z l f ∧ w = w' := by
  have HQ := hid h.leq
  have HC : Hid (∀ i, i < len → ∃ b o, ao = some ⟨b, o, none⟩ ∧ w.cell? ⟨b, o + i, none⟩ = some (.int .i64 (l.getD i 0))) := fun i hi => h.cell i hi
  have hm : len ≤ 9223372036854775807 := Nat.le_trans h.cap1 h.cap2
  have hcap := h.cap1
  have HE : Hid (l.contains f = l.any fun x => decide (f = x)) := by
    unfold Hid; rw [List.contains_eq_any_beq]; rfl
  clear h
  go_enter Tryd.func41, Tryd.ntmps41
  go_wp2
  go_loop [8] (fun i => ∃ k : Nat, k ≤ len ∧ i = .int .i64 (k : Int) ∧ (l.take k).any (fun x => decide (f = x)) = false) (fun i => len - (intOf i).toNat)
  case atStart => exact ⟨0, by omega, rfl, rfl⟩
  case round =>
    obtain ⟨k, hk, rfl, hn⟩ := hrel
    have HN := hid hn
    clear hn
    by_cases hlt : k < len
    · obtain ⟨b, o, rfl, hc⟩ := HC.out k hlt
      have HS : Hid ((l.take (k + 1)).any (fun x => decide (f = x)) = decide (f = l.getD k 0)) := by
        unfold Hid; rw [any_snoc _ _ _ (by rw [HQ.out]; exact hlt), HN.out, Bool.false_or]
      generalize l.getD k 0 = z at *
      by_cases hz : f = z
      · have HT : Hid (l.contains f = true) := HE.out.trans (any_more (HS.out.trans (decide_eq_true hz)))
        have e1 : (f == z) = true := by simpa using hz
        clear HS
        go_wp2
        go_ret
        exact ⟨(k : Int), rfl, by unfold IxB; rw [← hz, HT.out]; simp, rfl⟩
      · have HF := hid (HS.out.trans (decide_eq_false hz))
        have e1 : (f == z) = false := by simpa using hz
        clear HS
        go_wp2
        go_round
        case rel => exact ⟨k + 1, by omega, by go_num, HF.out⟩
        case measure => simp [intOf]; omega
    · have HT : Hid (l.contains f = false) := by
        have := HN.out; rw [List.take_of_length_le (by rw [HQ.out]; omega)] at this; exact HE.out.trans this
      go_wp2
      go_ret
      exact ⟨-1, rfl, by unfold IxB; rw [HT.out]; rfl, rfl⟩
theorem contains25 (ao : Option Addr) (len cap : Nat) (l : List Int) (f : Int) (w : World) (h : I.Given w ao len cap l) :
    Calls Tryd.prog 25 #[.slice ao len cap, .int .i64 f] w fun e w' => e = .returned (.bool (l.contains f)) ∧ w = w' := by
  have HG := hid h
  clear h
  go_enter Tryd.func25, Tryd.ntmps25
  go_wp2_with (go_at_call 41; refine (index41 _ _ _ _ f _ HG.out).mono ?_; rintro e w2 ⟨z, rfl, hz, rfl⟩; have HZ := hid hz; clear hz)
  go_ret
  exact ⟨by have := HZ.out; unfold IxB at this; rw [← this]; rfl, rfl⟩
set_option maxHeartbeats 1000000 in
theorem within30 (L : List Int) (x0 x1 x2 x3 hi : Int) (w : World) (hL : [x0, x1, x2, x3] = L) :
    Calls Tryd.prog 30 #[.agg #[.int .i64 x0, .int .i64 x1, .int .i64 x2, .int .i64 x3], .int .i64 hi] w fun e w' => e = .returned (.bool (L.all (inB hi))) ∧ Below w.heap.size w w' := by
  have HLL := hid hL
  clear hL
  go_enter Tryd.func30, Tryd.ntmps30
  go_wp2_with (refine bx25 rfl _ rfl rfl ?_; intro b1 w1 hb1 v1 l1; have V1 := hid v1; have L1 := hid l1; clear v1 l1)
  have HC : Hid (∀ k, k < 4 → w1.cell? ⟨b1, k, none⟩ = some (.int .i64 (L.getD k 0))) := fun k hk => by
    have h4 : k = 0 ∨ k = 1 ∨ k = 2 ∨ k = 3 := by omega
    have hL := HLL.out
    subst hL
    have := V1.out.at0 k
    rw [Nat.zero_add] at this
    rcases h4 with rfl | rfl | rfl | rfl <;> exact this _ rfl
  have HQ : Hid (L.length = 4) := by unfold Hid; rw [← HLL.out]; rfl
  clear V1 HLL
  go_loop [5] (fun i => ∃ k : Nat, k ≤ 4 ∧ i = .int .i64 (k : Int) ∧ (L.take k).all (inB hi) = true) (fun i => 4 - (intOf i).toNat)
  case atStart => exact ⟨0, by omega, rfl, rfl⟩
  case round =>
    obtain ⟨k, hk, rfl, hn⟩ := hrel
    have HN := hid hn
    clear hn
    by_cases hlt : k < 4
    · have hc := HC.out k hlt
      have HS : Hid ((L.take (k + 1)).all (inB hi) = inB hi (L.getD k 0)) := by
        unfold Hid; rw [all_snoc _ _ _ (by rw [HQ.out]; exact hlt), HN.out, Bool.true_and]
      generalize L.getD k 0 = z at *
      by_cases h0 : z < 0
      · have HT : Hid (L.all (inB hi) = false) := all_more (HS.out.trans (by unfold inB; rw [decide_eq_false (by omega)]))
        clear HS
        go_wp2
        go_ret
        exact ⟨by rw [HT.out]; rfl, L1.out⟩
      · by_cases h1 : hi < z
        · have HT : Hid (L.all (inB hi) = false) := all_more (HS.out.trans (by unfold inB; rw [decide_eq_false (by omega)]))
          clear HS
          go_wp2
          go_ret
          exact ⟨by rw [HT.out]; rfl, L1.out⟩
        · have HT : Hid ((L.take (k + 1)).all (inB hi) = true) := HS.out.trans (by unfold inB; rw [decide_eq_true (by omega)])
          clear HS
          go_wp2
          go_round
          case rel => exact ⟨k + 1, by omega, by go_num, HT.out⟩
          case measure => simp [intOf]; omega
    · have HT : Hid (L.all (inB hi) = true) := by
        have := HN.out; rwa [List.take_of_length_le (by rw [HQ.out]; omega)] at this
      go_wp2
      go_ret
      exact ⟨by rw [HT.out]; rfl, L1.out⟩
/-- Where a letter's notes lie in a message. -/
def offC (c : Int) : Nat := if c = 110 then 5 else if c = 114 then 9 else if c = 99 then 13 else if c = 100 then 17 else 22
def fldC (c : Int) : Int := if c = 110 then 4 else if c = 114 then 5 else if c = 99 then 6 else if c = 100 then 7 else 9
set_option maxHeartbeats 1000000 in
theorem notes23 (b : Nat) (c : Int) (w : World) (hc : c = 110 ∨ c = 114 ∨ c = 99 ∨ c = 100 ∨ c = 109) :
    Calls Tryd.prog 23 #[.pointer (some ⟨b, 0, none⟩), .int .u8 c] w fun e w' => e = .returned (.tuple #[.pointer (some ⟨b, offC c, none⟩), .int .i64 (mostF (fldC c))]) ∧ w = w' := by
  rcases hc with rfl | rfl | rfl | rfl | rfl <;> (
    go_enter Tryd.func23, Tryd.ntmps23
    go_wp2
    go_ret2
    exact ⟨rfl, rfl⟩)
end Go.Proofs.YtbipikbefokihaaDoor
