/- The states to which one leads: a row of numbers. -/
import Derived.Test.YthhgochnlbiaaaaTiny
namespace Go.Proofs.Ythhgochnlbiaaaa
open Go.ChangeShapes Go.WideShapes Go.ChangeAt Go.RowKit

/-- A call answers a row of numbers, in new memory. -/
def LdAns (w : World) (zs : List Int) (e : Ending) (w' : World) : Prop :=
  ∃ ao c n, e = .returned (.slice ao n c) ∧ zs.length = n ∧ (ao = none → n = 0 ∧ c = 0) ∧ n ≤ c ∧ c ≤ 2 ∧ I.RowAt w' ao zs ∧ (∀ a, ao = some a → w.heap.size ≤ a.block) ∧ Below w.heap.size w w'
theorem leads_two {s : St} (h : twoB s.kind = true) : leadsL s = [s.next, s.other] := by
  unfold leadsL
  rw [if_neg (fun e => by rw [e] at h; simp [twoB] at h), if_pos h]
theorem leads_one {s : St} (h : twoB s.kind = false) (h9 : s.kind ≠ 90) : leadsL s = [s.next] := by
  unfold leadsL
  rw [if_neg h9, if_neg (by rw [h]; simp)]
theorem two_iff {c : Int} : twoB c = true ↔ c = 66 ∨ c = 68 ∨ c = 69 := by
  unfold twoB; simp only [Bool.or_eq_true, beq_iff_eq]; constructor <;> intro h <;> omega
theorem row_two (w : World) (a b : Int) : I.RowAt (w.alloc (.cells #[.int .i64 a, .int .i64 b] 3)) (some ⟨w.heap.size, 0, none⟩) [a, b] := by
  refine .inr ⟨_, _, rfl, fun i hi => ?_⟩
  rw [Nat.zero_add, cell_of_head (heap_alloc_new w _)]
  have : i = 0 ∨ i = 1 := by simp at hi; omega
  rcases this with rfl | rfl <;> rfl
theorem row_one (w : World) (a : Int) : I.RowAt (w.alloc (.cells #[.int .i64 a] 3)) (some ⟨w.heap.size, 0, none⟩) [a] := by
  refine .inr ⟨_, _, rfl, fun i hi => ?_⟩
  rw [Nat.zero_add, cell_of_head (heap_alloc_new w _)]
  have : i = 0 := by simpa using hi
  subst this; rfl
set_option maxHeartbeats 2000000 in
theorem leads18 (s : St) (w : World) : Calls Try.prog 18 #[s.val] w (LdAns w (leadsL s)) := by
  obtain ⟨k, hk⟩ : ∃ k, s.kind = k := ⟨_, rfl⟩
  by_cases h9 : k = 90
  · have HL : Hid (leadsL s = []) := by unfold Hid leadsL; rw [if_pos (by omega)]
    subst h9
    go_enter Try.func18, Try.ntmps18
    go_wp2_with (refine bx34 (r := s) rfl _ rfl rfl ?_; intro b w1 hb hr hw; have c1 := hr.cell 1 (v := .int .u8 s.kind) rfl; rw [hk] at c1; have HW := hid hw; clear hr hw hb)
    go_ret
    exact ⟨none, 0, 0, rfl, by rw [HL.out]; rfl, fun _ => ⟨rfl, rfl⟩, by omega, by omega, by rw [HL.out]; exact .inl rfl, (fun _ e => by cases e), HW.out⟩
  · by_cases h2 : k = 66 ∨ k = 68 ∨ k = 69
    · have HL := hid (leads_two (s := s) (two_iff.2 (by rw [hk]; exact h2)))
      rcases h2 with rfl | rfl | rfl <;>
      · go_enter Try.func18, Try.ntmps18
        go_wp2_with (refine bx34 (r := s) rfl _ rfl rfl ?_; intro b w1 hb hr hw; have c1 := hr.cell 1 (v := .int .u8 s.kind) rfl; rw [hk] at c1; have c2 := hr.cell 2 (v := .int .i64 s.next) rfl; have c3 := hr.cell 3 (v := .int .i64 s.other) rfl; have HW := hid hw; clear hr hw hb)
        go_ret
        exact ⟨_, 2, 2, rfl, by rw [HL.out]; rfl, (fun e => by cases e), by omega, by omega, by rw [HL.out]; exact row_two _ _ _, (fun _ e => by cases e; exact HW.out.size), sq HW.out (bel1 _ _)⟩
    · have HL := hid (leads_one (s := s) (by cases e : twoB s.kind with | false => rfl | true => exact absurd (two_iff.1 e) (by rw [hk]; exact h2)) (by rw [hk]; exact h9))
      have e1 : (k == 90) = false := by simpa using h9
      have e2 : (k == 66) = false := by simp; omega
      have e3 : (k == 68) = false := by simp; omega
      have e4 : (k == 69) = false := by simp; omega
      clear h9 h2
      go_enter Try.func18, Try.ntmps18
      go_wp2_with (refine bx34 (r := s) rfl _ rfl rfl ?_; intro b w1 hb hr hw; have c1 := hr.cell 1 (v := .int .u8 s.kind) rfl; rw [hk] at c1; have c2 := hr.cell 2 (v := .int .i64 s.next) rfl; have HW := hid hw; clear hr hw hb)
      go_ret
      exact ⟨_, 1, 1, rfl, by rw [HL.out]; rfl, (fun e => by cases e), by omega, by omega, by rw [HL.out]; exact row_one _ _, (fun _ e => by cases e; exact HW.out.size), sq HW.out (bel1 _ _)⟩
end Go.Proofs.Ythhgochnlbiaaaa
