/- Records one behind another, plainly. -/
import Derived.Test.YtmojndacjngjpaaFace
namespace Go.Proofs.Ytmojndacjngjpaa
open Go.RowKit

def catL (R : Nat → Rc) : Nat → List Int
  | 0 => []
  | m + 1 => catL R m ++ putL (R m)
def lnL (R : Nat → Rc) (m : Nat) : Nat := (catL R m).length
theorem ln_succ (R : Nat → Rc) (m : Nat) : lnL R (m + 1) = lnL R m + (putL (R m)).length := by simp [lnL, catL]
theorem cat_parts (R : Nat → Rc) (i : Nat) : ∀ N, i < N → ∃ rest, catL R N = catL R i ++ (putL (R i) ++ rest)
  | 0, h => absurd h (by omega)
  | N + 1, h => by
    by_cases e : i = N
    · subst e; exact ⟨[], by rw [List.append_nil]; rfl⟩
    · obtain ⟨rest, hr⟩ := cat_parts R i N (by omega)
      exact ⟨rest ++ putL (R N), by rw [catL, hr]; simp⟩
theorem ln_le (R : Nat → Rc) {i N : Nat} (h : i < N) : lnL R (i + 1) ≤ lnL R N := by
  obtain ⟨rest, hr⟩ := cat_parts R i N h
  rw [ln_succ, lnL, lnL, hr]; simp
theorem cat_byt {R : Nat → Rc} (h : ∀ i, (R i).pan.size ≤ 19) : ∀ N, Byt (catL R N)
  | 0 => by intro x hx; simp [catL] at hx
  | N + 1 => byt_app (cat_byt h N) (putL_byt (h N))
theorem ln_bd {R : Nat → Rc} (h : ∀ i, (R i).pan.size ≤ 19) : ∀ N, 42 * N ≤ lnL R N ∧ lnL R N ≤ 61 * N
  | 0 => by simp [lnL, catL]
  | N + 1 => by
    have := ln_bd h N
    have := h N
    rw [ln_succ, putL_len]; omega
theorem seg {R : Nat → Rc} {i N : Nat} (h : i < N) (c : Nat) : ∃ rest, ((catL R N).take c).drop (lnL R i) = (putL (R i) ++ rest).take (c - lnL R i) := by
  obtain ⟨rest, hr⟩ := cat_parts R i N h
  refine ⟨rest, ?_⟩
  rw [hr, List.drop_take, lnL, List.drop_left]
theorem seg_yes {R : Nat → Rc} {i N c : Nat} (h : i < N) (hc : lnL R (i + 1) ≤ c) (hr : rightB (R i) = true) (ho : (R i).Ok) :
    errX (((catL R N).take c).drop (lnL R i)) = 0 ∧ recX (((catL R N).take c).drop (lnL R i)) = R i ∧ lenX (((catL R N).take c).drop (lnL R i)) = ((putL (R i)).length : Int) := by
  have h1 := ln_succ R i
  obtain ⟨rest, e⟩ := seg h c
  rw [e, List.take_append, List.take_of_length_le (by omega)]
  exact back hr ho _
theorem seg_no {R : Nat → Rc} {i N c : Nat} (h : i < N) (hc : lnL R i ≤ c) (hc' : c < lnL R (i + 1)) :
    errX (((catL R N).take c).drop (lnL R i)) = 23 ∧ lenX (((catL R N).take c).drop (lnL R i)) = 0 := by
  have h1 := ln_succ R i
  obtain ⟨rest, e⟩ := seg h c
  have e0 : errX (((catL R N).take c).drop (lnL R i)) = 23 := by
    rw [e, List.take_append, show c - lnL R i - (putL (R i)).length = 0 by omega, List.take_zero, List.append_nil]
    exact cut_none _ (by omega)
  exact ⟨e0, len_none (by rw [e0]; decide)⟩
end Go.Proofs.Ytmojndacjngjpaa
