/- Which table a text is, or at which line none; the text of a table. No function is walked. -/
import Derived.Test.YthhgochnlbiaaaaLns
namespace Go.Proofs.Ythhgochnlbiaaaa
open Go.ChangeShapes Go.WideShapes Go.ChangeAt Go.RowKit

/-- What is left behind k lines. -/
def rest14 (x : List Int) (k : Nat) : List Int := x.drop (14 * k)
theorem rest_0 (x : List Int) : rest14 x 0 = x := rfl
theorem rest_more (x : List Int) (k : Nat) : (rest14 x k).drop 14 = rest14 x (k + 1) := by
  unfold rest14; rw [List.drop_drop]; congr 1
theorem rest_byt {x : List Int} (h : Byt x) (k : Nat) : Byt (rest14 x k) := byt_drop h _
theorem rest_len (x : List Int) (k : Nat) : (rest14 x k).length ≤ x.length := by unfold rest14; rw [List.length_drop]; omega
/-- From line k on: an error's code, its line, and how many states. -/
def prsF (x : List Int) : Nat → Nat → Int × Int × Nat
  | 0, k => (0, 0, k)
  | f + 1, k => if rest14 x k = [] then (0, 0, k) else if firstK (rest14 x k) = false then (28, (k : Int) + 1, 0) else if 100 ≤ k then (25, (k : Int) + 1, 0) else prsF x f (k + 1)
def prsL (x : List Int) : Int × Int × Nat := prsF x 101 0
def prsAt (x : List Int) (k : Nat) : Int × Int × Nat := prsF x (101 - k) k
theorem prs_start (x : List Int) : prsAt x 0 = prsL x := rfl
theorem prs_unf {x : List Int} {k : Nat} (h : k ≤ 100) : prsAt x k = if rest14 x k = [] then (0, 0, k) else if firstK (rest14 x k) = false then (28, (k : Int) + 1, 0) else if 100 ≤ k then (25, (k : Int) + 1, 0) else prsF x (100 - k) (k + 1) := by
  unfold prsAt
  rw [show 101 - k = (100 - k) + 1 by omega]
  rfl
theorem prs_end {x : List Int} {k : Nat} (h : k ≤ 100) (h0 : rest14 x k = []) : prsAt x k = (0, 0, k) := by rw [prs_unf h, if_pos h0]
theorem prs_text {x : List Int} {k : Nat} (h : k ≤ 100) (h0 : rest14 x k ≠ []) (h1 : firstK (rest14 x k) = false) : prsAt x k = (28, (k : Int) + 1, 0) := by rw [prs_unf h, if_neg h0, if_pos h1]
theorem prs_size {x : List Int} {k : Nat} (h : k = 100) (h0 : rest14 x k ≠ []) (h1 : firstK (rest14 x k) = true) : prsAt x k = (25, (k : Int) + 1, 0) := by rw [prs_unf (by omega), if_neg h0, if_neg (by rw [h1]; decide), if_pos (by omega)]
theorem prs_more {x : List Int} {k : Nat} (h : k < 100) (h0 : rest14 x k ≠ []) (h1 : firstK (rest14 x k) = true) : prsAt x k = prsAt x (k + 1) := by
  rw [prs_unf (by omega), if_neg h0, if_neg (by rw [h1]; decide), if_neg (by omega)]
  unfold prsAt
  rw [show 101 - (k + 1) = 100 - k by omega]
/-- The states of the first k lines. -/
def stsL (x : List Int) (k : Nat) : List St := (List.range k).map fun j => firstV (rest14 x j)
theorem sts_len (x : List Int) (k : Nat) : (stsL x k).length = k := by simp [stsL]
theorem sts_more (x : List Int) (k : Nat) : stsL x k ++ [firstV (rest14 x k)] = stsL x (k + 1) := by
  unfold stsL; rw [List.range_succ, List.map_append]; rfl
theorem prsF_cnt (x : List Int) : ∀ f k, k + f ≤ 101 → (prsF x f k).2.2 ≤ 101
  | 0, k, h => by unfold prsF; show k ≤ 101; omega
  | f + 1, k, h => by
    unfold prsF
    split
    · show k ≤ 101; omega
    · split
      · show 0 ≤ 101; omega
      · split
        · show 0 ≤ 101; omega
        · exact prsF_cnt x f (k + 1) (by omega)
theorem prs_cnt (x : List Int) : (prsL x).2.2 ≤ 101 := prsF_cnt x 101 0 (by omega)
/-- The text of a table. -/
def textK (l : List St) : Bool := l.all lineK
def textX (l : List St) : List Int := l.flatMap lineL
def textL (l : List St) : List Int := if textK l = true then textX l else []
theorem text_no {l : List St} {k : Nat} (hk : k < l.length) (h : lineK (sAt l k) = false) : textL l = [] := by
  have : textK l = false := by
    unfold textK
    rw [List.all_eq_false]
    exact ⟨_, sAt_mem hk, by rw [h]; decide⟩
  unfold textL; rw [this]; rfl
theorem text_yes {l : List St} (h : ∀ k, k < l.length → lineK (sAt l k) = true) : textL l = textX l := by
  have : textK l = true := by
    unfold textK
    rw [List.all_eq_true]
    intro s hs
    obtain ⟨i, hi, rfl⟩ := mem_sAt hs
    exact h i hi
  unfold textL; rw [if_pos this]
theorem take_snocS (l : List St) (k : Nat) (h : k < l.length) : l.take (k + 1) = l.take k ++ [sAt l k] := by
  rw [List.take_succ_eq_append_getElem h]; simp [sAt, h]
theorem textX_snoc (l : List St) (k : Nat) (h : k < l.length) : textX (l.take (k + 1)) = textX (l.take k) ++ lineL (sAt l k) := by
  rw [take_snocS l k h]; unfold textX; simp
theorem textX_len (l : List St) : (textX l).length = l.length * 14 := by
  unfold textX
  induction l with
  | nil => rfl
  | cons s l ih => rw [List.flatMap_cons, List.length_append, ih, lineL_len, List.length_cons]; omega
theorem textL_len (l : List St) : (textL l).length ≤ l.length * 14 := by
  unfold textL; split
  · rw [textX_len]; omega
  · simp
theorem textL_byt (l : List St) : Byt (textL l) := by
  unfold textL
  split
  · rename_i h
    intro x hx
    obtain ⟨s, hs, hx⟩ := List.mem_flatMap.1 hx
    have := List.all_eq_true.1 h s hs
    exact lineL_byt (kind_byt (line_parts this).2.2.2) x hx
  · intro x hx; cases hx
end Go.Proofs.Ythhgochnlbiaaaa
