/- Frame: the frame of bytes. -/
import Derived.Test.YtbipikbefokihaaDoorWSm
namespace Go.Proofs.YtbipikbefokihaaDoor
open Go.ChangeShapes Go.WideShapes Go.ChangeAt Go.RowKit

def frX (b : List Int) : List Int := if frOk b = true then frL b else []
/-- What Frame answers. -/
def FrAns (w : World) (b : List Int) (e : Ending) (w' : World) : Prop :=
  ∃ ao n c, e = .returned (.tuple #[.slice ao n c, .bool (frOk b)]) ∧ Mk w w' (.slice ao n c) n (frX b)
theorem fr_no {w w' : World} {b : List Int} (h : frOk b = false) (hb : Below w.heap.size w w') : FrAns w b (.returned (.tuple #[.slice none 0 0, .bool false])) w' :=
  ⟨none, 0, 0, by rw [h], by unfold frX; rw [h]; exact (Mk.nil w).more hb⟩
theorem fr_yes {w w' : World} {b : List Int} {ao : Option Addr} {n c : Nat} (h : frOk b = true) (hm : Mk w w' (.slice ao n c) n (frL b)) : FrAns w b (.returned (.tuple #[.slice ao n c, .bool true])) w' :=
  ⟨ao, n, c, by rw [h], by unfold frX; rw [if_pos h]; exact hm⟩
theorem frOk_long {b : List Int} (h : 500 < b.length) : frOk b = false := by unfold frOk; rw [decide_eq_false (by omega)]; rfl
theorem frOk_mark {b : List Int} (h : mkB b = true) : frOk b = false := by unfold frOk; rw [h]; simp
theorem frOk_yes {b : List Int} (h : b.length ≤ 500) (h' : mkB b = false) : frOk b = true := by unfold frOk; rw [h', decide_eq_true h]; rfl
/-- The row of one byte, new. -/
theorem one_row (w : World) (x : Int) : RowAt (w.alloc (.cells #[.int .u8 x] 5)) (some ⟨w.heap.size, 0, none⟩) [x] := (Mk.new w [x] 1 rfl (by omega)).1.at
theorem len1 (x : Int) : [x].length = 1 := rfl
end Go.Proofs.YtbipikbefokihaaDoor
