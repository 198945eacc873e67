/- Tables whose numbers are ints. No function is walked. -/
import Derived.Test.YtnahbfnchopghaaFind
namespace Go.Proofs.Ytnahbfnchopghaa
open Go.ChangeShapes Go.WideShapes Go.ChangeAt Go.RowKit
def I64 (x : Int) : Prop := -9223372036854775808 ≤ x ∧ x < 9223372036854775808
def OkT (l : List St) : Prop := ∀ i, I64 (sAt l i).id ∧ I64 (sAt l i).next ∧ I64 (sAt l i).other ∧ 0 ≤ (sAt l i).kind ∧ (sAt l i).kind < 256
end Go.Proofs.Ytnahbfnchopghaa
