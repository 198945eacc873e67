/-
  No cell of these rows narrows 'for every input' (looked for: loops, veiled, ifaces, maps, wideKeys, modest, calm, conditions, laid).
  DERIVED. THE GIVEN ROWS OF THIS SEAT. 4 by the template 'for every input the law returns true; each argument reads behind the call as it read before'; 0 by the template 'total and deterministic' (their statements: YtnahbfnchopghaaTotals.lean).
  GIVEN WITH THE SEED: the statements are not yours to turn. If you find one false, say at which input.
  Laid BY PROGRAM, IN A SANDBOX (cutbox-rows.mjs): the forced cells as the released guide's own fill.sh prints them over the translation 50da00a191351df2… (all of the seat's roots in one cut). By AI agents, Wed Nov 11 2026. No macro, syntax, notation, axiom, sorry.
-/
import Derived.Test.YtnahbfnchopghaaChecked
import GoSem.Claim
import GoSem.ClaimJoined
import GoSem.ClaimMapViews
import Derived.JoinedTies
import Derived.KernelRfl
namespace Go.Proofs.Ytnahbfnchopghaa
/- THE CELL 'sum', in the pinned program and in every row, IS THE sha256 OF THE DUMP (.gsa) THAT YtnahbfnchopghaaProg.lean LOADS. Nothing in Lean hashes anything: it is a label: what it is worth is what the hold of that sum in a sandbox is worth. -/
noncomputable def Try.pinned : Pinned := { name := "ytnahbfnchopghaa", sum := "50da00a191351df28b36a55a9566fbca54343e5b6b45cfe2b99c36a9d29c869c", checked := Try.checked }
namespace Rows
def none {H : Type} : Left H := { results := [], args := [] }

/-- 'guichetlaw15.WalkTells': WHATEVER THE INPUT: true; the input reads as it did. -/
def walkTellsSpec : ChangeSpec := { name := "walkTells", fn := fun _ => fun
  | [d1, d2, d3, d4, d5, d6] => { results := [.lit (.bool true)], args := [d1, d2, d3, d4, d5, d6] }
  | _ => none }
def walkTellsRow : OpenClaim := { program := "ytnahbfnchopghaa", sum := "50da00a191351df28b36a55a9566fbca54343e5b6b45cfe2b99c36a9d29c869c", func := "guichet/guichetlaw15.WalkTells", spec := "walkTells", apart := false }
def WalkTellsSaid : Prop := walkTellsRow.holds Try.pinned (OpenSpec.ofChange walkTellsSpec)

/-- ITS FALSE NEIGHBOUR: 'it returns false'. Refute it at one input. -/
def walkTellsWrong : ChangeSpec := { name := "walkTells", fn := fun _ => fun
  | [d1, d2, d3, d4, d5, d6] => { results := [.lit (.bool false)], args := [d1, d2, d3, d4, d5, d6] }
  | _ => none }
def WalkTellsWrongFalsely : Prop := walkTellsRow.holds Try.pinned (OpenSpec.ofChange walkTellsWrong)

/-- 'guichetlaw15.WalkEnds': WHATEVER THE INPUT: true; the input reads as it did. -/
def walkEndsSpec : ChangeSpec := { name := "walkEnds", fn := fun _ => fun
  | [d1, d2, d3] => { results := [.lit (.bool true)], args := [d1, d2, d3] }
  | _ => none }
def walkEndsRow : OpenClaim := { program := "ytnahbfnchopghaa", sum := "50da00a191351df28b36a55a9566fbca54343e5b6b45cfe2b99c36a9d29c869c", func := "guichet/guichetlaw15.WalkEnds", spec := "walkEnds", apart := false }
def WalkEndsSaid : Prop := walkEndsRow.holds Try.pinned (OpenSpec.ofChange walkEndsSpec)

/-- ITS FALSE NEIGHBOUR: 'it returns false'. Refute it at one input. -/
def walkEndsWrong : ChangeSpec := { name := "walkEnds", fn := fun _ => fun
  | [d1, d2, d3] => { results := [.lit (.bool false)], args := [d1, d2, d3] }
  | _ => none }
def WalkEndsWrongFalsely : Prop := walkEndsRow.holds Try.pinned (OpenSpec.ofChange walkEndsWrong)

/-- 'guichetlaw15.WalkAsks': WHATEVER THE INPUT: true; the input reads as it did. -/
def walkAsksSpec : ChangeSpec := { name := "walkAsks", fn := fun _ => fun
  | [d1, d2, d3] => { results := [.lit (.bool true)], args := [d1, d2, d3] }
  | _ => none }
def walkAsksRow : OpenClaim := { program := "ytnahbfnchopghaa", sum := "50da00a191351df28b36a55a9566fbca54343e5b6b45cfe2b99c36a9d29c869c", func := "guichet/guichetlaw15.WalkAsks", spec := "walkAsks", recurses := true, apart := false }
def WalkAsksSaid : Prop := walkAsksRow.holds Try.pinned (OpenSpec.ofChange walkAsksSpec)

/-- ITS FALSE NEIGHBOUR: 'it returns false'. Refute it at one input. -/
def walkAsksWrong : ChangeSpec := { name := "walkAsks", fn := fun _ => fun
  | [d1, d2, d3] => { results := [.lit (.bool false)], args := [d1, d2, d3] }
  | _ => none }
def WalkAsksWrongFalsely : Prop := walkAsksRow.holds Try.pinned (OpenSpec.ofChange walkAsksWrong)

/-- 'guichetlaw15.WalkPins': WHATEVER THE INPUT: true; the input reads as it did. -/
def walkPinsSpec : ChangeSpec := { name := "walkPins", fn := fun _ => fun
  | [d1, d2] => { results := [.lit (.bool true)], args := [d1, d2] }
  | _ => none }
def walkPinsRow : OpenClaim := { program := "ytnahbfnchopghaa", sum := "50da00a191351df28b36a55a9566fbca54343e5b6b45cfe2b99c36a9d29c869c", func := "guichet/guichetlaw15.WalkPins", spec := "walkPins", recurses := true, apart := false }
def WalkPinsSaid : Prop := walkPinsRow.holds Try.pinned (OpenSpec.ofChange walkPinsSpec)

/-- ITS FALSE NEIGHBOUR: 'it returns false'. Refute it at one input. -/
def walkPinsWrong : ChangeSpec := { name := "walkPins", fn := fun _ => fun
  | [d1, d2] => { results := [.lit (.bool false)], args := [d1, d2] }
  | _ => none }
def WalkPinsWrongFalsely : Prop := walkPinsRow.holds Try.pinned (OpenSpec.ofChange walkPinsWrong)

/- THE SECOND FORM. 'bulk': how many values and letters a reading holds, each counted each time it is reached (what is shared counts as often as it is met; a slice's spare places count too). A statement '..UptoSaid' is the law's where the arguments, and the package variables that the reading takes, are together of bulk at most 1048576: NARROWER than '..Said'. Prove '..Said' where nothing that the law and all that it calls make is longer than what came in: it says more and counts as full. Else prove '..UptoSaid'. A law counts once. -/
mutual
def uptoBulk {H : Type} : DataW H → Nat
  | .lit (.string bytes) => bytes.length + 1
  | .lit _ => 1
  | .nil => 1
  | .ptr d => uptoBulk d + 1
  | .slice elems spare => uptoBulkAll elems + uptoBulkAll spare + 1
  | .agg parts => uptoBulkAll parts + 1
  | .iface _ d => uptoBulk d + 1
  | .map entries => uptoBulkEntries entries + 1
  | .held _ => 1
def uptoBulkAll {H : Type} : List (DataW H) → Nat
  | [] => 0
  | d :: r => uptoBulk d + uptoBulkAll r
def uptoBulkEntries {H : Type} : List (Lit × DataW H) → Nat
  | [] => 0
  | x :: r => uptoBulkEntry x + uptoBulkEntries r
def uptoBulkEntry {H : Type} : Lit × DataW H → Nat
  | (.string bytes, d) => bytes.length + uptoBulk d + 1
  | (_, d) => uptoBulk d + 1
 end
def uptoSmall : (H : Type) → List (DataW H) → Bool := fun _ ds => decide (uptoBulkAll ds ≤ 1048576)
def OpenSpec.upto (s : _root_.Go.ChangeSpec) : _root_.Go.OpenSpec := { _root_.Go.OpenSpec.ofChange s with cond := some uptoSmall }

/-- 'guichetlaw15.WalkTells', WHERE WHAT IT READS IS OF BULK AT MOST 1048576: true; the input reads as it did. -/
def walkTellsUptoRow : OpenClaim := { program := "ytnahbfnchopghaa", sum := "50da00a191351df28b36a55a9566fbca54343e5b6b45cfe2b99c36a9d29c869c", func := "guichet/guichetlaw15.WalkTells", spec := "walkTells", apart := false, narrowed := true }
def WalkTellsUptoSaid : Prop := walkTellsUptoRow.holds Try.pinned (OpenSpec.upto walkTellsSpec)

/-- 'guichetlaw15.WalkEnds', WHERE WHAT IT READS IS OF BULK AT MOST 1048576: true; the input reads as it did. -/
def walkEndsUptoRow : OpenClaim := { program := "ytnahbfnchopghaa", sum := "50da00a191351df28b36a55a9566fbca54343e5b6b45cfe2b99c36a9d29c869c", func := "guichet/guichetlaw15.WalkEnds", spec := "walkEnds", apart := false, narrowed := true }
def WalkEndsUptoSaid : Prop := walkEndsUptoRow.holds Try.pinned (OpenSpec.upto walkEndsSpec)

/-- 'guichetlaw15.WalkAsks', WHERE WHAT IT READS IS OF BULK AT MOST 1048576: true; the input reads as it did. -/
def walkAsksUptoRow : OpenClaim := { program := "ytnahbfnchopghaa", sum := "50da00a191351df28b36a55a9566fbca54343e5b6b45cfe2b99c36a9d29c869c", func := "guichet/guichetlaw15.WalkAsks", spec := "walkAsks", recurses := true, apart := false, narrowed := true }
def WalkAsksUptoSaid : Prop := walkAsksUptoRow.holds Try.pinned (OpenSpec.upto walkAsksSpec)

/-- 'guichetlaw15.WalkPins', WHERE WHAT IT READS IS OF BULK AT MOST 1048576: true; the input reads as it did. -/
def walkPinsUptoRow : OpenClaim := { program := "ytnahbfnchopghaa", sum := "50da00a191351df28b36a55a9566fbca54343e5b6b45cfe2b99c36a9d29c869c", func := "guichet/guichetlaw15.WalkPins", spec := "walkPins", recurses := true, apart := false, narrowed := true }
def WalkPinsUptoSaid : Prop := walkPinsUptoRow.holds Try.pinned (OpenSpec.upto walkPinsSpec)

end Rows
end Go.Proofs.Ytnahbfnchopghaa
