/-
  No cell of these rows narrows 'for every input' (looked for: loops, veiled, ifaces, maps, wideKeys, modest, calm, conditions, laid).
  DERIVED. THE GIVEN ROWS OF THIS SEAT. 3 by the template 'for every input the law returns true; each argument reads behind the call as it read before'; 0 by the template 'total and deterministic' (their statements: YtahkgbhikkebhaaTotals.lean).
  GIVEN WITH THE SEED: the statements are not yours to turn. If you find one false, say at which input.
  Laid BY PROGRAM, IN A SANDBOX (cutbox-rows.mjs): the forced cells as the released guide's own fill.sh prints them over the translation 0ae536d3ccb20f37… (all of the seat's roots in one cut). By AI agents, Wed Nov 11 2026. No macro, syntax, notation, axiom, sorry.
-/
import Derived.Test.YtahkgbhikkebhaaChecked
import GoSem.Claim
import GoSem.ClaimJoined
import GoSem.ClaimMapViews
import Derived.JoinedTies
import Derived.KernelRfl
namespace Go.Proofs.Ytahkgbhikkebhaa
/- THE CELL 'sum', in the pinned program and in every row, IS THE sha256 OF THE DUMP (.gsa) THAT YtahkgbhikkebhaaProg.lean LOADS. Nothing in Lean hashes anything: it is a label: what it is worth is what the hold of that sum in a sandbox is worth. -/
noncomputable def Try.pinned : Pinned := { name := "ytahkgbhikkebhaa", sum := "0ae536d3ccb20f371d7bb87d1b41b528c0febfa6aa9b56fbee4e44f1b019b3dd", checked := Try.checked }
namespace Rows
def none {H : Type} : Left H := { results := [], args := [] }

/-- 'guichetlaw10.StanPlays': WHATEVER THE INPUT: true; the input reads as it did. -/
def stanPlaysSpec : ChangeSpec := { name := "stanPlays", fn := fun _ => fun
  | [d] => { results := [.lit (.bool true)], args := [d] }
  | _ => none }
def stanPlaysRow : OpenClaim := { program := "ytahkgbhikkebhaa", sum := "0ae536d3ccb20f371d7bb87d1b41b528c0febfa6aa9b56fbee4e44f1b019b3dd", func := "guichet/guichetlaw10.StanPlays", spec := "stanPlays", plainKeys := false, apart := false }
def StanPlaysSaid : Prop := stanPlaysRow.holds Try.pinned (OpenSpec.ofChange stanPlaysSpec)

/-- ITS FALSE NEIGHBOUR: 'it returns false'. Refute it at one input. -/
def stanPlaysWrong : ChangeSpec := { name := "stanPlays", fn := fun _ => fun
  | [d] => { results := [.lit (.bool false)], args := [d] }
  | _ => none }
def StanPlaysWrongFalsely : Prop := stanPlaysRow.holds Try.pinned (OpenSpec.ofChange stanPlaysWrong)

/-- 'guichetlaw10.StanTexts': WHATEVER THE INPUT: true; the input reads as it did. -/
def stanTextsSpec : ChangeSpec := { name := "stanTexts", fn := fun _ => fun
  | [d1, d2, d3, d4, d5, d6] => { results := [.lit (.bool true)], args := [d1, d2, d3, d4, d5, d6] }
  | _ => none }
def stanTextsRow : OpenClaim := { program := "ytahkgbhikkebhaa", sum := "0ae536d3ccb20f371d7bb87d1b41b528c0febfa6aa9b56fbee4e44f1b019b3dd", func := "guichet/guichetlaw10.StanTexts", spec := "stanTexts", plainKeys := false, apart := false }
def StanTextsSaid : Prop := stanTextsRow.holds Try.pinned (OpenSpec.ofChange stanTextsSpec)

/-- ITS FALSE NEIGHBOUR: 'it returns false'. Refute it at one input. -/
def stanTextsWrong : ChangeSpec := { name := "stanTexts", fn := fun _ => fun
  | [d1, d2, d3, d4, d5, d6] => { results := [.lit (.bool false)], args := [d1, d2, d3, d4, d5, d6] }
  | _ => none }
def StanTextsWrongFalsely : Prop := stanTextsRow.holds Try.pinned (OpenSpec.ofChange stanTextsWrong)

/-- 'guichetlaw10.StanLine': WHATEVER THE INPUT: true; the input reads as it did. -/
def stanLineSpec : ChangeSpec := { name := "stanLine", fn := fun _ => fun
  | [d1, d2, d3] => { results := [.lit (.bool true)], args := [d1, d2, d3] }
  | _ => none }
def stanLineRow : OpenClaim := { program := "ytahkgbhikkebhaa", sum := "0ae536d3ccb20f371d7bb87d1b41b528c0febfa6aa9b56fbee4e44f1b019b3dd", func := "guichet/guichetlaw10.StanLine", spec := "stanLine", plainKeys := false, apart := false }
def StanLineSaid : Prop := stanLineRow.holds Try.pinned (OpenSpec.ofChange stanLineSpec)

/-- ITS FALSE NEIGHBOUR: 'it returns false'. Refute it at one input. -/
def stanLineWrong : ChangeSpec := { name := "stanLine", fn := fun _ => fun
  | [d1, d2, d3] => { results := [.lit (.bool false)], args := [d1, d2, d3] }
  | _ => none }
def StanLineWrongFalsely : Prop := stanLineRow.holds Try.pinned (OpenSpec.ofChange stanLineWrong)

/- THE SECOND FORM. 'bulk': how many values and letters a reading holds, each counted each time it is reached (what is shared counts as often as it is met; a slice's spare places count too). A statement '..UptoSaid' is the law's where the arguments, and the package variables that the reading takes, are together of bulk at most 1048576: NARROWER than '..Said'. Prove '..Said' where nothing that the law and all that it calls make is longer than what came in: it says more and counts as full. Else prove '..UptoSaid'. A law counts once. -/
mutual
def uptoBulk {H : Type} : DataW H → Nat
  | .lit (.string bytes) => bytes.length + 1
  | .lit _ => 1
  | .nil => 1
  | .ptr d => uptoBulk d + 1
  | .slice elems spare => uptoBulkAll elems + uptoBulkAll spare + 1
  | .agg parts => uptoBulkAll parts + 1
  | .iface _ d => uptoBulk d + 1
  | .map entries => uptoBulkEntries entries + 1
  | .held _ => 1
def uptoBulkAll {H : Type} : List (DataW H) → Nat
  | [] => 0
  | d :: r => uptoBulk d + uptoBulkAll r
def uptoBulkEntries {H : Type} : List (Lit × DataW H) → Nat
  | [] => 0
  | x :: r => uptoBulkEntry x + uptoBulkEntries r
def uptoBulkEntry {H : Type} : Lit × DataW H → Nat
  | (.string bytes, d) => bytes.length + uptoBulk d + 1
  | (_, d) => uptoBulk d + 1
 end
def uptoSmall : (H : Type) → List (DataW H) → Bool := fun _ ds => decide (uptoBulkAll ds ≤ 1048576)
def OpenSpec.upto (s : _root_.Go.ChangeSpec) : _root_.Go.OpenSpec := { _root_.Go.OpenSpec.ofChange s with cond := some uptoSmall }

/-- 'guichetlaw10.StanPlays', WHERE WHAT IT READS IS OF BULK AT MOST 1048576: true; the input reads as it did. -/
def stanPlaysUptoRow : OpenClaim := { program := "ytahkgbhikkebhaa", sum := "0ae536d3ccb20f371d7bb87d1b41b528c0febfa6aa9b56fbee4e44f1b019b3dd", func := "guichet/guichetlaw10.StanPlays", spec := "stanPlays", plainKeys := false, apart := false, narrowed := true }
def StanPlaysUptoSaid : Prop := stanPlaysUptoRow.holds Try.pinned (OpenSpec.upto stanPlaysSpec)

/-- 'guichetlaw10.StanTexts', WHERE WHAT IT READS IS OF BULK AT MOST 1048576: true; the input reads as it did. -/
def stanTextsUptoRow : OpenClaim := { program := "ytahkgbhikkebhaa", sum := "0ae536d3ccb20f371d7bb87d1b41b528c0febfa6aa9b56fbee4e44f1b019b3dd", func := "guichet/guichetlaw10.StanTexts", spec := "stanTexts", plainKeys := false, apart := false, narrowed := true }
def StanTextsUptoSaid : Prop := stanTextsUptoRow.holds Try.pinned (OpenSpec.upto stanTextsSpec)

/-- 'guichetlaw10.StanLine', WHERE WHAT IT READS IS OF BULK AT MOST 1048576: true; the input reads as it did. -/
def stanLineUptoRow : OpenClaim := { program := "ytahkgbhikkebhaa", sum := "0ae536d3ccb20f371d7bb87d1b41b528c0febfa6aa9b56fbee4e44f1b019b3dd", func := "guichet/guichetlaw10.StanLine", spec := "stanLine", plainKeys := false, apart := false, narrowed := true }
def StanLineUptoSaid : Prop := stanLineUptoRow.holds Try.pinned (OpenSpec.upto stanLineSpec)

end Rows
end Go.Proofs.Ytahkgbhikkebhaa
