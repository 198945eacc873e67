/-
  No cell of these rows narrows 'for every input' (looked for: loops, veiled, ifaces, maps, wideKeys, modest, calm, conditions, laid).
  DERIVED. THE GIVEN ROWS OF THIS SEAT. 2 by the template 'for every input the law returns true; each argument reads behind the call as it read before'; 0 by the template 'total and deterministic' (their statements: YtfpjjdlfofejcaaTotals.lean).
  GIVEN WITH THE SEED: the statements are not yours to turn. If you find one false, say at which input.
  Laid BY PROGRAM, IN A SANDBOX (cutbox-rows.mjs): the forced cells as the released guide's own fill.sh prints them over the translation 4cd43d2c86f28aea… (all of the seat's roots in one cut). By AI agents, Wed Nov 11 2026. No macro, syntax, notation, axiom, sorry.
-/
import Derived.Test.YtfpjjdlfofejcaaChecked
import GoSem.Claim
import GoSem.ClaimJoined
import GoSem.ClaimMapViews
import Derived.JoinedTies
import Derived.KernelRfl
namespace Go.Proofs.Ytfpjjdlfofejcaa
/- THE CELL 'sum', in the pinned program and in every row, IS THE sha256 OF THE DUMP (.gsa) THAT YtfpjjdlfofejcaaProg.lean LOADS. Nothing in Lean hashes anything: it is a label: what it is worth is what the hold of that sum in a sandbox is worth. -/
noncomputable def Try.pinned : Pinned := { name := "ytfpjjdlfofejcaa", sum := "4cd43d2c86f28aea76593f759cd2597e61ed9701e4bd6ff942a04056d426f957", checked := Try.checked }
namespace Rows
def none {H : Type} : Left H := { results := [], args := [] }

/-- 'guichetlaw9.IsoFields': WHATEVER THE INPUT: true; the input reads as it did. -/
def isoFieldsSpec : ChangeSpec := { name := "isoFields", fn := fun _ => fun
  | [d1, d2, d3, d4, d5, d6, d7] => { results := [.lit (.bool true)], args := [d1, d2, d3, d4, d5, d6, d7] }
  | _ => none }
def isoFieldsRow : OpenClaim := { program := "ytfpjjdlfofejcaa", sum := "4cd43d2c86f28aea76593f759cd2597e61ed9701e4bd6ff942a04056d426f957", func := "guichet/guichetlaw9.IsoFields", spec := "isoFields", recurses := true, apart := false }
def IsoFieldsSaid : Prop := isoFieldsRow.holds Try.pinned (OpenSpec.ofChange isoFieldsSpec)

/-- ITS FALSE NEIGHBOUR: 'it returns false'. Refute it at one input. -/
def isoFieldsWrong : ChangeSpec := { name := "isoFields", fn := fun _ => fun
  | [d1, d2, d3, d4, d5, d6, d7] => { results := [.lit (.bool false)], args := [d1, d2, d3, d4, d5, d6, d7] }
  | _ => none }
def IsoFieldsWrongFalsely : Prop := isoFieldsRow.holds Try.pinned (OpenSpec.ofChange isoFieldsWrong)

/-- 'guichetlaw9.IsoSets': WHATEVER THE INPUT: true; the input reads as it did. -/
def isoSetsSpec : ChangeSpec := { name := "isoSets", fn := fun _ => fun
  | [d1, d2, d3, d4, d5, d6] => { results := [.lit (.bool true)], args := [d1, d2, d3, d4, d5, d6] }
  | _ => none }
def isoSetsRow : OpenClaim := { program := "ytfpjjdlfofejcaa", sum := "4cd43d2c86f28aea76593f759cd2597e61ed9701e4bd6ff942a04056d426f957", func := "guichet/guichetlaw9.IsoSets", spec := "isoSets", recurses := true, apart := false }
def IsoSetsSaid : Prop := isoSetsRow.holds Try.pinned (OpenSpec.ofChange isoSetsSpec)

/-- ITS FALSE NEIGHBOUR: 'it returns false'. Refute it at one input. -/
def isoSetsWrong : ChangeSpec := { name := "isoSets", fn := fun _ => fun
  | [d1, d2, d3, d4, d5, d6] => { results := [.lit (.bool false)], args := [d1, d2, d3, d4, d5, d6] }
  | _ => none }
def IsoSetsWrongFalsely : Prop := isoSetsRow.holds Try.pinned (OpenSpec.ofChange isoSetsWrong)

/- THE SECOND FORM. 'bulk': how many values and letters a reading holds, each counted each time it is reached (what is shared counts as often as it is met; a slice's spare places count too). A statement '..UptoSaid' is the law's where the arguments, and the package variables that the reading takes, are together of bulk at most 1048576: NARROWER than '..Said'. Prove '..Said' where nothing that the law and all that it calls make is longer than what came in: it says more and counts as full. Else prove '..UptoSaid'. A law counts once. -/
mutual
def uptoBulk {H : Type} : DataW H → Nat
  | .lit (.string bytes) => bytes.length + 1
  | .lit _ => 1
  | .nil => 1
  | .ptr d => uptoBulk d + 1
  | .slice elems spare => uptoBulkAll elems + uptoBulkAll spare + 1
  | .agg parts => uptoBulkAll parts + 1
  | .iface _ d => uptoBulk d + 1
  | .map entries => uptoBulkEntries entries + 1
  | .held _ => 1
def uptoBulkAll {H : Type} : List (DataW H) → Nat
  | [] => 0
  | d :: r => uptoBulk d + uptoBulkAll r
def uptoBulkEntries {H : Type} : List (Lit × DataW H) → Nat
  | [] => 0
  | x :: r => uptoBulkEntry x + uptoBulkEntries r
def uptoBulkEntry {H : Type} : Lit × DataW H → Nat
  | (.string bytes, d) => bytes.length + uptoBulk d + 1
  | (_, d) => uptoBulk d + 1
 end
def uptoSmall : (H : Type) → List (DataW H) → Bool := fun _ ds => decide (uptoBulkAll ds ≤ 1048576)
def OpenSpec.upto (s : _root_.Go.ChangeSpec) : _root_.Go.OpenSpec := { _root_.Go.OpenSpec.ofChange s with cond := some uptoSmall }

/-- 'guichetlaw9.IsoFields', WHERE WHAT IT READS IS OF BULK AT MOST 1048576: true; the input reads as it did. -/
def isoFieldsUptoRow : OpenClaim := { program := "ytfpjjdlfofejcaa", sum := "4cd43d2c86f28aea76593f759cd2597e61ed9701e4bd6ff942a04056d426f957", func := "guichet/guichetlaw9.IsoFields", spec := "isoFields", recurses := true, apart := false, narrowed := true }
def IsoFieldsUptoSaid : Prop := isoFieldsUptoRow.holds Try.pinned (OpenSpec.upto isoFieldsSpec)

/-- 'guichetlaw9.IsoSets', WHERE WHAT IT READS IS OF BULK AT MOST 1048576: true; the input reads as it did. -/
def isoSetsUptoRow : OpenClaim := { program := "ytfpjjdlfofejcaa", sum := "4cd43d2c86f28aea76593f759cd2597e61ed9701e4bd6ff942a04056d426f957", func := "guichet/guichetlaw9.IsoSets", spec := "isoSets", recurses := true, apart := false, narrowed := true }
def IsoSetsUptoSaid : Prop := isoSetsUptoRow.holds Try.pinned (OpenSpec.upto isoSetsSpec)

end Rows
end Go.Proofs.Ytfpjjdlfofejcaa
