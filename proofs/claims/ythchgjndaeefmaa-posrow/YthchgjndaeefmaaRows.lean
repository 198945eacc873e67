/-
  No cell of these rows narrows 'for every input' (looked for: loops, veiled, ifaces, maps, wideKeys, modest, calm, conditions, laid).
  DERIVED. THE GIVEN ROWS OF THIS SEAT. 3 by the template 'for every input the law returns true; each argument reads behind the call as it read before'; 0 by the template 'total and deterministic' (their statements: YthchgjndaeefmaaTotals.lean).
  GIVEN WITH THE SEED: the statements are not yours to turn. If you find one false, say at which input.
  Laid BY PROGRAM, IN A SANDBOX (cutbox-rows.mjs): the forced cells as the released guide's own fill.sh prints them over the translation b49586ec51d22c26… (all of the seat's roots in one cut). By AI agents, Wed Nov 11 2026. No macro, syntax, notation, axiom, sorry.
-/
import Derived.Test.YthchgjndaeefmaaChecked
import GoSem.Claim
import GoSem.ClaimJoined
import GoSem.ClaimMapViews
import Derived.JoinedTies
import Derived.KernelRfl
namespace Go.Proofs.Ythchgjndaeefmaa
/- THE CELL 'sum', in the pinned program and in every row, IS THE sha256 OF THE DUMP (.gsa) THAT YthchgjndaeefmaaProg.lean LOADS. Nothing in Lean hashes anything: it is a label: what it is worth is what the hold of that sum in a sandbox is worth. -/
noncomputable def Try.pinned : Pinned := { name := "ythchgjndaeefmaa", sum := "b49586ec51d22c264c7b43885390efa736756bf24b46651737cd72a7789729c3", checked := Try.checked }
namespace Rows
def none {H : Type} : Left H := { results := [], args := [] }

/-- 'guichetlaw13.PosBack': WHATEVER THE INPUT: true; the input reads as it did. -/
def posBackSpec : ChangeSpec := { name := "posBack", fn := fun _ => fun
  | [d1, d2, d3, d4] => { results := [.lit (.bool true)], args := [d1, d2, d3, d4] }
  | _ => none }
def posBackRow : OpenClaim := { program := "ythchgjndaeefmaa", sum := "b49586ec51d22c264c7b43885390efa736756bf24b46651737cd72a7789729c3", func := "guichet/guichetlaw13.PosBack", spec := "posBack", apart := false }
def PosBackSaid : Prop := posBackRow.holds Try.pinned (OpenSpec.ofChange posBackSpec)

/-- ITS FALSE NEIGHBOUR: 'it returns false'. Refute it at one input. -/
def posBackWrong : ChangeSpec := { name := "posBack", fn := fun _ => fun
  | [d1, d2, d3, d4] => { results := [.lit (.bool false)], args := [d1, d2, d3, d4] }
  | _ => none }
def PosBackWrongFalsely : Prop := posBackRow.holds Try.pinned (OpenSpec.ofChange posBackWrong)

/-- 'guichetlaw13.PosReads': WHATEVER THE INPUT: true; the input reads as it did. -/
def posReadsSpec : ChangeSpec := { name := "posReads", fn := fun _ => fun
  | [d1, d2, d3, d4, d5, d6] => { results := [.lit (.bool true)], args := [d1, d2, d3, d4, d5, d6] }
  | _ => none }
def posReadsRow : OpenClaim := { program := "ythchgjndaeefmaa", sum := "b49586ec51d22c264c7b43885390efa736756bf24b46651737cd72a7789729c3", func := "guichet/guichetlaw13.PosReads", spec := "posReads", apart := false }
def PosReadsSaid : Prop := posReadsRow.holds Try.pinned (OpenSpec.ofChange posReadsSpec)

/-- ITS FALSE NEIGHBOUR: 'it returns false'. Refute it at one input. -/
def posReadsWrong : ChangeSpec := { name := "posReads", fn := fun _ => fun
  | [d1, d2, d3, d4, d5, d6] => { results := [.lit (.bool false)], args := [d1, d2, d3, d4, d5, d6] }
  | _ => none }
def PosReadsWrongFalsely : Prop := posReadsRow.holds Try.pinned (OpenSpec.ofChange posReadsWrong)

/-- 'guichetlaw13.PosRow': WHATEVER THE INPUT: true; the input reads as it did. -/
def posRowSpec : ChangeSpec := { name := "posRow", fn := fun _ => fun
  | [d1, d2] => { results := [.lit (.bool true)], args := [d1, d2] }
  | _ => none }
def posRowRow : OpenClaim := { program := "ythchgjndaeefmaa", sum := "b49586ec51d22c264c7b43885390efa736756bf24b46651737cd72a7789729c3", func := "guichet/guichetlaw13.PosRow", spec := "posRow", apart := false }
def PosRowSaid : Prop := posRowRow.holds Try.pinned (OpenSpec.ofChange posRowSpec)

/-- ITS FALSE NEIGHBOUR: 'it returns false'. Refute it at one input. -/
def posRowWrong : ChangeSpec := { name := "posRow", fn := fun _ => fun
  | [d1, d2] => { results := [.lit (.bool false)], args := [d1, d2] }
  | _ => none }
def PosRowWrongFalsely : Prop := posRowRow.holds Try.pinned (OpenSpec.ofChange posRowWrong)

/- THE SECOND FORM. 'bulk': how many values and letters a reading holds, each counted each time it is reached (what is shared counts as often as it is met; a slice's spare places count too). A statement '..UptoSaid' is the law's where the arguments, and the package variables that the reading takes, are together of bulk at most 1048576: NARROWER than '..Said'. Prove '..Said' where nothing that the law and all that it calls make is longer than what came in: it says more and counts as full. Else prove '..UptoSaid'. A law counts once. -/
mutual
def uptoBulk {H : Type} : DataW H → Nat
  | .lit (.string bytes) => bytes.length + 1
  | .lit _ => 1
  | .nil => 1
  | .ptr d => uptoBulk d + 1
  | .slice elems spare => uptoBulkAll elems + uptoBulkAll spare + 1
  | .agg parts => uptoBulkAll parts + 1
  | .iface _ d => uptoBulk d + 1
  | .map entries => uptoBulkEntries entries + 1
  | .held _ => 1
def uptoBulkAll {H : Type} : List (DataW H) → Nat
  | [] => 0
  | d :: r => uptoBulk d + uptoBulkAll r
def uptoBulkEntries {H : Type} : List (Lit × DataW H) → Nat
  | [] => 0
  | x :: r => uptoBulkEntry x + uptoBulkEntries r
def uptoBulkEntry {H : Type} : Lit × DataW H → Nat
  | (.string bytes, d) => bytes.length + uptoBulk d + 1
  | (_, d) => uptoBulk d + 1
 end
def uptoSmall : (H : Type) → List (DataW H) → Bool := fun _ ds => decide (uptoBulkAll ds ≤ 1048576)
def OpenSpec.upto (s : _root_.Go.ChangeSpec) : _root_.Go.OpenSpec := { _root_.Go.OpenSpec.ofChange s with cond := some uptoSmall }

/-- 'guichetlaw13.PosBack', WHERE WHAT IT READS IS OF BULK AT MOST 1048576: true; the input reads as it did. -/
def posBackUptoRow : OpenClaim := { program := "ythchgjndaeefmaa", sum := "b49586ec51d22c264c7b43885390efa736756bf24b46651737cd72a7789729c3", func := "guichet/guichetlaw13.PosBack", spec := "posBack", apart := false, narrowed := true }
def PosBackUptoSaid : Prop := posBackUptoRow.holds Try.pinned (OpenSpec.upto posBackSpec)

/-- 'guichetlaw13.PosReads', WHERE WHAT IT READS IS OF BULK AT MOST 1048576: true; the input reads as it did. -/
def posReadsUptoRow : OpenClaim := { program := "ythchgjndaeefmaa", sum := "b49586ec51d22c264c7b43885390efa736756bf24b46651737cd72a7789729c3", func := "guichet/guichetlaw13.PosReads", spec := "posReads", apart := false, narrowed := true }
def PosReadsUptoSaid : Prop := posReadsUptoRow.holds Try.pinned (OpenSpec.upto posReadsSpec)

/-- 'guichetlaw13.PosRow', WHERE WHAT IT READS IS OF BULK AT MOST 1048576: true; the input reads as it did. -/
def posRowUptoRow : OpenClaim := { program := "ythchgjndaeefmaa", sum := "b49586ec51d22c264c7b43885390efa736756bf24b46651737cd72a7789729c3", func := "guichet/guichetlaw13.PosRow", spec := "posRow", apart := false, narrowed := true }
def PosRowUptoSaid : Prop := posRowUptoRow.holds Try.pinned (OpenSpec.upto posRowSpec)

end Rows
end Go.Proofs.Ythchgjndaeefmaa
