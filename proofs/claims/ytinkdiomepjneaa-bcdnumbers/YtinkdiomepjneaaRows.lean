/-
  No cell of these rows narrows 'for every input' (looked for: loops, veiled, ifaces, maps, wideKeys, modest, calm, conditions, laid).
  DERIVED. THE GIVEN ROWS OF THIS SEAT. 3 by the template 'for every input the law returns true; each argument reads behind the call as it read before'; 0 by the template 'total and deterministic' (their statements: YtinkdiomepjneaaTotals.lean).
  GIVEN WITH THE SEED: the statements are not yours to turn. If you find one false, say at which input.
  Laid BY PROGRAM, IN A SANDBOX (cutbox-rows.mjs): the forced cells as the released guide's own fill.sh prints them over the translation 6554aba3f37ac901… (all of the seat's roots in one cut). By AI agents, Wed Nov 11 2026. No macro, syntax, notation, axiom, sorry.
-/
import Derived.Test.YtinkdiomepjneaaChecked
import GoSem.Claim
import GoSem.ClaimJoined
import GoSem.ClaimMapViews
import Derived.JoinedTies
import Derived.KernelRfl
namespace Go.Proofs.Ytinkdiomepjneaa
/- THE CELL 'sum', in the pinned program and in every row, IS THE sha256 OF THE DUMP (.gsa) THAT YtinkdiomepjneaaProg.lean LOADS. Nothing in Lean hashes anything: it is a label: what it is worth is what the hold of that sum in a sandbox is worth. -/
noncomputable def Try.pinned : Pinned := { name := "ytinkdiomepjneaa", sum := "6554aba3f37ac901731f2608184e0b55e1657ba519d673f6a8586e0bcbf8ab76", checked := Try.checked }
namespace Rows
def none {H : Type} : Left H := { results := [], args := [] }

/-- 'guichetlaw6.BcdNumbers': WHATEVER THE INPUT: true; the input reads as it did. -/
def bcdNumbersSpec : ChangeSpec := { name := "bcdNumbers", fn := fun _ => fun
  | [d1, d2, d3, d4] => { results := [.lit (.bool true)], args := [d1, d2, d3, d4] }
  | _ => none }
def bcdNumbersRow : OpenClaim := { program := "ytinkdiomepjneaa", sum := "6554aba3f37ac901731f2608184e0b55e1657ba519d673f6a8586e0bcbf8ab76", func := "guichet/guichetlaw6.BcdNumbers", spec := "bcdNumbers", recurses := true, apart := false }
def BcdNumbersSaid : Prop := bcdNumbersRow.holds Try.pinned (OpenSpec.ofChange bcdNumbersSpec)

/-- ITS FALSE NEIGHBOUR: 'it returns false'. Refute it at one input. -/
def bcdNumbersWrong : ChangeSpec := { name := "bcdNumbers", fn := fun _ => fun
  | [d1, d2, d3, d4] => { results := [.lit (.bool false)], args := [d1, d2, d3, d4] }
  | _ => none }
def BcdNumbersWrongFalsely : Prop := bcdNumbersRow.holds Try.pinned (OpenSpec.ofChange bcdNumbersWrong)

/-- 'guichetlaw6.BcdHalves': WHATEVER THE INPUT: true; the input reads as it did. -/
def bcdHalvesSpec : ChangeSpec := { name := "bcdHalves", fn := fun _ => fun
  | [d1, d2] => { results := [.lit (.bool true)], args := [d1, d2] }
  | _ => none }
def bcdHalvesRow : OpenClaim := { program := "ytinkdiomepjneaa", sum := "6554aba3f37ac901731f2608184e0b55e1657ba519d673f6a8586e0bcbf8ab76", func := "guichet/guichetlaw6.BcdHalves", spec := "bcdHalves", apart := false }
def BcdHalvesSaid : Prop := bcdHalvesRow.holds Try.pinned (OpenSpec.ofChange bcdHalvesSpec)

/-- ITS FALSE NEIGHBOUR: 'it returns false'. Refute it at one input. -/
def bcdHalvesWrong : ChangeSpec := { name := "bcdHalves", fn := fun _ => fun
  | [d1, d2] => { results := [.lit (.bool false)], args := [d1, d2] }
  | _ => none }
def BcdHalvesWrongFalsely : Prop := bcdHalvesRow.holds Try.pinned (OpenSpec.ofChange bcdHalvesWrong)

/-- 'guichetlaw6.BcdZeros': WHATEVER THE INPUT: true; the input reads as it did. -/
def bcdZerosSpec : ChangeSpec := { name := "bcdZeros", fn := fun _ => fun
  | [d1, d2] => { results := [.lit (.bool true)], args := [d1, d2] }
  | _ => none }
def bcdZerosRow : OpenClaim := { program := "ytinkdiomepjneaa", sum := "6554aba3f37ac901731f2608184e0b55e1657ba519d673f6a8586e0bcbf8ab76", func := "guichet/guichetlaw6.BcdZeros", spec := "bcdZeros", apart := false }
def BcdZerosSaid : Prop := bcdZerosRow.holds Try.pinned (OpenSpec.ofChange bcdZerosSpec)

/-- ITS FALSE NEIGHBOUR: 'it returns false'. Refute it at one input. -/
def bcdZerosWrong : ChangeSpec := { name := "bcdZeros", fn := fun _ => fun
  | [d1, d2] => { results := [.lit (.bool false)], args := [d1, d2] }
  | _ => none }
def BcdZerosWrongFalsely : Prop := bcdZerosRow.holds Try.pinned (OpenSpec.ofChange bcdZerosWrong)

/- THE SECOND FORM. 'bulk': how many values and letters a reading holds, each counted each time it is reached (what is shared counts as often as it is met; a slice's spare places count too). A statement '..UptoSaid' is the law's where the arguments, and the package variables that the reading takes, are together of bulk at most 1048576: NARROWER than '..Said'. Prove '..Said' where nothing that the law and all that it calls make is longer than what came in: it says more and counts as full. Else prove '..UptoSaid'. A law counts once. -/
mutual
def uptoBulk {H : Type} : DataW H → Nat
  | .lit (.string bytes) => bytes.length + 1
  | .lit _ => 1
  | .nil => 1
  | .ptr d => uptoBulk d + 1
  | .slice elems spare => uptoBulkAll elems + uptoBulkAll spare + 1
  | .agg parts => uptoBulkAll parts + 1
  | .iface _ d => uptoBulk d + 1
  | .map entries => uptoBulkEntries entries + 1
  | .held _ => 1
def uptoBulkAll {H : Type} : List (DataW H) → Nat
  | [] => 0
  | d :: r => uptoBulk d + uptoBulkAll r
def uptoBulkEntries {H : Type} : List (Lit × DataW H) → Nat
  | [] => 0
  | x :: r => uptoBulkEntry x + uptoBulkEntries r
def uptoBulkEntry {H : Type} : Lit × DataW H → Nat
  | (.string bytes, d) => bytes.length + uptoBulk d + 1
  | (_, d) => uptoBulk d + 1
 end
def uptoSmall : (H : Type) → List (DataW H) → Bool := fun _ ds => decide (uptoBulkAll ds ≤ 1048576)
def OpenSpec.upto (s : _root_.Go.ChangeSpec) : _root_.Go.OpenSpec := { _root_.Go.OpenSpec.ofChange s with cond := some uptoSmall }

/-- 'guichetlaw6.BcdNumbers', WHERE WHAT IT READS IS OF BULK AT MOST 1048576: true; the input reads as it did. -/
def bcdNumbersUptoRow : OpenClaim := { program := "ytinkdiomepjneaa", sum := "6554aba3f37ac901731f2608184e0b55e1657ba519d673f6a8586e0bcbf8ab76", func := "guichet/guichetlaw6.BcdNumbers", spec := "bcdNumbers", recurses := true, apart := false, narrowed := true }
def BcdNumbersUptoSaid : Prop := bcdNumbersUptoRow.holds Try.pinned (OpenSpec.upto bcdNumbersSpec)

/-- 'guichetlaw6.BcdHalves', WHERE WHAT IT READS IS OF BULK AT MOST 1048576: true; the input reads as it did. -/
def bcdHalvesUptoRow : OpenClaim := { program := "ytinkdiomepjneaa", sum := "6554aba3f37ac901731f2608184e0b55e1657ba519d673f6a8586e0bcbf8ab76", func := "guichet/guichetlaw6.BcdHalves", spec := "bcdHalves", apart := false, narrowed := true }
def BcdHalvesUptoSaid : Prop := bcdHalvesUptoRow.holds Try.pinned (OpenSpec.upto bcdHalvesSpec)

/-- 'guichetlaw6.BcdZeros', WHERE WHAT IT READS IS OF BULK AT MOST 1048576: true; the input reads as it did. -/
def bcdZerosUptoRow : OpenClaim := { program := "ytinkdiomepjneaa", sum := "6554aba3f37ac901731f2608184e0b55e1657ba519d673f6a8586e0bcbf8ab76", func := "guichet/guichetlaw6.BcdZeros", spec := "bcdZeros", apart := false, narrowed := true }
def BcdZerosUptoSaid : Prop := bcdZerosUptoRow.holds Try.pinned (OpenSpec.upto bcdZerosSpec)

end Rows
end Go.Proofs.Ytinkdiomepjneaa
