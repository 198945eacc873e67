/- The document's body of a record. -/
import Derived.Test.YthhgnflkplpklabRFace
import Derived.Deep.CutRange
namespace Go.Proofs.Ythhgnflkplpklab.Frm
set_option maxRecDepth 20000
open Go.ChangeShapes Go.WideShapes Go.ChangeAt Go.RowKit

theorem Mk.wide {w0 w w' : World} {v : Value} {n : Nat} {l : List Int} (hb : Below w0.heap.size w0 w) (h : Mk w w' v n l) : Mk w0 w' v n l := ⟨h.1.mono hb.size, sq hb h.2⟩
theorem kept27 {B : Nat} {w w' : World} {v : Value} {n q : Nat} {l : List Int} {C : Array Value} (h : Row B w v n l) (hq : w.heap[q]? = some (.cells C 37 (0, 0))) (ht : Turned (fun k => v.ownBlock = some k) w w') : w'.heap[q]? = some (.cells C 37 (0, 0)) := by
  have hlt : q < w.heap.size := (Array.getElem?_eq_some_iff.1 hq).1
  rw [ht.block q hlt (fun e => by
    rcases h.2 with ⟨rfl, _⟩ | ⟨g, _, cur, rfl, _, hc, _⟩
    · cases e
    · cases e; rw [hq] at hc; cases hc)]
  exact hq
theorem kept27b {w w' : World} {q : Nat} {C : Array Value} (hq : w.heap[q]? = some (.cells C 37 (0, 0))) (hb : Below w.heap.size w w') : w'.heap[q]? = some (.cells C 37 (0, 0)) := by
  rw [hb.block q (Array.getElem?_eq_some_iff.1 hq).1]; exact hq
theorem cell27 {w : World} {q : Nat} {C : Array Value} (hq : w.heap[q]? = some (.cells C 37 (0, 0))) (i : Nat) {x : Value} (h : C[i]? = some x) : w.cell? ⟨q, i, none⟩ = some x := by rw [cell_of_head hq]; exact h
def cA (r : Rc) : Nat → List Int
  | 0 => []
  | 1 => cntL r.n0 r.n1 r.n2 r.n3
  | 2 => cntL r.n0 r.n1 r.n2 r.n3 ++ cntL r.j0 r.j1 r.j2 r.j3
  | _ => cntL r.n0 r.n1 r.n2 r.n3 ++ cntL r.j0 r.j1 r.j2 r.j3 ++ cntL r.l0 r.l1 r.l2 r.l3
def c12 (r : Rc) : Array Value := #[.int .i64 r.n0, .int .i64 r.n1, .int .i64 r.n2, .int .i64 r.n3, .int .i64 r.j0, .int .i64 r.j1, .int .i64 r.j2, .int .i64 r.j3, .int .i64 r.l0, .int .i64 r.l1, .int .i64 r.l2, .int .i64 r.l3]
def bsL (r : Rc) : List Int := bytesL r.kind 1 ++ bytesL r.term 2 ++ bytesL r.stan 4 ++ bytesL r.amt 4
theorem bytesL1 {v : Int} (h : 0 ≤ v ∧ v < 256) : bytesL v 1 = [v] := by rw [cons_bytes1]; congr 1; omega
end Go.Proofs.Ythhgnflkplpklab.Frm
