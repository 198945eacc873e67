/- The chapter's example. -/
import Derived.Test.YthhgnflkplpklabREqs
import Derived.Lib.SlBytesConst
namespace Go.Proofs.Ythhgnflkplpklab.Frm
set_option maxRecDepth 20000
open Go.ChangeShapes Go.WideShapes Go.ChangeAt Go.RowKit

theorem Mk.given {W0 w : World} {ao : Option Addr} {n cap : Nat} {l : List Int} (h : Mk W0 w (.slice ao n cap) n l) (hb : Byt l) : Given w ao n cap l :=
  ⟨h.1.len, hb, h.1.at, h.1.caps.2.1, h.1.caps.2.2⟩
theorem put_given {W0 w : World} {ao : Option Addr} {n cap : Nat} {r : Rc} (h : Mk W0 w (.slice ao n cap) n (putL r)) (hr : rightB r = true) : Given w ao n cap (putL r) := h.given (putL_byt (rt_of hr).size)
theorem Given.new (w : World) (l : List Int) (n : Nat) (hn : l.length = n) (hm : n ≤ 1000000) (hb : Byt l) : Given (w.alloc (.cells (cellsOf l) 5)) (some ⟨w.heap.size, 0, none⟩) n n l := (Mk.new w l n hn hm).given hb
theorem Given.newF (w : World) (l : List Int) (n : Nat) (fr : Nat × Nat) (hn : l.length = n) (hm : n ≤ 1000000) (hb : Byt l) : Given (w.alloc (.cells (cellsOf l) 5 fr)) (some ⟨w.heap.size, 0, none⟩) n n l :=
  ⟨hn, hb, .inr ⟨_, _, rfl, fun i hi => by
    have := heap_alloc_new w (.cells (cellsOf l) 5 fr)
    rw [Nat.zero_add, World.cell?]
    simp only [this]
    simp [cellsOf, hi]⟩, Nat.le_refl _, by omega⟩
theorem crc_nine : crcL [49, 50, 51, 52, 53, 54, 55, 56, 57] = 3808858755 := by kernel_rfl
theorem byt_nine : Byt [49, 50, 51, 52, 53, 54, 55, 56, 57] := by unfold Byt; decide
theorem byt_a5 : Byt [165] := by unfold Byt; decide
theorem err_a5 : errX [165] = 23 ∧ recX [165] = Rc.zero ∧ lenX [165] = 0 := err23a (by decide)
theorem zero_not : rightB Rc.zero = false := by decide
end Go.Proofs.Ythhgnflkplpklab.Frm
