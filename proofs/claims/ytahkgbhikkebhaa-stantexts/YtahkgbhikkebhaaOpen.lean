/- Keys that came in. -/
import Derived.Test.YtahkgbhikkebhaaBase
import Derived.Lib.SmallJoins
namespace Go.Proofs.Ytahkgbhikkebhaa
open Go.ChangeShapes Go.WideShapes Go.ChangeAt Go.RowKit Go.Joins

theorem cells33' : Try.prog.cellsOf 33 = 2 := by kernel_rfl
theorem open_key {H : Type} {enc : TypeId × Value → H} {W : World} {base : Nat} {v : Value} {d : DataW H} {ps : List MemPlace} (hval : Value.okWide Try.prog W .any base 33 v) (hd : DataW.Trod enc Try.prog W 0 (fun _ => true) true 33 v d ps) :
    ∃ m0 m1 : Int, v = .agg #[.int .u16 m0, .int .u32 m1] ∧ (0 ≤ m0 ∧ m0 < 65536) ∧ (0 ≤ m1 ∧ m1 < 4294967296) := by
  obtain ⟨c0, c1, y0, y1, m, rfl, rfl, rfl, hy0, hy1⟩ := open_agg2 Try.underlying33 (by kernel_rfl) cells33' hval hd
  obtain ⟨z0, e0, _, w0⟩ := DataW.trod_int Try.underlying27 hy0
  obtain ⟨z1, e1, _, w1⟩ := DataW.trod_int Try.underlying28 hy1
  simp at e0 e1
  subst e0 e1
  have b0 := bounds_u16 w0
  have b1 := bounds_u32 w1
  exact ⟨z0, z1, rfl, by omega, by omega⟩
end Go.Proofs.Ytahkgbhikkebhaa
