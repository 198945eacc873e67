/- The listed variables: what the rows' condition gives. -/
import Derived.Test.YtbipikbefokihaaDoorDec
import Derived.LaidMore
import Derived.Lib.LaidTab
import Derived.MakeChecks
import Derived.Stop.LaidErr
import Derived.OpenShut
import Derived.Stop.Joined
namespace Go.Proofs.YtbipikbefokihaaDoor
open Go.ChangeShapes Go.WideShapes Go.ChangeAt Go.RowKit

theorem laid_own : ownKnob Tryd.prog.godebug = none := by kernel_rfl
theorem laid_all : laidOutB Tryd.prog = true := by kernel_rfl
def lst : List (String × DataW Unit) := Rows.msgKindsRow.laid
theorem lst_plain : (lst.all fun x => x.2.handleName?.isNone) = true := by kernel_rfl
theorem door_met (os : Os) (args : Array Value) : laidMetH Tryd.prog lst ((World.doorLaid Tryd.prog 4000 os).forCall (fun _ _ => 0) ⟨#[], args, []⟩).memory := by
  rw [MakeChecks.laidMetH_plain _ _ _ lst_plain]
  exact laidMet_of_run' 8 (by kernel_rfl) (by kernel_rfl)
theorem tab_of {W : World} (h : laidMetH Tryd.prog lst W) : Tab W := by
  rw [MakeChecks.laidMetH_plain _ _ _ lst_plain] at h
  have h2 : laidMet Tryd.prog [(tabName, Lib.tabData .u64 Lib.pow10Tab)] W := h.tail.tail
  exact Lib.tabIs_of_head tab_at (t := 103) (e := 47) (n := 20) (by kernel_rfl) Tryd.underlying103 Tryd.underlying47 (by kernel_rfl) (by kernel_rfl) h2
end Go.Proofs.YtbipikbefokihaaDoor
