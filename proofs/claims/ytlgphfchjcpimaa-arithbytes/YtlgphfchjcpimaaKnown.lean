/- The chapter's own example, 'known': it answers true, and makes new memory alone. -/
import Derived.Test.YtlgphfchjcpimaaRowb
import Derived.Laws.BytesArg
import Derived.Laws.IdiomStrings
namespace Go.Proofs.Ytlgphfchjcpimaa
open Go.ChangeShapes Go.WideShapes Go.ChangeAt Go.RowKit

/-- The new block's row. -/
theorem row_new (w : World) (l : List Int) : RowAt (w.alloc (.cells (cellsOf l) 5)) (some ⟨w.heap.size, 0, none⟩) l := by
  refine .inr ⟨_, _, rfl, fun i hi => ?_⟩
  rw [Nat.zero_add, World.cell?_alloc_at _ _ _ _ rfl]
  simp [cellsOf, hi]

/-- string(b) of a row of bytes. -/
theorem run_str (w : World) (ao : Option Addr) (zs : List Int) (cap : Nat) (hr : RowAt w ao zs) :
    (convert 36 9 (.slice ao zs.length cap)).run Try.prog w = .ok (.string (strOfNums zs)) w := by
  rcases hr with rfl | ⟨b, off, rfl, hc⟩
  · cases ao with
    | none => exact run_convert_bytes_nil w 36 5 Try.underlying36 Try.underlying5 _ _ 9 Try.underlying9
    | some a => exact run_convert_bytes_back w 36 9 5 a cap [] Try.underlying36 Try.underlying5 Try.underlying9 (fun j hj => by simp at hj)
  · exact run_convert_bytes_arg w 36 5 Try.underlying36 Try.underlying5 b off zs.length cap zs rfl hc 9 Try.underlying9

set_option maxRecDepth 100000 in
theorem known_any (w : World) :
    Calls Try.prog 8 #[] w fun e w' => e = .returned (.bool true) ∧ Below w.heap.size w w' := by
  have k1 : narB 200 8 = false := by kernel_rfl
  have k2 : narB 100 8 = true := by kernel_rfl
  have k3 : narZ 100 8 = 100 := by kernel_rfl
  have k4 : wrapZ 200 8 = -56 := by kernel_rfl
  have k5 : lowZ 255 4 = 15 := by kernel_rfl
  have k6 : rotZ 1 33 = 2 := by kernel_rfl
  have k7 : numB [1, 0] = true := by kernel_rfl
  have k8 : numZ [1, 0] = 256 := by kernel_rfl
  have hb2 : Byt [1, 0] := by intro x hx; simp at hx; omega
  have hr2 := row_new w [1, 0]
  have hcv : (convert 36 9 (.slice (some ⟨w.heap.size + 1, 0, none⟩) 3 3)).run Try.prog ((w.alloc (.cells (cellsOf [1, 0]) 5)).alloc (.cells (cellsOf (bytesL 258 3)) 5)) = .ok (.string ⟨#[0, 1, 2]⟩) ((w.alloc (.cells (cellsOf [1, 0]) 5)).alloc (.cells (cellsOf (bytesL 258 3)) 5)) := by
    have h := run_str _ _ _ 3 (row_new (w.alloc (.cells (cellsOf [1, 0]) 5)) (bytesL 258 3))
    rw [World.size_alloc, bytesL_length, show strOfNums (bytesL 258 3) = ⟨#[0, 1, 2]⟩ from rfl] at h
    exact h
  go_enter Try.func8, Try.ntmps8
  go_wp2_with (first
    | (go_at_call 9; refine (narrow_any _ _ _).mono ?_; rintro e w' ⟨rfl, rfl⟩)
    | (go_at_call 13; refine (wrap_any _ _ _).mono ?_; rintro e w' ⟨rfl, rfl⟩)
    | (go_at_call 15; refine (low_any _ _ _).mono ?_; rintro e w' ⟨rfl, rfl⟩)
    | (go_at_call 17; refine (rotate_any _ _ _ (by decide) (by decide)).mono ?_; rintro e w' ⟨rfl, rfl⟩)
    | (go_at_call 19; refine (bytes_fit 258 3 _ (by decide) (by decide) (by decide) (by decide)).mono ?_; rintro e w' ⟨rfl, rfl⟩)
    | (go_at_call 21; refine (number_any _ _ [1, 0] _ hr2 hb2 (by decide)).mono ?_; rintro e w' ⟨rfl, rfl⟩))
  go_ret
  exact ⟨rfl, ((Below.refl _ _).alloc (Nat.le_refl _) _).alloc (by simp) _⟩
end Go.Proofs.Ytlgphfchjcpimaa
