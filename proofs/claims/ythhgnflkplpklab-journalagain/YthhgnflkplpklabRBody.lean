/- A right record's bytes, by the program. -/
import Derived.Test.YthhgnflkplpklabRApps
namespace Go.Proofs.Ythhgnflkplpklab.Frm
open Go.ChangeShapes Go.WideShapes Go.ChangeAt Go.RowKit

set_option maxHeartbeats 4000000 in
theorem body_to (r : Rc) (w : World) (hr : Rt r) (ho : r.Ok) :
    Calls Try.prog 46 #[r.val] w fun e w' => ∃ ao cap, e = .returned (.slice ao (36 + r.pan.size) cap) ∧ Mk w w' (.slice ao (36 + r.pan.size) cap) (36 + r.pan.size) (bodyL r) := by
  have h1 := hr.kind
  have h2 := hr.size
  have h3 := hr.amt
  have HN := hid hr.n
  have HJ := hid hr.j
  have HL := hid hr.l
  obtain ⟨h4, h5⟩ := ho
  obtain ⟨h1a, h1b⟩ := h1
  obtain ⟨h3a, h3b⟩ := h3
  obtain ⟨h4a, h4b⟩ := h4
  obtain ⟨h5a, h5b⟩ := h5
  clear hr
  show Calls Try.prog 46 #[.agg #[.int .i64 r.kind, .int .u16 r.term, .int .u32 r.stan, .string r.pan, .int .i64 r.amt, .int .i64 r.n0, .int .i64 r.n1, .int .i64 r.n2, .int .i64 r.n3, .int .i64 r.j0, .int .i64 r.j1, .int .i64 r.j2, .int .i64 r.j3, .int .i64 r.l0, .int .i64 r.l1, .int .i64 r.l2, .int .i64 r.l3]] w _
  go_enter Try.func46, Try.ntmps46
  go_wp2_with (first | (at_builtin; refine app_text (t := r.pan) D8.out.1 D8.out.2.size (by omega) rfl _ _ rfl rfl rfl ?_; intro ao9 cap9 w9 r9 t9; have D9 := hid (D8.out.next r9 t9); clear r9 t9) | (go_at_call 47; refine (number_to D7.out (r.pan.size : Int) 1 36 rfl (by omega) (by omega) (by omega) (by omega) (by omega)).mono ?_; rintro e w8 ⟨ao8, cap8, rfl, d8⟩; have D8 := hid d8; clear d8; have R8 := RecAt.next (r := r) (w := w) D8.out.2; obtain ⟨_, _, _, s3, _, _, _, _, _, _, _, _, _, _, _, _, _⟩ := R8) | (go_at_call 54; refine (counts_to D6.out r.l0 r.l1 r.l2 r.l3 35 rfl (by omega) HL.out).mono ?_; rintro e w7 ⟨ao7, cap7, rfl, d7⟩; have D7 := hid d7; clear d7; have R7 := RecAt.next (r := r) (w := w) D7.out.2; obtain ⟨_, _, _, p3, _, _, _, _, _, _, _, _, _, _, _, _, _⟩ := R7) | (go_at_call 54; refine (counts_to D5.out r.j0 r.j1 r.j2 r.j3 27 rfl (by omega) HJ.out).mono ?_; rintro e w6 ⟨ao6, cap6, rfl, d6⟩; have D6 := hid d6; clear d6; have R6 := RecAt.next (r := r) (w := w) D6.out.2; obtain ⟨_, _, _, _, _, _, _, _, _, _, _, _, _, l13, l14, l15, l16⟩ := R6) | (go_at_call 54; refine (counts_to D4.out r.n0 r.n1 r.n2 r.n3 19 rfl (by omega) HN.out).mono ?_; rintro e w5 ⟨ao5, cap5, rfl, d5⟩; have D5 := hid d5; clear d5; have R5 := RecAt.next (r := r) (w := w) D5.out.2; obtain ⟨_, _, _, _, _, _, _, _, _, j9, j10, j11, j12, _, _, _, _⟩ := R5) | (go_at_call 47; refine (number_to D3.out r.amt 4 11 rfl (by omega) (by omega) (by omega) (by omega) (by omega)).mono ?_; rintro e w4 ⟨ao4, cap4, rfl, d4⟩; have D4 := hid d4; clear d4; have R4 := RecAt.next (r := r) (w := w) D4.out.2; obtain ⟨_, _, _, _, _, n5, n6, n7, n8, _, _, _, _, _, _, _, _⟩ := R4) | (go_at_call 47; refine (number_to D2.out r.stan 4 7 rfl (by omega) (by omega) (by omega) (by omega) (by omega)).mono ?_; rintro e w3 ⟨ao3, cap3, rfl, d3⟩; have D3 := hid d3; clear d3; have R3 := RecAt.next (r := r) (w := w) D3.out.2; obtain ⟨_, _, _, _, a4, _, _, _, _, _, _, _, _, _, _, _, _⟩ := R3) | (go_at_call 47; refine (number_to D1.out r.term 2 3 rfl (by omega) (by omega) (by omega) (by omega) (by omega)).mono ?_; rintro e w2 ⟨ao2, cap2, rfl, d2⟩; have D2 := hid d2; clear d2; have R2 := RecAt.next (r := r) (w := w) D2.out.2; obtain ⟨_, _, t2, _, _, _, _, _, _, _, _, _, _, _, _, _, _⟩ := R2) | (go_at_call 47; refine (number_to (Mk.nil _) r.kind 1 1 rfl (by omega) (by omega) (by omega) (by omega) (by omega)).mono ?_; rintro e w1 ⟨ao1, cap1, rfl, d1⟩; have D1 := hid d1; clear d1; have R1 := RecAt.next (r := r) (w := w) D1.out.2; obtain ⟨_, k1, _, _, _, _, _, _, _, _, _, _, _, _, _, _, _⟩ := R1))
  go_ret
  refine ⟨_, _, rfl, ?_, ?_⟩
  · have := D9.out.1
    exact this.mono (by simp)
  · exact (bel1 w _).trans (D9.out.2.mono (by simp))
end Go.Proofs.Ythhgnflkplpklab.Frm
