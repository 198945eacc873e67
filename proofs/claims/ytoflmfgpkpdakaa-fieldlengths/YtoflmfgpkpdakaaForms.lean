/- For every n the function FieldForms answers true: which fields there are, of which form. -/
import Derived.Test.YtoflmfgpkpdakaaKnown
namespace Go.Proofs.Ytoflmfgpkpdakaa
open Go.ChangeShapes Go.WideShapes Go.ChangeAt Go.RowKit

/-- Each cell of the block B holds a number of this make. -/
def Nums (P : Int → Prop) (N B : Nat) (w : World) : Prop := ∀ j, j < N → ∃ m : Int, P m ∧ w.cell? ⟨B, j, none⟩ = some (.int .i64 m)
theorem Nums.more {P : Int → Prop} {N B : Nat} {w w' : World} (h : Nums P N B w) (hb : Below w.heap.size w w') : Nums P N B w' := by
  intro j hj
  obtain ⟨u, hu, hc⟩ := h j hj
  exact ⟨u, hu, (hb.cell (p := ⟨B, j, none⟩) (World.block_lt_of_cell? w _ hc)).trans hc⟩
theorem Nums.new {P : Int → Prop} (w : World) (l : List Int) (t : TypeId) (h : ∀ x ∈ l, P x) : Nums P l.length w.heap.size (w.alloc (.cells (I.cellsOf l) t)) := by
  intro j hj
  have hh := heap_alloc_new w (.cells (I.cellsOf l) t)
  exact ⟨l[j], h _ (List.getElem_mem hj), by rw [cell_of_head hh]; simp [I.cellsOf, hj]⟩
theorem of7' (n : Int) (w : World) : Calls Try.prog 7 #[.int .i64 n] w fun e w' => e = .returned (.tuple #[.agg #[.bool (fD n), .int .i64 (fL n : Int), .int .i64 (fV n : Int)], .bool (fK n)]) ∧ Below w.heap.size w w' := of7 n w
set_option maxHeartbeats 1000000 in
theorem forms_walk (n : Int) (w : World) (_hn : -9223372036854775808 ≤ n ∧ n ≤ 9223372036854775807) :
    Calls Try.prog 3 #[.int .i64 n] w fun e w' => e = .returned (.bool true) ∧ Below w.heap.size w w' := by
  obtain ⟨m, hm⟩ : ∃ m, bits .and .i64 n 127 = m := ⟨_, rfl⟩
  go_enter Try.func3, Try.ntmps3
  go_wp2_with (go_at_call 5; refine (known5 _).mono ?_; rintro e w1 ⟨rfl, l1⟩; have L1 := hid (sq l1 (bel1 w1 (.cells #[.int .i64 n, .int .i64 m, .int .i64 0, .int .i64 128] 3))); have N1 := hid (Nums.new (P := fun _ => True) w1 [n, m, 0, 128] 3 (fun _ _ => trivial)); clear l1)
  go_loopw [16] (fun i wr => ∃ j : Nat, j ≤ 4 ∧ i = .int .i64 (j : Int) ∧ Nums (fun _ => True) 4 w1.heap.size wr ∧ Below w.heap.size w wr) (fun i _ => 4 - (intOf i).toNat)
  case atStart => exact ⟨0, by omega, rfl, N1.out, L1.out⟩
  case round =>
    obtain ⟨j, hj, rfl, hn1, hb1⟩ := hrel
    have N2 := hid hn1
    have B2 := hid hb1
    clear hn1 hb1 N1 L1
    by_cases hlt : j < 4
    · obtain ⟨k, _, hc⟩ := N2.out j hlt
      have j0 : (j : Int) < 4 := by omega
      have hof := fun w => of6' k w
      have hor := fun w => of7' k w
      generalize fD k = D at *
      generalize (fL k : Int) = L at *
      generalize (fV k : Int) = V at *
      generalize fK k = KK at *
      go_wp2_with (first | (go_at_call 7; have kill := B3.out; refine (hor _).mono ?_; rintro e w4 ⟨rfl, l4⟩; have B4 := hid (sq B3.out (sq l4 (bel1 w4 (.cells #[.bool D, .int .i64 L, .int .i64 V] 28)))); have N4 := hid (N3.out.more (sq l4 (bel1 w4 (.cells #[.bool D, .int .i64 L, .int .i64 V] 28)))); obtain ⟨q0, q1, q2⟩ := F3.out.more (sq l4 (bel1 w4 (.cells #[.bool D, .int .i64 L, .int .i64 V] 28))); clear l4 kill) | (go_at_call 6; refine (hof _).mono ?_; rintro e w3 ⟨rfl, l3⟩; have B3 := hid (sq B2.out (sq l3 (bel1 w3 (.cells #[.bool D, .int .i64 L, .int .i64 V] 25)))); have N3 := hid (N2.out.more (sq l3 (bel1 w3 (.cells #[.bool D, .int .i64 L, .int .i64 V] 25)))); have F3 := hid (FB.new w3 D L V 25); clear l3))
      go_roundw
      case rel => exact ⟨j + 1, by omega, by go_num, N4.out, B4.out⟩
      case measure => simp [intOf]; omega
    · have j0 : ¬ (j : Int) < 4 := by omega
      go_wp2
      go_ret
      exact ⟨rfl, B2.out⟩
theorem fieldForms_own : ownKnob Try.prog.godebug = none := by kernel_rfl
theorem fieldForms_laid : laidOutB Try.prog = true := by kernel_rfl

set_option maxRecDepth 100000 in
set_option maxHeartbeats 1000000 in
theorem fieldForms_lifted (os : Os) (started : os.Started) (H : Type) (enc : TypeId × Value → H) :
    ReturnsInHanded {} Try.checked os 3 .any (Rows.fieldFormsSpec.pre6 enc Try.prog Try.f3 Rows.fieldFormsRow.domain false) (Rows.fieldFormsSpec.post enc Try.prog Try.f3 false true false false) := by
  refine returnsInHanded_of_change (C := Try.checked) fieldForms_own started (by kernel_rfl) Try.func3
    (ChangeSpec.witness6 (enc := enc) (C := Try.checked) false ⟨#[], #[.int .i64 0], []⟩ 8 (by kernel_rfl) (by kernel_rfl) (by kernel_rfl) (by kernel_rfl)) ?_
  intro W base args ds gs before hval0 hW hcnd _
  have hval : ∀ (j : Nat) t v, Try.f3.params[j]? = some t → args[j]? = some v → Value.okWide Try.prog W .any base t v := hval0
  have hW' := hW
  obtain ⟨p, q, hA0, hV, rfl, hfz, hnd⟩ := hW
  have hA : DataW.TrodAll enc Try.prog W 0 (fun _ => true) true Try.f3.params.toList args.toList ds p := hA0
  rw [Try.params3] at hA hval
  obtain ⟨v0, vs0, d0, ds0, p0, q0, hargs, rfl, rfl, h0, r0⟩ := trodAll_cons hA
  obtain ⟨rfl, rfl, rfl⟩ := trodAll_nil r0
  obtain rfl : args = #[v0] := by cases args; simp_all
  obtain ⟨rfl, rfl⟩ := trodVars_none hV
  obtain ⟨a0, rfl, rfl, rfl, w0⟩ := open_int Try.underlying3 (hval 0 3 v0 rfl rfl) h0
  clear hA0 hval0
  refine (forms_walk a0 W (by have := bounds_i64 w0; omega)).mono fun e W' ⟨he, bel⟩ => ?_
  subst he
  exact ⟨_, rfl, _, _, _, [], _, [], hW', trodAll_mk1 (shut_bool Try.underlying4 _), (trodAll_cons_mk (shut_int Try.underlying3 w0) trodAll_mk0), rfl, bel.frame _, fun h => by cases h⟩

theorem fieldForms_over : Rows.fieldFormsRow.holds Try.pinned (OpenSpec.ofChange Rows.fieldFormsSpec) :=
  OpenClaim.holds_of_wide 3 Try.f3 rfl rfl rfl rfl rfl rfl rfl ⟨rfl, rfl, rfl, rfl, rfl⟩ rfl rfl rfl rfl rfl (by kernel_rfl) Try.func3 (by kernel_rfl)
    (of_decide_eq_true (by kernel_rfl)) (by unfold Func.isWrapper; first | (rw [if_pos (by decide +kernel)]; kernel_rfl) | (rw [if_neg (by decide +kernel)]; exact ⟨rfl, rfl⟩))
    (fun os started H enc _ => fieldForms_lifted os started H enc)

/-- The statement. -/
theorem fieldForms_holds : Rows.FieldFormsSaid := fieldForms_over
#print axioms fieldForms_holds
end Go.Proofs.Ytoflmfgpkpdakaa
