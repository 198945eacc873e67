/- Put: the bytes of a field. -/
import Derived.Test.YtfpjjdlfofejcaaSigs
namespace Go.Proofs.Ytfpjjdlfofejcaa
open Go.ChangeShapes Go.WideShapes Go.ChangeAt Go.RowKit

theorem load25 {w : World} {b : Nat} {D : Bool} {L V : Int} (h : FB w b D L V) : (loadVar 73 ⟨b, 0, none⟩).run Try.prog w = .ok (.agg #[.bool D, .int .i64 L, .int .i64 V]) w := by
  refine run_loadVar_mid (P := Try.prog) w b 0 73 [.bool D, .int .i64 L, .int .i64 V] _ ?_ Try.underlying73 rfl (by kernel_rfl)
  intro j v hv
  obtain ⟨q0, q1, q2⟩ := h
  match j, hv with
  | 0, hv => cases hv; exact q0
  | 1, hv => cases hv; exact q1
  | 2, hv => cases hv; exact q2
theorem FB.drew {w : World} {b : Nat} {D : Bool} {L V : Int} (h : FB w b D L V) : FB w.drew b D L V := h
theorem FB.lt {w : World} {b : Nat} {D : Bool} {L V : Int} (h : FB w b D L V) : b < w.heap.size := World.block_lt_of_cell? w _ h.1
theorem FB.keep {w w' : World} {b B : Nat} {D : Bool} {L V : Int} (h : FB w b D L V) (hB : b < B) (hb : Below B w w') : FB w' b D L V :=
  ⟨(hb.cell (p := ⟨b, 0, none⟩) hB).trans h.1, (hb.cell (p := ⟨b, 1, none⟩) hB).trans h.2.1, (hb.cell (p := ⟨b, 2, none⟩) hB).trans h.2.2⟩
/-- The bytes of a field. -/
def putL (n : Int) (s : ByteArray) : List Int := lenL (fV n) s.size ++ sigL (fD n) s
theorem right_parts {n : Int} {s : ByteArray} (h : rightB n s = true) : fK n = true ∧ s.size ≤ 999 ∧ ((fV n : Int) = 0 ∨ digOk s.size (fV n) = true) ∧ (fD n = true → digB s.data.toList = true) := by
  unfold rightB at h
  rw [Bool.and_eq_true, Bool.and_eq_true] at h
  obtain ⟨⟨hk, hf⟩, hg⟩ := h
  refine ⟨hk, fit_small hf, ?_, fun hd => by unfold sgnB at hg; rwa [if_pos hd] at hg⟩
  have h9 := fit_small hf
  rcases (f_any n).2.1 with e | ⟨e, _, hl⟩ | ⟨e, _⟩
  · left; rw [e]; rfl
  · right
    rw [e]
    unfold fitI at hf
    rw [e, if_neg (by decide), Bool.and_eq_true] at hf
    have := of_decide_eq_true hf.2
    rw [hl] at this
    simp [digOk]; omega
  · right
    rw [e]
    simp [digOk]; omega
set_option maxHeartbeats 2000000 in
theorem put_no (n : Int) (s : ByteArray) (w : World) (hs : s.size ≤ 9223372036854775807) (hr : rightB n s = false) :
    Calls Try.prog 29 #[.int .i64 n, .string s] w fun e w' => e = .returned (.tuple #[.slice none 0 0, .int .i64 27]) ∧ Below w.heap.size w w' := by
  have h9 := right9 n s w hs
  rw [hr] at h9
  clear hr hs
  go_enter Try.func29, Try.ntmps29
  go_wp2_with (go_at_call 22; refine h9.mono ?_; rintro e w1 ⟨rfl, l1⟩; have L1 := hid l1; clear l1)
  go_ret2
  exact ⟨rfl, L1.out⟩
set_option maxHeartbeats 2000000 in
theorem put_yes (n : Int) (s : ByteArray) (w : World) (hr : rightB n s = true) :
    Calls Try.prog 29 #[.int .i64 n, .string s] w fun e w' => ∃ ao m cap, e = .returned (.tuple #[.slice ao m cap, .int .i64 0]) ∧ Mk w w' (.slice ao m cap) m (putL n s) := by
  obtain ⟨hk, h999, hln, hdg⟩ := right_parts hr
  have h9 := right9 n s w (by omega)
  rw [hr] at h9
  have hof := fun w => of6' n w
  rw [hk] at hof
  unfold putL
  generalize fD n = D at *
  generalize (fV n : Int) = V at *
  generalize (fL n : Int) = L at *
  have HN := hid hln
  have HD := hid hdg
  have hS1 : s.size ≤ 1000000 := by omega
  have HS := hid hS1
  have H9 := hid h999
  have HI : Hid ((s.size : Int) ≤ 9223372036854775807) := by unfold Hid; omega
  clear hr hk h999 hln hdg hS1
  go_enter Try.func29, Try.ntmps29
  go_wp2_with (first | (go_at_call 34; have kill := L1.out; refine (hof w1).mono ?_; rintro e w2 ⟨rfl, l2⟩; have F2 := hid (FB.new w2 D L V 73); have L2 := hid (sq (sq L1.out l2) (bel1 w2 (.cells #[.bool D, .int .i64 L, .int .i64 V] 73))); clear l2 kill) | (go_at_call 22; refine h9.mono ?_; rintro e w1 ⟨rfl, l1⟩; have L1 := hid l1; clear l1))
  generalize w2.heap.size = b at *
  generalize w2.alloc (Obj.cells #[Value.bool D, Value.int IntKind.i64 L, Value.int IntKind.i64 V] 73) = wA at *
  refine wp_region_noPanic ?_
  refine wp_region_held_drew (S := (fun w' => FB w' b D L V)) (by kernel_rfl) F2.out (fun hHeld => ?_)
  (refine tk_yes (v := ?_) 1 (some 18) rfl rfl (by kernel_rfl) (by kernel_rfl) (by kernel_rfl) (fun _ _ _ h => h) (by rfl) ?_ hHeld ?_; rotate_left; focus (intro w hSw; go_simp; try with_reducible rfl))
  try simp only [Act.put, List.setIfInBounds_toArray, List.set_cons_zero, List.set_cons_succ]
  (refine tk_yes (v := ?_) 5 (some 22) rfl rfl (by kernel_rfl) (by kernel_rfl) (by kernel_rfl) (fun _ _ _ h => h) (by rfl) ?_ hHeld ?_; rotate_left; focus (intro w hSw; go_simp; try with_reducible rfl))
  try simp only [Act.put, List.setIfInBounds_toArray, List.set_cons_zero, List.set_cons_succ]
  (refine tk_yes (v := .agg #[.bool D, .int .i64 L, .int .i64 V]) 0 (some 17) rfl rfl (by kernel_rfl) (by kernel_rfl) (by kernel_rfl) (fun _ _ _ h => h) (by rfl) ?_ hHeld ?_; focus (intro w hSw; obtain ⟨q0, q1, q2⟩ := id hSw; go_simp))
  try simp only [Act.put, List.setIfInBounds_toArray, List.set_cons_zero, List.set_cons_succ]
  (refine tk_yes (v := ?_) 2 (some 19) rfl rfl (by kernel_rfl) (by kernel_rfl) (by kernel_rfl) (fun _ _ _ h => h) (by rfl) ?_ hHeld ?_; rotate_left; focus (intro w hSw; go_simp; try with_reducible rfl))
  try simp only [Act.put, List.setIfInBounds_toArray, List.set_cons_zero, List.set_cons_succ]
  (refine tk_yes (v := .agg #[.bool D, .int .i64 L, .int .i64 V]) 4 (some 21) rfl rfl (by kernel_rfl) (by kernel_rfl) (by kernel_rfl) (fun _ _ _ h => h) (by rfl) ?_ hHeld ?_; focus (intro w hSw; obtain ⟨q0, q1, q2⟩ := id hSw; go_simp))
  try simp only [Act.put, List.setIfInBounds_toArray, List.set_cons_zero, List.set_cons_succ]
  refine wpAnyH_ready (rs := [3]) (by kernel_rfl) (by simp) ?_
  refine AllReadyH.cons rfl (fun K hK => ?_) AllReadyH.nil
  go_simp
  go_at_call 41
  refine (len14 D L V s.size _ HI.out HN.out).mono ?_
  rintro e w3 ⟨a3, n3, c3, rfl, h3, m3⟩
  have M3 := hid m3
  have F3 := hid (F2.out.drew.more m3.2)
  have H3 := hid h3
  clear m3 h3
  go_simp
  refine hK.out _ _ F3.out (fun hHeld => ?_)
  clear hK K
  try simp only [Act.put, List.setIfInBounds_toArray, List.set_cons_zero, List.set_cons_succ]
  refine wpAnyH_ready (rs := [6]) (by kernel_rfl) (by simp) ?_
  refine AllReadyH.cons rfl (fun K hK => ?_) AllReadyH.nil
  go_simp
  go_at_call 42
  refine (sig15 D L V s _ HS.out HD.out).mono ?_
  rintro e w4 ⟨b4, n4, c4, rfl, h4, g4, r4, l4⟩
  have M4 := hid (M3.out.more l4)
  have F4 := hid (F3.out.more l4)
  have R4 := hid r4
  have H4 := hid h4
  have G4 := hid g4
  clear r4 l4 h4 g4
  go_simp
  refine hK.out _ _ F4.out (fun hHeld => ?_)
  clear hK K
  try simp only [Act.put, List.setIfInBounds_toArray, List.set_cons_zero, List.set_cons_succ]
  refine wpAnyH_ready (rs := [7]) (by kernel_rfl) (by simp) ?_
  refine AllReadyH.cons (o := { dst := some 24, op := _, type := _, pos := _, after := _, guard := none }) rfl (fun K hK => ?_) AllReadyH.nil
  refine app_row_step M4.out.1 R4.out H4.out M4.out.2.size (by have := H3.out; have := G4.out; have := H9.out; omega) rfl _ _ rfl rfl rfl ?_
  intro ao5 c5 w5 r5 t5
  have M5 := hid (M4.out.next r5 t5)
  have F5 := hid (F4.out.keep F2.out.drew.lt (t5.below (fun k e => M4.out.1.blk k e) M4.out.2.size))
  clear r5 t5
  refine hK.out _ _ F5.out (fun hHeld => ?_)
  clear hK K
  try simp only [Act.put, List.setIfInBounds_toArray, List.set_cons_zero, List.set_cons_succ]
  (refine tk_yes (v := ?_) 8 (some 4) rfl rfl (by kernel_rfl) (by kernel_rfl) (by kernel_rfl) (fun _ _ _ h => h) (by rfl) ?_ hHeld ?_; rotate_left; focus (intro w hSw; go_simp; try with_reducible rfl))
  try simp only [Act.put, List.setIfInBounds_toArray, List.set_cons_zero, List.set_cons_succ]
  (refine tk_yes (v := ?_) 9 (some 5) rfl rfl (by kernel_rfl) (by kernel_rfl) (by kernel_rfl) (fun _ _ _ h => h) (by rfl) ?_ hHeld ?_; rotate_left; focus (intro w hSw; go_simp; try with_reducible rfl))
  try simp only [Act.put, List.setIfInBounds_toArray, List.set_cons_zero, List.set_cons_succ]
  refine wpAnyH_done (by kernel_rfl) ?_ _
  refine NoPanic.normal ?_
  go_wp2
  go_ret2
  exact ⟨ao5, _, c5, rfl, Mk.from L2.out.drew M5.out⟩
end Go.Proofs.Ytfpjjdlfofejcaa
