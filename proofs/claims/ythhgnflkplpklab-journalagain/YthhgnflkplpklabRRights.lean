/- A record is right: by the program and by the document's. -/
import Derived.Test.YthhgnflkplpklabRFews
namespace Go.Proofs.Ythhgnflkplpklab.Frm
open Go.ChangeShapes Go.WideShapes Go.ChangeAt Go.RowKit

/-- At block b lies the record r. -/
structure RecAt (w : World) (b : Nat) (r : Rc) : Prop where
  c0 : w.cell? ⟨b, 0, none⟩ = some (.int .i64 r.kind)
  c1 : w.cell? ⟨b, 1, none⟩ = some (.int .u16 r.term)
  c2 : w.cell? ⟨b, 2, none⟩ = some (.int .u32 r.stan)
  c3 : w.cell? ⟨b, 3, none⟩ = some (.string r.pan)
  c4 : w.cell? ⟨b, 4, none⟩ = some (.int .i64 r.amt)
  c5 : w.cell? ⟨b, 5, none⟩ = some (.int .i64 r.n0)
  c6 : w.cell? ⟨b, 6, none⟩ = some (.int .i64 r.n1)
  c7 : w.cell? ⟨b, 7, none⟩ = some (.int .i64 r.n2)
  c8 : w.cell? ⟨b, 8, none⟩ = some (.int .i64 r.n3)
  c9 : w.cell? ⟨b, 9, none⟩ = some (.int .i64 r.j0)
  c10 : w.cell? ⟨b, 10, none⟩ = some (.int .i64 r.j1)
  c11 : w.cell? ⟨b, 11, none⟩ = some (.int .i64 r.j2)
  c12 : w.cell? ⟨b, 12, none⟩ = some (.int .i64 r.j3)
  c13 : w.cell? ⟨b, 13, none⟩ = some (.int .i64 r.l0)
  c14 : w.cell? ⟨b, 14, none⟩ = some (.int .i64 r.l1)
  c15 : w.cell? ⟨b, 15, none⟩ = some (.int .i64 r.l2)
  c16 : w.cell? ⟨b, 16, none⟩ = some (.int .i64 r.l3)
theorem RecAt.of {w : World} {b : Nat} {r : Rc} (h : w.rangeAt b 0 r.cells) : RecAt w b r := by
  refine ⟨?_, ?_, ?_, ?_, ?_, ?_, ?_, ?_, ?_, ?_, ?_, ?_, ?_, ?_, ?_, ?_, ?_⟩
  · exact h 0 _ rfl
  · exact h 1 _ rfl
  · exact h 2 _ rfl
  · exact h 3 _ rfl
  · exact h 4 _ rfl
  · exact h 5 _ rfl
  · exact h 6 _ rfl
  · exact h 7 _ rfl
  · exact h 8 _ rfl
  · exact h 9 _ rfl
  · exact h 10 _ rfl
  · exact h 11 _ rfl
  · exact h 12 _ rfl
  · exact h 13 _ rfl
  · exact h 14 _ rfl
  · exact h 15 _ rfl
  · exact h 16 _ rfl
theorem range_new (w : World) (cs : Array Value) (t : TypeId) : (w.alloc (.cells cs t)).rangeAt w.heap.size 0 cs.toList := by
  intro j v hv
  rw [Nat.zero_add, cell_of_head (heap_alloc_new w _)]
  simpa using hv
theorem range_kept {w w' : World} {b o : Nat} {cs : List Value} (h : w.rangeAt b o cs) (hk : w'.heap[b]? = w.heap[b]?) : w'.rangeAt b o cs := fun j v hv => by
  rw [World.cell?_of_block (w := w) (a := ⟨b, o + j, none⟩) hk]; exact h j v hv
theorem range_below {w w' : World} {b o B : Nat} {cs : List Value} (h : w.rangeAt b o cs) (hb : b < B) (k : Below B w w') : w'.rangeAt b o cs := range_kept h (k.block b hb)
theorem RecAt.new (w : World) (r : Rc) : RecAt (w.alloc (.cells r.cells.toArray 39)) w.heap.size r := .of (by have := range_new w r.cells.toArray 39; simpa using this)
theorem RecAt.kept {w w' : World} {b : Nat} {r : Rc} (h : RecAt w b r) (hk : w'.heap[b]? = w.heap[b]?) : RecAt w' b r := by
  have e : ∀ i, w'.cell? ⟨b, i, none⟩ = w.cell? ⟨b, i, none⟩ := fun i => World.cell?_of_block (w := w) (a := ⟨b, i, none⟩) hk
  exact ⟨(e 0).trans h.c0, (e 1).trans h.c1, (e 2).trans h.c2, (e 3).trans h.c3, (e 4).trans h.c4, (e 5).trans h.c5, (e 6).trans h.c6, (e 7).trans h.c7, (e 8).trans h.c8, (e 9).trans h.c9, (e 10).trans h.c10, (e 11).trans h.c11, (e 12).trans h.c12, (e 13).trans h.c13, (e 14).trans h.c14, (e 15).trans h.c15, (e 16).trans h.c16⟩
theorem RecAt.below {w w' : World} {b B : Nat} {r : Rc} (h : RecAt w b r) (hb : b < B) (k : Below B w w') : RecAt w' b r := h.kept (k.block b hb)
theorem RecAt.next {w w' : World} {r : Rc} (k : Below (w.alloc (.cells r.cells.toArray 39)).heap.size (w.alloc (.cells r.cells.toArray 39)) w') : RecAt w' w.heap.size r := (RecAt.new w r).below (by simp) k

set_option maxHeartbeats 4000000 in
theorem right_any (r : Rc) (w : World) (hs : r.pan.size ≤ 9223372036854775807) :
    Calls Try.prog 44 #[r.val] w fun e w' => e = .returned (.bool (rightB r)) ∧ Below w.heap.size w w' := by
  show Calls Try.prog 44 #[.agg #[.int .i64 r.kind, .int .u16 r.term, .int .u32 r.stan, .string r.pan, .int .i64 r.amt, .int .i64 r.n0, .int .i64 r.n1, .int .i64 r.n2, .int .i64 r.n3, .int .i64 r.j0, .int .i64 r.j1, .int .i64 r.j2, .int .i64 r.j3, .int .i64 r.l0, .int .i64 r.l1, .int .i64 r.l2, .int .i64 r.l3]] w _
  by_cases h1 : ¬ (0 < r.kind)
  · replace h1 : r.kind ≤ 0 := by first | omega | simpa using h1
    have HB : Hid (rightB r = false) := by unfold Hid; simp [rightB, show ¬ 0 < r.kind by omega]
    go_enter Try.func44, Try.ntmps44
    go_wp2_with (first | (go_at_call 53; refine (counts_any r.l0 r.l1 r.l2 r.l3 w2).mono ?_; rintro e w3 ⟨rfl, b3⟩) | (go_at_call 53; refine (counts_any r.j0 r.j1 r.j2 r.j3 w1).mono ?_; rintro e w2 ⟨rfl, b2⟩; have R2 := RecAt.next (r := r) (w := w) (sq b1 b2); obtain ⟨_, _, _, _, _, _, _, _, _, _, _, _, _, d13, d14, d15, d16⟩ := R2) | (go_at_call 53; refine (counts_any r.n0 r.n1 r.n2 r.n3 _).mono ?_; rintro e w1 ⟨rfl, b1⟩; have R1 := RecAt.next (r := r) (w := w) b1; obtain ⟨_, _, _, _, _, _, _, _, _, c9, c10, c11, c12, c13, c14, c15, c16⟩ := R1) | (go_at_call 52; refine (pan_any _ _ hs).mono ?_; rintro e w' ⟨rfl, rfl⟩))
    go_ret
    exact ⟨ret_bool HB.out.symm, by first | exact sq (sq (sq (bel1 _ _) b1) b2) b3 | exact sq (sq (bel1 _ _) b1) b2 | exact sq (bel1 _ _) b1 | exact bel1 _ _⟩
  replace h1 : 0 < r.kind := Classical.not_not.1 h1
  by_cases h2 : ¬ (r.kind < 10)
  · replace h2 : 10 ≤ r.kind := by first | omega | simpa using h2
    have HB : Hid (rightB r = false) := by unfold Hid; simp [rightB, show ¬ r.kind < 10 by omega]
    go_enter Try.func44, Try.ntmps44
    go_wp2_with (first | (go_at_call 53; refine (counts_any r.l0 r.l1 r.l2 r.l3 w2).mono ?_; rintro e w3 ⟨rfl, b3⟩) | (go_at_call 53; refine (counts_any r.j0 r.j1 r.j2 r.j3 w1).mono ?_; rintro e w2 ⟨rfl, b2⟩; have R2 := RecAt.next (r := r) (w := w) (sq b1 b2); obtain ⟨_, _, _, _, _, _, _, _, _, _, _, _, _, d13, d14, d15, d16⟩ := R2) | (go_at_call 53; refine (counts_any r.n0 r.n1 r.n2 r.n3 _).mono ?_; rintro e w1 ⟨rfl, b1⟩; have R1 := RecAt.next (r := r) (w := w) b1; obtain ⟨_, _, _, _, _, _, _, _, _, c9, c10, c11, c12, c13, c14, c15, c16⟩ := R1) | (go_at_call 52; refine (pan_any _ _ hs).mono ?_; rintro e w' ⟨rfl, rfl⟩))
    go_ret
    exact ⟨ret_bool HB.out.symm, by first | exact sq (sq (sq (bel1 _ _) b1) b2) b3 | exact sq (sq (bel1 _ _) b1) b2 | exact sq (bel1 _ _) b1 | exact bel1 _ _⟩
  replace h2 : r.kind < 10 := Classical.not_not.1 h2
  by_cases h3 : ¬ (panB r.pan = true)
  · replace h3 : panB r.pan = false := by first | omega | simpa using h3
    have HB : Hid (rightB r = false) := by unfold Hid; simp [rightB, h3]
    go_enter Try.func44, Try.ntmps44
    go_wp2_with (first | (go_at_call 53; refine (counts_any r.l0 r.l1 r.l2 r.l3 w2).mono ?_; rintro e w3 ⟨rfl, b3⟩) | (go_at_call 53; refine (counts_any r.j0 r.j1 r.j2 r.j3 w1).mono ?_; rintro e w2 ⟨rfl, b2⟩; have R2 := RecAt.next (r := r) (w := w) (sq b1 b2); obtain ⟨_, _, _, _, _, _, _, _, _, _, _, _, _, d13, d14, d15, d16⟩ := R2) | (go_at_call 53; refine (counts_any r.n0 r.n1 r.n2 r.n3 _).mono ?_; rintro e w1 ⟨rfl, b1⟩; have R1 := RecAt.next (r := r) (w := w) b1; obtain ⟨_, _, _, _, _, _, _, _, _, c9, c10, c11, c12, c13, c14, c15, c16⟩ := R1) | (go_at_call 52; refine (pan_any _ _ hs).mono ?_; rintro e w' ⟨rfl, rfl⟩))
    go_ret
    exact ⟨ret_bool HB.out.symm, by first | exact sq (sq (sq (bel1 _ _) b1) b2) b3 | exact sq (sq (bel1 _ _) b1) b2 | exact sq (bel1 _ _) b1 | exact bel1 _ _⟩
  replace h3 : panB r.pan = true := Classical.not_not.1 h3
  by_cases h4 : ¬ (0 ≤ r.amt)
  · replace h4 : r.amt < 0 := by first | omega | simpa using h4
    have HB : Hid (rightB r = false) := by unfold Hid; simp [rightB, show ¬ 0 ≤ r.amt by omega]
    go_enter Try.func44, Try.ntmps44
    go_wp2_with (first | (go_at_call 53; refine (counts_any r.l0 r.l1 r.l2 r.l3 w2).mono ?_; rintro e w3 ⟨rfl, b3⟩) | (go_at_call 53; refine (counts_any r.j0 r.j1 r.j2 r.j3 w1).mono ?_; rintro e w2 ⟨rfl, b2⟩; have R2 := RecAt.next (r := r) (w := w) (sq b1 b2); obtain ⟨_, _, _, _, _, _, _, _, _, _, _, _, _, d13, d14, d15, d16⟩ := R2) | (go_at_call 53; refine (counts_any r.n0 r.n1 r.n2 r.n3 _).mono ?_; rintro e w1 ⟨rfl, b1⟩; have R1 := RecAt.next (r := r) (w := w) b1; obtain ⟨_, _, _, _, _, _, _, _, _, c9, c10, c11, c12, c13, c14, c15, c16⟩ := R1) | (go_at_call 52; refine (pan_any _ _ hs).mono ?_; rintro e w' ⟨rfl, rfl⟩))
    go_ret
    exact ⟨ret_bool HB.out.symm, by first | exact sq (sq (sq (bel1 _ _) b1) b2) b3 | exact sq (sq (bel1 _ _) b1) b2 | exact sq (bel1 _ _) b1 | exact bel1 _ _⟩
  replace h4 : 0 ≤ r.amt := Classical.not_not.1 h4
  by_cases h5 : ¬ (r.amt ≤ 1000000)
  · replace h5 : 1000000 < r.amt := by first | omega | simpa using h5
    have HB : Hid (rightB r = false) := by unfold Hid; simp [rightB, show ¬ r.amt ≤ 1000000 by omega]
    go_enter Try.func44, Try.ntmps44
    go_wp2_with (first | (go_at_call 53; refine (counts_any r.l0 r.l1 r.l2 r.l3 w2).mono ?_; rintro e w3 ⟨rfl, b3⟩) | (go_at_call 53; refine (counts_any r.j0 r.j1 r.j2 r.j3 w1).mono ?_; rintro e w2 ⟨rfl, b2⟩; have R2 := RecAt.next (r := r) (w := w) (sq b1 b2); obtain ⟨_, _, _, _, _, _, _, _, _, _, _, _, _, d13, d14, d15, d16⟩ := R2) | (go_at_call 53; refine (counts_any r.n0 r.n1 r.n2 r.n3 _).mono ?_; rintro e w1 ⟨rfl, b1⟩; have R1 := RecAt.next (r := r) (w := w) b1; obtain ⟨_, _, _, _, _, _, _, _, _, c9, c10, c11, c12, c13, c14, c15, c16⟩ := R1) | (go_at_call 52; refine (pan_any _ _ hs).mono ?_; rintro e w' ⟨rfl, rfl⟩))
    go_ret
    exact ⟨ret_bool HB.out.symm, by first | exact sq (sq (sq (bel1 _ _) b1) b2) b3 | exact sq (sq (bel1 _ _) b1) b2 | exact sq (bel1 _ _) b1 | exact bel1 _ _⟩
  replace h5 : r.amt ≤ 1000000 := Classical.not_not.1 h5
  by_cases h6 : ¬ (fewB r.n0 r.n1 r.n2 r.n3 = true)
  · replace h6 : fewB r.n0 r.n1 r.n2 r.n3 = false := by first | omega | simpa using h6
    have HB : Hid (rightB r = false) := by unfold Hid; simp [rightB, h6]
    go_enter Try.func44, Try.ntmps44
    go_wp2_with (first | (go_at_call 53; refine (counts_any r.l0 r.l1 r.l2 r.l3 w2).mono ?_; rintro e w3 ⟨rfl, b3⟩) | (go_at_call 53; refine (counts_any r.j0 r.j1 r.j2 r.j3 w1).mono ?_; rintro e w2 ⟨rfl, b2⟩; have R2 := RecAt.next (r := r) (w := w) (sq b1 b2); obtain ⟨_, _, _, _, _, _, _, _, _, _, _, _, _, d13, d14, d15, d16⟩ := R2) | (go_at_call 53; refine (counts_any r.n0 r.n1 r.n2 r.n3 _).mono ?_; rintro e w1 ⟨rfl, b1⟩; have R1 := RecAt.next (r := r) (w := w) b1; obtain ⟨_, _, _, _, _, _, _, _, _, c9, c10, c11, c12, c13, c14, c15, c16⟩ := R1) | (go_at_call 52; refine (pan_any _ _ hs).mono ?_; rintro e w' ⟨rfl, rfl⟩))
    go_ret
    exact ⟨ret_bool HB.out.symm, by first | exact sq (sq (sq (bel1 _ _) b1) b2) b3 | exact sq (sq (bel1 _ _) b1) b2 | exact sq (bel1 _ _) b1 | exact bel1 _ _⟩
  replace h6 : fewB r.n0 r.n1 r.n2 r.n3 = true := Classical.not_not.1 h6
  by_cases h7 : ¬ (fewB r.j0 r.j1 r.j2 r.j3 = true)
  · replace h7 : fewB r.j0 r.j1 r.j2 r.j3 = false := by first | omega | simpa using h7
    have HB : Hid (rightB r = false) := by unfold Hid; simp [rightB, h7]
    go_enter Try.func44, Try.ntmps44
    go_wp2_with (first | (go_at_call 53; refine (counts_any r.l0 r.l1 r.l2 r.l3 w2).mono ?_; rintro e w3 ⟨rfl, b3⟩) | (go_at_call 53; refine (counts_any r.j0 r.j1 r.j2 r.j3 w1).mono ?_; rintro e w2 ⟨rfl, b2⟩; have R2 := RecAt.next (r := r) (w := w) (sq b1 b2); obtain ⟨_, _, _, _, _, _, _, _, _, _, _, _, _, d13, d14, d15, d16⟩ := R2) | (go_at_call 53; refine (counts_any r.n0 r.n1 r.n2 r.n3 _).mono ?_; rintro e w1 ⟨rfl, b1⟩; have R1 := RecAt.next (r := r) (w := w) b1; obtain ⟨_, _, _, _, _, _, _, _, _, c9, c10, c11, c12, c13, c14, c15, c16⟩ := R1) | (go_at_call 52; refine (pan_any _ _ hs).mono ?_; rintro e w' ⟨rfl, rfl⟩))
    go_ret
    exact ⟨ret_bool HB.out.symm, by first | exact sq (sq (sq (bel1 _ _) b1) b2) b3 | exact sq (sq (bel1 _ _) b1) b2 | exact sq (bel1 _ _) b1 | exact bel1 _ _⟩
  replace h7 : fewB r.j0 r.j1 r.j2 r.j3 = true := Classical.not_not.1 h7
  by_cases h8 : ¬ (fewB r.l0 r.l1 r.l2 r.l3 = true)
  · replace h8 : fewB r.l0 r.l1 r.l2 r.l3 = false := by first | omega | simpa using h8
    have HB : Hid (rightB r = false) := by unfold Hid; simp [rightB, h8]
    go_enter Try.func44, Try.ntmps44
    go_wp2_with (first | (go_at_call 53; refine (counts_any r.l0 r.l1 r.l2 r.l3 w2).mono ?_; rintro e w3 ⟨rfl, b3⟩) | (go_at_call 53; refine (counts_any r.j0 r.j1 r.j2 r.j3 w1).mono ?_; rintro e w2 ⟨rfl, b2⟩; have R2 := RecAt.next (r := r) (w := w) (sq b1 b2); obtain ⟨_, _, _, _, _, _, _, _, _, _, _, _, _, d13, d14, d15, d16⟩ := R2) | (go_at_call 53; refine (counts_any r.n0 r.n1 r.n2 r.n3 _).mono ?_; rintro e w1 ⟨rfl, b1⟩; have R1 := RecAt.next (r := r) (w := w) b1; obtain ⟨_, _, _, _, _, _, _, _, _, c9, c10, c11, c12, c13, c14, c15, c16⟩ := R1) | (go_at_call 52; refine (pan_any _ _ hs).mono ?_; rintro e w' ⟨rfl, rfl⟩))
    go_ret
    exact ⟨ret_bool HB.out.symm, by first | exact sq (sq (sq (bel1 _ _) b1) b2) b3 | exact sq (sq (bel1 _ _) b1) b2 | exact sq (bel1 _ _) b1 | exact bel1 _ _⟩
  replace h8 : fewB r.l0 r.l1 r.l2 r.l3 = true := Classical.not_not.1 h8
  have HB : Hid (rightB r = true) := by unfold Hid; simp [rightB, h1, h2, h3, h4, h5, h6, h7, h8]
  go_enter Try.func44, Try.ntmps44
  go_wp2_with (first | (go_at_call 53; refine (counts_any r.l0 r.l1 r.l2 r.l3 w2).mono ?_; rintro e w3 ⟨rfl, b3⟩) | (go_at_call 53; refine (counts_any r.j0 r.j1 r.j2 r.j3 w1).mono ?_; rintro e w2 ⟨rfl, b2⟩; have R2 := RecAt.next (r := r) (w := w) (sq b1 b2); obtain ⟨_, _, _, _, _, _, _, _, _, _, _, _, _, d13, d14, d15, d16⟩ := R2) | (go_at_call 53; refine (counts_any r.n0 r.n1 r.n2 r.n3 _).mono ?_; rintro e w1 ⟨rfl, b1⟩; have R1 := RecAt.next (r := r) (w := w) b1; obtain ⟨_, _, _, _, _, _, _, _, _, c9, c10, c11, c12, c13, c14, c15, c16⟩ := R1) | (go_at_call 52; refine (pan_any _ _ hs).mono ?_; rintro e w' ⟨rfl, rfl⟩))
  go_ret
  exact ⟨ret_bool HB.out.symm, sq (sq (sq (bel1 _ _) b1) b2) b3⟩
end Go.Proofs.Ythhgnflkplpklab.Frm
