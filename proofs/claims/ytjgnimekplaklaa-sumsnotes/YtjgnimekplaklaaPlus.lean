/- Sums and counts of notes, by the program. -/
import Derived.Test.YtjgnimekplaklaaWorth
namespace Go.Proofs.Ytjgnimekplaklaa
open Go.ChangeShapes Go.WideShapes Go.ChangeAt Go.RowKit

/-- The sums of notes, cassette by cassette. -/
def plusB (x y : Nat → Int) : Bool := fitB (x 0 + y 0) && fitB (x 1 + y 1) && fitB (x 2 + y 2) && fitB (x 3 + y 3)
def plusZ (x y : Nat → Int) : Nat → Int := fun j => if plusB x y = true then x j + y j else 0
theorem plus_no {x y : Nat → Int} {k : Nat} (hk : k < 4) (h : fitB (x k + y k) = false) : plusB x y = false ∧ ∀ j, plusZ x y j = 0 := by
  have e : plusB x y = false := by
    unfold plusB
    match k, hk with
    | 0, _ => simp [h]
    | 1, _ => simp [h]
    | 2, _ => simp [h]
    | 3, _ => simp [h]
  exact ⟨e, fun j => by simp [plusZ, e]⟩
theorem plus_yes {x y : Nat → Int} (h : ∀ j, j < 4 → fitB (x j + y j) = true) : plusB x y = true ∧ ∀ j, plusZ x y j = x j + y j := by
  have e : plusB x y = true := by simp [plusB, h]
  exact ⟨e, fun j => by simp [plusZ, e]⟩
def adds (x y : Nat → Int) : Nat → Int := fun j => x j + y j

theorem Made.free {w : World} {b k : Nat} {f : Nat → Int} (h : Made w b k f) : (∃ z0 z1 z2 z3 : Value, w.cell? ⟨b, 0, none⟩ = some z0 ∧ w.cell? ⟨b, 1, none⟩ = some z1 ∧ w.cell? ⟨b, 2, none⟩ = some z2 ∧ w.cell? ⟨b, 3, none⟩ = some z3) ∧
    w.frozen? ⟨b, 0, none⟩ = false ∧ w.frozen? ⟨b, 1, none⟩ = false ∧ w.frozen? ⟨b, 2, none⟩ = false ∧ w.frozen? ⟨b, 3, none⟩ = false := by
  obtain ⟨⟨z0, c0, _⟩, f0⟩ := h 0 (by omega)
  obtain ⟨⟨z1, c1, _⟩, f1⟩ := h 1 (by omega)
  obtain ⟨⟨z2, c2, _⟩, f2⟩ := h 2 (by omega)
  obtain ⟨⟨z3, c3, _⟩, f3⟩ := h 3 (by omega)
  exact ⟨⟨_, _, _, _, c0, c1, c2, c3⟩, f0, f1, f2, f3⟩
theorem Made.full {w : World} {b : Nat} {f : Nat → Int} (h : Made w b 4 f) : w.cell? ⟨b, 0, none⟩ = some (.int .i64 (f 0)) ∧ w.cell? ⟨b, 1, none⟩ = some (.int .i64 (f 1)) ∧ w.cell? ⟨b, 2, none⟩ = some (.int .i64 (f 2)) ∧ w.cell? ⟨b, 3, none⟩ = some (.int .i64 (f 3)) := by
  obtain ⟨⟨z0, c0, e0⟩, _⟩ := h 0 (by omega)
  obtain ⟨⟨z1, c1, e1⟩, _⟩ := h 1 (by omega)
  obtain ⟨⟨z2, c2, e2⟩, _⟩ := h 2 (by omega)
  obtain ⟨⟨z3, c3, e3⟩, _⟩ := h 3 (by omega)
  rw [c0, c1, c2, c3, e0 (by omega), e1 (by omega), e2 (by omega), e3 (by omega)]
  exact ⟨rfl, rfl, rfl, rfl⟩
theorem Made.other {w : World} {b c k i : Nat} {v : Value} {f : Nat → Int} (h : Made w b k f) (hne : b ≠ c) : Made (w.setCell ⟨c, i, none⟩ v) b k f := by
  intro j hj
  obtain ⟨⟨z, hz, hzk⟩, hf⟩ := h j hj
  exact ⟨⟨z, by rw [World.cell?_setCell_far _ _ _ _ (fun e => hne e.symm)]; exact hz, hzk⟩, by simp [hf]⟩
theorem Four.other {w : World} {b c i : Nat} {v : Value} {f : Nat → Int} (h : Four w b f) (hne : b ≠ c) : Four (w.setCell ⟨c, i, none⟩ v) b f := by
  intro j hj
  rw [World.cell?_setCell_far _ _ _ _ (fun e => hne e.symm)]; exact h j hj

theorem set4 {B c : Nat} {w w' : World} (h : Below B w w') (hc : B ≤ c) (u0 u1 u2 u3 : Value) : Below B w ((((w'.setCell ⟨c, 0, none⟩ u0).setCell ⟨c, 1, none⟩ u1).setCell ⟨c, 2, none⟩ u2).setCell ⟨c, 3, none⟩ u3) :=
  ((((h.setCell (p := ⟨c, 0, none⟩) hc _).setCell (p := ⟨c, 1, none⟩) hc _).setCell (p := ⟨c, 2, none⟩) hc _).setCell (p := ⟨c, 3, none⟩) hc _)

set_option maxHeartbeats 1000000 in
theorem plusN_any (x0 x1 x2 x3 y0 y1 y2 y3 : Int) (hx : ∀ j, j < 4 → I64 (four x0 x1 x2 x3 j)) (hy : ∀ j, j < 4 → I64 (four y0 y1 y2 y3 j)) (w : World) :
    Calls Try.prog 13 #[.agg #[.int .i64 x0, .int .i64 x1, .int .i64 x2, .int .i64 x3], .agg #[.int .i64 y0, .int .i64 y1, .int .i64 y2, .int .i64 y3]] w fun e w' =>
      e = .returned (.tuple #[.agg #[.int .i64 (plusZ (four x0 x1 x2 x3) (four y0 y1 y2 y3) 0), .int .i64 (plusZ (four x0 x1 x2 x3) (four y0 y1 y2 y3) 1), .int .i64 (plusZ (four x0 x1 x2 x3) (four y0 y1 y2 y3) 2), .int .i64 (plusZ (four x0 x1 x2 x3) (four y0 y1 y2 y3) 3)],
        .bool (plusB (four x0 x1 x2 x3) (four y0 y1 y2 y3))]) ∧ Below w.heap.size w w' := by
  have s1 := Four.alloc w x0 x1 x2 x3 30
  have s2 := Four.alloc (w.alloc (.cells #[.int .i64 x0, .int .i64 x1, .int .i64 x2, .int .i64 x3] 30)) y0 y1 y2 y3 30
  generalize four x0 x1 x2 x3 = x at *
  generalize four y0 y1 y2 y3 = y at *
  have S1 := hid (s1.keep (bel1 _ (.cells #[.int .i64 y0, .int .i64 y1, .int .i64 y2, .int .i64 y3] 30)))
  have S2 := hid s2
  clear s1 s2
  go_enter Try.func13, Try.ntmps13
  go_wp2
  go_loopw [10] (fun i wr => ∃ k : Nat, k ≤ 4 ∧ i = .int .i64 k ∧ Four wr w.heap.size x ∧ Four wr (w.heap.size + 1) y ∧ Made wr (w.heap.size + 2) 0 x ∧ Made wr (w.heap.size + 3) k (adds x y) ∧ (∀ j, j < k → fitB (x j + y j) = true) ∧ Below w.heap.size w wr) (fun i _ => 4 - (intOf i).toNat)
  case atStart =>
    refine ⟨0, by omega, rfl, (S1.out.keep (bel1 _ _)).keep (bel1 _ _), ?_, ?_, ?_, fun j h => by omega, bel_more (bel3 _ _ _ _) (Nat.le_refl _) _⟩
    · have := (S2.out.keep (bel1 _ (.cells #[.int .i64 0, .int .i64 0, .int .i64 0, .int .i64 0] 30))).keep (bel1 _ (.cells #[.int .i64 0, .int .i64 0, .int .i64 0, .int .i64 0] 30))
      simp at this; exact this
    · have := (Made.start ((w.alloc (.cells #[.int .i64 x0, .int .i64 x1, .int .i64 x2, .int .i64 x3] 30)).alloc (.cells #[.int .i64 y0, .int .i64 y1, .int .i64 y2, .int .i64 y3] 30)) x 0 0 0 0 30).keep (bel1 _ (.cells #[.int .i64 0, .int .i64 0, .int .i64 0, .int .i64 0] 30))
      simp at this; exact this
    · have := Made.start (((w.alloc (.cells #[.int .i64 x0, .int .i64 x1, .int .i64 x2, .int .i64 x3] 30)).alloc (.cells #[.int .i64 y0, .int .i64 y1, .int .i64 y2, .int .i64 y3] 30)).alloc (.cells #[.int .i64 0, .int .i64 0, .int .i64 0, .int .i64 0] 30)) (adds x y) 0 0 0 0 30
      simp at this; exact this
  case round =>
    obtain ⟨k, hk, rfl, h4x, h4y, hm, hn, hf, hbel⟩ := hrel
    clear S1 S2
    by_cases hlt : k < 4
    · have cx := h4x k hlt
      have cy := h4y k hlt
      have ix := hx k hlt
      have iy := hy k hlt
      by_cases hfk : fitB (x k + y k) = true
      · have hz : fitZ (x k + y k) = adds x y k := by unfold fitZ; rw [if_pos hfk]; rfl
        have HF : Hid (∀ j, j < k + 1 → fitB (x j + y j) = true) := fun j hj => by
          by_cases e : j = k
          · rw [e]; exact hfk
          · exact hf j (by omega)
        have HX := hid h4x
        have HY := hid h4y
        have HM := hid hm
        have HN := hid hn
        obtain ⟨⟨z, cz, _⟩, fz⟩ := hn k hlt
        clear hf hx hy h4x h4y hm hn
        go_wp2
        go_region_held3 (fun w' => w'.cell? ⟨w.heap.size, k, none⟩ = some (.int .i64 (x k)) ∧ w'.cell? ⟨w.heap.size + 1, k, none⟩ = some (.int .i64 (y k)))
          ((first | exact ⟨cx, cy⟩ | exact ⟨cellK b2 cx, cellK b2 cy⟩))
          ((go_at_call 17; refine (add_any _ _ ix iy _).mono ?_; rintro e w2 ⟨rfl, b2⟩))
        have cz2 := cellK b2 cz
        have fz2 := frozK b2 cz fz
        go_wp2
        go_roundw
        case rel =>
          exact ⟨k + 1, by omega, by go_num, (HX.out.keep (w := wr.drew) b2).other (by omega), (HY.out.keep (w := wr.drew) b2).other (by omega), (HM.out.keep (w := wr.drew) b2).other (by omega), (HN.out.keep (w := wr.drew) b2).put hlt, HF.out, ((sq hbel.drew b2)).setCell (by show w.heap.size ≤ w.heap.size + 3; omega) _⟩
        case measure => simp [intOf]; omega
      · have hfk' : fitB (x k + y k) = false := by simpa using hfk
        clear hfk
        have HR : Hid (plusB x y = false ∧ ∀ j, plusZ x y j = 0) := plus_no hlt hfk'
        have HM := hid hm
        clear hf hx hy h4x h4y hm hn
        go_wp2
        go_region_held3 (fun w' => w'.cell? ⟨w.heap.size, k, none⟩ = some (.int .i64 (x k)) ∧ w'.cell? ⟨w.heap.size + 1, k, none⟩ = some (.int .i64 (y k)))
          ((first | exact ⟨cx, cy⟩ | exact ⟨cellK b2 cx, cellK b2 cy⟩))
          ((go_at_call 17; refine (add_any _ _ ix iy _).mono ?_; rintro e w2 ⟨rfl, b2⟩))
        obtain ⟨⟨z0, z1, z2, z3, c0, c1, c2, c3⟩, f0, f1, f2, f3⟩ := (HM.out.keep (w := wr.drew) b2).free
        go_wp2
        simp [bodyPost, results, Try.results13, go_sem, c0, c1, c2, c3]
        exact ⟨⟨⟨(HR.out.2 0).symm, (HR.out.2 1).symm, (HR.out.2 2).symm, (HR.out.2 3).symm⟩, HR.out.1⟩, set4 ((sq hbel.drew b2)) (by omega) _ _ _ _⟩
    · have ek : k = 4 := by omega
      subst ek
      have HR : Hid (plusB x y = true ∧ ∀ j, plusZ x y j = x j + y j) := plus_yes hf
      obtain ⟨⟨z0, z1, z2, z3, c0, c1, c2, c3⟩, f0, f1, f2, f3⟩ := hm.free
      obtain ⟨d0, d1, d2, d3⟩ := hn.full
      clear hf hx hy h4x h4y hm hn
      go_wp2
      simp [bodyPost, results, Try.results13, go_sem, c0, c1, c2, c3]
      exact ⟨⟨⟨(HR.out.2 0).symm, (HR.out.2 1).symm, (HR.out.2 2).symm, (HR.out.2 3).symm⟩, HR.out.1⟩, set4 hbel (by omega) _ _ _ _⟩

theorem index4 (x0 x1 x2 x3 : Int) (w : World) :
    (Instr.index 30 (.agg #[.int .i64 x0, .int .i64 x1, .int .i64 x2, .int .i64 x3]) (.int .i64 0)).run Try.prog w = .ok (.int .i64 x0) w ∧
    (Instr.index 30 (.agg #[.int .i64 x0, .int .i64 x1, .int .i64 x2, .int .i64 x3]) (.int .i64 1)).run Try.prog w = .ok (.int .i64 x1) w ∧
    (Instr.index 30 (.agg #[.int .i64 x0, .int .i64 x1, .int .i64 x2, .int .i64 x3]) (.int .i64 2)).run Try.prog w = .ok (.int .i64 x2) w ∧
    (Instr.index 30 (.agg #[.int .i64 x0, .int .i64 x1, .int .i64 x2, .int .i64 x3]) (.int .i64 3)).run Try.prog w = .ok (.int .i64 x3) w := by
  refine ⟨?_, ?_, ?_, ?_⟩ <;> kernel_rfl

set_option maxHeartbeats 1000000 in
theorem count_any (x0 x1 x2 x3 : Int) (hx : ∀ j, j < 4 → I64 (four x0 x1 x2 x3 j)) (w : World) :
    Calls Try.prog 15 #[.agg #[.int .i64 x0, .int .i64 x1, .int .i64 x2, .int .i64 x3]] w fun e w' =>
      e = .returned (.tuple #[.int .i64 (fitZ (tot (list4 (four x0 x1 x2 x3)))), .bool (fitB (tot (list4 (four x0 x1 x2 x3))))]) ∧ Below w.heap.size w w' := by
  have e0 : Hid (four x0 x1 x2 x3 0 = x0) := rfl
  have e1 : Hid (four x0 x1 x2 x3 1 = x1) := rfl
  have e2 : Hid (four x0 x1 x2 x3 2 = x2) := rfl
  have e3 : Hid (four x0 x1 x2 x3 3 = x3) := rfl
  generalize four x0 x1 x2 x3 = x at *
  have i0 := fun w => (index4 x0 x1 x2 x3 w).1
  have i1 := fun w => (index4 x0 x1 x2 x3 w).2.1
  have i2 := fun w => (index4 x0 x1 x2 x3 w).2.2.1
  have i3 := fun w => (index4 x0 x1 x2 x3 w).2.2.2
  go_enter Try.func15, Try.ntmps15
  go_wp2
  go_loopw [10] (fun i wr => ∃ k : Nat, k ≤ 4 ∧ i = .int .i64 k ∧ Made wr (w.heap.size + 1) k x ∧ Below w.heap.size w wr) (fun i _ => 4 - (intOf i).toNat)
  case atStart =>
    refine ⟨0, by omega, rfl, ?_, bel_more (bel1 _ _) (Nat.le_refl _) _⟩
    have := Made.start (w.alloc (.cells #[.int .i64 x0, .int .i64 x1, .int .i64 x2, .int .i64 x3] 30)) x 0 0 0 0 50
    simp at this; exact this
  case round =>
    obtain ⟨k, hk, rfl, hm, hbel⟩ := hrel
    by_cases hlt : k < 4
    · have HM := hid hm
      obtain ⟨⟨z, cz, _⟩, fz⟩ := hm k hlt
      have hput := hid (hm.put hlt)
      clear hm hx
      have h4 : k = 0 ∨ k = 1 ∨ k = 2 ∨ k = 3 := by omega
      rcases h4 with rfl | rfl | rfl | rfl
      · go_wp2
        go_roundw
        case rel => exact ⟨1, by omega, by go_num, by have := hput.out; rw [e0.out] at this; exact this, hbel.setCell (by simp) _⟩
        case measure => simp [intOf]
      · go_wp2
        go_roundw
        case rel => exact ⟨2, by omega, by go_num, by have := hput.out; rw [e1.out] at this; exact this, hbel.setCell (by simp) _⟩
        case measure => simp [intOf]
      · go_wp2
        go_roundw
        case rel => exact ⟨3, by omega, by go_num, by have := hput.out; rw [e2.out] at this; exact this, hbel.setCell (by simp) _⟩
        case measure => simp [intOf]
      · go_wp2
        go_roundw
        case rel => exact ⟨4, by omega, by go_num, by have := hput.out; rw [e3.out] at this; exact this, hbel.setCell (by simp) _⟩
        case measure => simp [intOf]
    · have ek : k = 4 := by omega
      subst ek
      have hrow := hm.row
      have hall : AllI (list4 x) := alli_list4 hx
      clear hx hm
      go_wp2_with (go_at_call 9; refine (total_at _ 4 _ _ _ rfl hrow hall (by unfold maxLen; omega)).mono ?_; rintro e w2 ⟨rfl, b2⟩)
      go_ret2
      exact ⟨rfl, (sq hbel b2)⟩
end Go.Proofs.Ytjgnimekplaklaa
