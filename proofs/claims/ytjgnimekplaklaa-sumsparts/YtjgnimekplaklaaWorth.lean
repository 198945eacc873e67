/- What notes are worth, by the program. -/
import Derived.Test.YtjgnimekplaklaaTot
namespace Go.Proofs.Ytjgnimekplaklaa
open Go.ChangeShapes Go.WideShapes Go.ChangeAt Go.RowKit

/-- Four numbers, by their places. -/
def four (a b c d : Int) : Nat → Int | 0 => a | 1 => b | 2 => c | _ => d
/-- Block b holds four numbers. -/
def Four (w : World) (b : Nat) (f : Nat → Int) : Prop := ∀ j, j < 4 → w.cell? ⟨b, j, none⟩ = some (.int .i64 (f j))
/-- Block b has four cells to write to, and the first k hold f's. -/
def Made (w : World) (b k : Nat) (f : Nat → Int) : Prop := ∀ j, j < 4 → (∃ z, w.cell? ⟨b, j, none⟩ = some (.int .i64 z) ∧ (j < k → z = f j)) ∧ w.frozen? ⟨b, j, none⟩ = false
def list4 (f : Nat → Int) : List Int := [f 0, f 1, f 2, f 3]

theorem Four.keep {w w' : World} {b : Nat} {f : Nat → Int} (h : Four w b f) (k : Below w.heap.size w w') : Four w' b f := fun j hj => cellK k (h j hj)
theorem Made.keep {w w' : World} {b k : Nat} {f : Nat → Int} (h : Made w b k f) (hb : Below w.heap.size w w') : Made w' b k f := fun j hj => by
  obtain ⟨⟨z, hz, hk⟩, hf⟩ := h j hj
  exact ⟨⟨z, cellK hb hz, hk⟩, frozK hb hz hf⟩
theorem Four.alloc (w : World) (a b c d : Int) (t : TypeId) : Four (w.alloc (.cells #[.int .i64 a, .int .i64 b, .int .i64 c, .int .i64 d] t)) w.heap.size (four a b c d) := by
  intro j hj
  rw [World.cell?_alloc_at _ _ _ _ rfl]
  match j, hj with
  | 0, _ => rfl
  | 1, _ => rfl
  | 2, _ => rfl
  | 3, _ => rfl
theorem Made.start (w : World) (f : Nat → Int) (a b c d : Int) (t : TypeId) : Made (w.alloc (.cells #[.int .i64 a, .int .i64 b, .int .i64 c, .int .i64 d] t)) w.heap.size 0 f := by
  intro j hj
  refine ⟨⟨four a b c d j, Four.alloc w a b c d t j hj, fun h => by omega⟩, by simp⟩
theorem Made.put {w : World} {b k : Nat} {f : Nat → Int} (h : Made w b k f) (_hk : k < 4) : Made (w.setCell ⟨b, k, none⟩ (.int .i64 (f k))) b (k + 1) f := by
  intro j hj
  obtain ⟨⟨z, hz, hzk⟩, hf⟩ := h j hj
  refine ⟨?_, by simp [hf]⟩
  by_cases e : j = k
  · subst e
    exact ⟨f j, by simp [go_sem, hz], fun _ => rfl⟩
  · exact ⟨z, by rw [World.cell?_setCell_other _ _ _ _ (by simp)]; exact hz, fun h => hzk (by omega)⟩
theorem Made.row {w : World} {b : Nat} {f : Nat → Int} (h : Made w b 4 f) : RowAt w (some ⟨b, 0, none⟩) (list4 f) := by
  refine .inr ⟨b, 0, rfl, fun i hi => ?_⟩
  have hi4 : i < 4 := hi
  obtain ⟨⟨z, hz, hk⟩, _⟩ := h i hi4
  rw [Nat.zero_add, hz, hk hi4]
  match i, hi4 with
  | 0, _ => rfl
  | 1, _ => rfl
  | 2, _ => rfl
  | 3, _ => rfl
theorem alli_list4 {f : Nat → Int} (h : ∀ j, j < 4 → I64 (f j)) : AllI (list4 f) := by
  intro x hx
  simp [list4] at hx
  rcases hx with rfl | rfl | rfl | rfl
  · exact h 0 (by omega)
  · exact h 1 (by omega)
  · exact h 2 (by omega)
  · exact h 3 (by omega)

theorem total_at (ao : Option Addr) (len cap : Nat) (zs : List Int) (w : World) (hlen : zs.length = len) (hr : RowAt w ao zs) (hb : AllI zs) (hl : len ≤ maxLen) :
    Calls Try.prog 9 #[.slice ao len cap] w fun e w' => e = .returned (.tuple #[.int .i64 (fitZ (tot zs)), .bool (fitB (tot zs))]) ∧ Below w.heap.size w w' := by
  subst hlen; exact total_any ao cap zs w hr hb hl

/-- What notes x are worth at y a note. -/
def prods (x y : Nat → Int) : Nat → Int := fun j => x j * y j
def worthB (x y : Nat → Int) : Bool := (list4 (prods x y)).all fitB && fitB (tot (list4 (prods x y)))
def worthZ (x y : Nat → Int) : Int := if worthB x y = true then tot (list4 (prods x y)) else 0
theorem worth_no {x y : Nat → Int} {k : Nat} (hk : k < 4) (h : fitB (x k * y k) = false) : worthB x y = false ∧ worthZ x y = 0 := by
  have e : worthB x y = false := by
    unfold worthB list4 prods
    match k, hk with
    | 0, _ => simp [h]
    | 1, _ => simp [h]
    | 2, _ => simp [h]
    | 3, _ => simp [h]
  exact ⟨e, by simp [worthZ, e]⟩
theorem worth_yes {x y : Nat → Int} (h : ∀ j, j < 4 → fitB (x j * y j) = true) : worthB x y = fitB (tot (list4 (prods x y))) ∧ worthZ x y = fitZ (tot (list4 (prods x y))) := by
  have e : worthB x y = fitB (tot (list4 (prods x y))) := by
    have : (list4 (prods x y)).all fitB = true := by simp [list4, prods, h]
    unfold worthB; rw [this, Bool.true_and]
  exact ⟨e, by unfold worthZ fitZ; rw [e]⟩

theorem hid {p : Prop} (h : p) : Hid p := h
theorem bel3' (w : World) (o p q : Obj) : Below (w.heap.size + 2) (((w.alloc o).alloc p)) (((w.alloc o).alloc p).alloc q) := (Below.refl _ _).alloc (by simp) q
set_option maxHeartbeats 1000000 in
theorem worth_any (x0 x1 x2 x3 y0 y1 y2 y3 : Int) (hx : ∀ j, j < 4 → I64 (four x0 x1 x2 x3 j)) (hy : ∀ j, j < 4 → I64 (four y0 y1 y2 y3 j)) (w : World) :
    Calls Try.prog 11 #[.agg #[.int .i64 x0, .int .i64 x1, .int .i64 x2, .int .i64 x3], .agg #[.int .i64 y0, .int .i64 y1, .int .i64 y2, .int .i64 y3]] w fun e w' =>
      e = .returned (.tuple #[.int .i64 (worthZ (four x0 x1 x2 x3) (four y0 y1 y2 y3)), .bool (worthB (four x0 x1 x2 x3) (four y0 y1 y2 y3))]) ∧ Below w.heap.size w w' := by
  have s1 := Four.alloc w x0 x1 x2 x3 30
  have s2 := Four.alloc (w.alloc (.cells #[.int .i64 x0, .int .i64 x1, .int .i64 x2, .int .i64 x3] 30)) y0 y1 y2 y3 30
  generalize four x0 x1 x2 x3 = x at *
  generalize four y0 y1 y2 y3 = y at *
  have S1 := hid (s1.keep (bel1 _ (.cells #[.int .i64 y0, .int .i64 y1, .int .i64 y2, .int .i64 y3] 30)))
  have S2 := hid s2
  clear s1 s2
  go_enter Try.func11, Try.ntmps11
  go_wp2
  go_loopw [10] (fun i wr => ∃ k : Nat, k ≤ 4 ∧ i = .int .i64 k ∧ Four wr w.heap.size x ∧ Four wr (w.heap.size + 1) y ∧ Made wr (w.heap.size + 2) k (prods x y) ∧ (∀ j, j < k → fitB (x j * y j) = true) ∧ Below w.heap.size w wr) (fun i _ => 4 - (intOf i).toNat)
  case atStart =>
    refine ⟨0, by omega, rfl, S1.out.keep (bel1 _ _), ?_, ?_, fun j h => by omega, bel3 _ _ _ _⟩
    · have := S2.out.keep (bel1 _ (.cells #[.int .i64 0, .int .i64 0, .int .i64 0, .int .i64 0] 50))
      simp at this; exact this
    · have := Made.start ((w.alloc (.cells #[.int .i64 x0, .int .i64 x1, .int .i64 x2, .int .i64 x3] 30)).alloc (.cells #[.int .i64 y0, .int .i64 y1, .int .i64 y2, .int .i64 y3] 30)) (prods x y) 0 0 0 0 50
      simp at this; exact this
  case round =>
    obtain ⟨k, hk, rfl, h4x, h4y, hm, hf, hbel⟩ := hrel
    clear S1 S2
    by_cases hlt : k < 4
    · have cx := h4x k hlt
      have cy := h4y k hlt
      have ix := hx k hlt
      have iy := hy k hlt
      by_cases hfk : fitB (x k * y k) = true
      · have hz : fitZ (x k * y k) = prods x y k := by unfold fitZ; rw [if_pos hfk]; rfl
        have HF : Hid (∀ j, j < k + 1 → fitB (x j * y j) = true) := fun j hj => by
          by_cases e : j = k
          · rw [e]; exact hfk
          · exact hf j (by omega)
        have HX := hid h4x
        have HY := hid h4y
        have HM := hid hm
        obtain ⟨⟨z, cz, _⟩, fz⟩ := hm k hlt
        clear hf hx hy h4x h4y hm
        go_wp2
        go_region_held3 (fun w' => w'.cell? ⟨w.heap.size, k, none⟩ = some (.int .i64 (x k)) ∧ w'.cell? ⟨w.heap.size + 1, k, none⟩ = some (.int .i64 (y k)))
          ((first | exact ⟨cx, cy⟩ | exact ⟨cellK b2 cx, cellK b2 cy⟩))
          ((go_at_call 19; refine (mul_any _ _ ix iy _).mono ?_; rintro e w2 ⟨rfl, b2⟩))
        have cz2 := cellK b2 cz
        have fz2 := frozK b2 cz fz
        go_wp2
        go_roundw
        case rel =>
          have hne : ∀ (b j : Nat), b ≠ w.heap.size + 2 → (w2.setCell ⟨w.heap.size + 2, k, none⟩ (.int .i64 (prods x y k))).cell? ⟨b, j, none⟩ = w2.cell? ⟨b, j, none⟩ := fun b j hb => World.cell?_setCell_far _ _ _ _ (fun e => hb e.symm)
          refine ⟨k + 1, by omega, by go_num, fun j hj => (hne _ _ (by omega)).trans ((HX.out.keep (w := wr.drew) b2) j hj), fun j hj => (hne _ _ (by omega)).trans ((HY.out.keep (w := wr.drew) b2) j hj), (HM.out.keep (w := wr.drew) b2).put hlt, HF.out, ((sq hbel.drew b2)).setCell (by show w.heap.size ≤ w.heap.size + 2; omega) _⟩
        case measure => simp [intOf]; omega
      · have hfk' : fitB (x k * y k) = false := by simpa using hfk
        clear hfk
        have HR : Hid (worthB x y = false ∧ worthZ x y = 0) := worth_no hlt hfk'
        clear hf hx hy h4x h4y hm
        go_wp2
        go_region_held3 (fun w' => w'.cell? ⟨w.heap.size, k, none⟩ = some (.int .i64 (x k)) ∧ w'.cell? ⟨w.heap.size + 1, k, none⟩ = some (.int .i64 (y k)))
          ((first | exact ⟨cx, cy⟩ | exact ⟨cellK b2 cx, cellK b2 cy⟩))
          ((go_at_call 19; refine (mul_any _ _ ix iy _).mono ?_; rintro e w2 ⟨rfl, b2⟩))
        go_wp2
        go_ret2
        exact ⟨ret_int_bool HR.out.2.symm HR.out.1.symm, (sq hbel.drew b2)⟩
    · have ek : k = 4 := by omega
      subst ek
      have HR : Hid (worthB x y = fitB (tot (list4 (prods x y))) ∧ worthZ x y = fitZ (tot (list4 (prods x y)))) := worth_yes hf
      have hrow := hm.row
      have hall : AllI (list4 (prods x y)) := alli_list4 fun j hj => (fitB_iff _).1 (hf j hj)
      clear hf hx hy h4x h4y hm
      go_wp2_with (go_at_call 9; refine (total_at _ 4 _ _ _ rfl hrow hall (by unfold maxLen; omega)).mono ?_; rintro e w2 ⟨rfl, b2⟩)
      go_ret2
      exact ⟨ret_int_bool HR.out.2.symm HR.out.1.symm, (sq hbel b2)⟩
end Go.Proofs.Ytjgnimekplaklaa
