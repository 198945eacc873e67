/- For all notes a and b, every k and small the function SumsNotes answers true: what notes are worth, added, counted is what the document says, at edges too. -/
import Derived.Test.YtjgnimekplaklaaNoteR
import Derived.Test.YtjgnimekplaklaaParts
namespace Go.Proofs.Ytjgnimekplaklaa
open Go.ChangeShapes Go.WideShapes Go.ChangeAt Go.RowKit

/-- Two boxes of four, behind a call. -/
theorem boxes2 {w w1 : World} {u0 u1 u2 u3 v0 v1 v2 v3 : Value} {t : TypeId} (c : Below ((w.alloc (.cells #[u0, u1, u2, u3] t)).alloc (.cells #[v0, v1, v2, v3] t)).heap.size ((w.alloc (.cells #[u0, u1, u2, u3] t)).alloc (.cells #[v0, v1, v2, v3] t)) w1) :
    (w1.cell? ⟨w.heap.size, 0, none⟩ = some u0 ∧ w1.cell? ⟨w.heap.size, 1, none⟩ = some u1 ∧ w1.cell? ⟨w.heap.size, 2, none⟩ = some u2 ∧ w1.cell? ⟨w.heap.size, 3, none⟩ = some u3) ∧
    (w1.cell? ⟨w.heap.size + 1, 0, none⟩ = some v0 ∧ w1.cell? ⟨w.heap.size + 1, 1, none⟩ = some v1 ∧ w1.cell? ⟨w.heap.size + 1, 2, none⟩ = some v2 ∧ w1.cell? ⟨w.heap.size + 1, 3, none⟩ = some v3) ∧ w.heap.size < w1.heap.size ∧ w.heap.size + 1 < w1.heap.size := by
  have h1 := cells4 ((sq (bel1 _ _) c))
  have h2 := cells4 c
  have h3 := c.size
  simp at h2 h3
  exact ⟨h1, h2, by omega, by omega⟩

/-- What the law makes of notes: small ones, or near an edge. -/
def mkX (sm : Bool) (k8 : Int) (x : Nat → Int) : Nat → Int := fun j => if sm = true then (x j).tmod 10001 else nearZ (x j) (k8 / 2 ^ j)
def mkY (sm : Bool) (k8 : Int) (y : Nat → Int) : Nat → Int := fun j => if sm = true then (y j).tmod 100001 else nearZ (y j) (k8 / 2)
theorem mkX_i64 (sm : Bool) (k8 : Int) {x : Nat → Int} (hx : ∀ j, j < 4 → I64 (x j)) : ∀ j, j < 4 → I64 (mkX sm k8 x j) := by
  intro j hj
  unfold mkX
  split
  · exact (Sm.tmod' (x j) 10001 10000 rfl (by decide)).i64 (by omega)
  · exact nearZ_i64 _ (hx j hj)
theorem mkY_i64 (sm : Bool) (k8 : Int) {y : Nat → Int} (hy : ∀ j, j < 4 → I64 (y j)) : ∀ j, j < 4 → I64 (mkY sm k8 y j) := by
  intro j hj
  unfold mkY
  split
  · exact (Sm.tmod' (y j) 100001 100000 rfl (by decide)).i64 (by omega)
  · exact nearZ_i64 _ (hy j hj)

theorem size_alloc (w : World) (o : Obj) : (w.alloc o).heap.size = w.heap.size + 1 := by simp
theorem near_at (v k : Int) (hk : 0 ≤ k) (w : World) : Calls Try.prog 8 #[.int .i64 v, .int .u8 k] w fun e w' => e = .returned (.int .i64 (nearZ v k)) ∧ w = w' :=
  (near_any v k hk w).mono fun _ _ h => ⟨h.1, h.2.symm⟩
/-- How the loop begins: the notes that came in, and two variables that hold the same. -/
structure Start (w W : World) (p q : Nat) (x y X Y : Nat → Int) : Prop where
  f1 : Four W w.heap.size x
  f2 : Four W (w.heap.size + 1) y
  m1 : Mix W p 0 x X
  m2 : Mix W q 0 y Y
  bel : Below w.heap.size w W
  ne : p ≠ q
  hp : w.heap.size + 1 < p
  hq : w.heap.size + 1 < q
theorem begin1 {w w1 : World} {x0 x1 x2 x3 y0 y1 y2 y3 : Int} (X Y : Nat → Int) (c1 : Below ((w.alloc (.cells #[.int .i64 x0, .int .i64 x1, .int .i64 x2, .int .i64 x3] 30)).alloc (.cells #[.int .i64 y0, .int .i64 y1, .int .i64 y2, .int .i64 y3] 30)).heap.size ((w.alloc (.cells #[.int .i64 x0, .int .i64 x1, .int .i64 x2, .int .i64 x3] 30)).alloc (.cells #[.int .i64 y0, .int .i64 y1, .int .i64 y2, .int .i64 y3] 30)) w1) :
    Start w ((w1.alloc (.cells #[.int .i64 x0, .int .i64 x1, .int .i64 x2, .int .i64 x3] 30)).alloc (.cells #[.int .i64 y0, .int .i64 y1, .int .i64 y2, .int .i64 y3] 30)).drew w1.heap.size (w1.heap.size + 1) (four x0 x1 x2 x3) (four y0 y1 y2 y3) X Y := by
  have F1 : Four w1 w.heap.size (four x0 x1 x2 x3) := (Four.alloc w x0 x1 x2 x3 30).keep ((sq (bel1 _ _) c1))
  have F2 : Four w1 (w.heap.size + 1) (four y0 y1 y2 y3) := by have := (Four.alloc (w.alloc (.cells #[.int .i64 x0, .int .i64 x1, .int .i64 x2, .int .i64 x3] 30)) y0 y1 y2 y3 30).keep c1; simp only [size_alloc] at this; exact this
  have hb0 : Below w.heap.size w w1 := (sq (bel_more (bel1 _ _) (Nat.le_refl _) _) c1)
  have h3 := c1.size
  simp only [size_alloc] at h3
  exact ⟨by have := (F1.keep (bel1 _ (.cells #[.int .i64 x0, .int .i64 x1, .int .i64 x2, .int .i64 x3] 30))).keep (bel1 _ (.cells #[.int .i64 y0, .int .i64 y1, .int .i64 y2, .int .i64 y3] 30)); exact this, by have := (F2.keep (bel1 _ (.cells #[.int .i64 x0, .int .i64 x1, .int .i64 x2, .int .i64 x3] 30))).keep (bel1 _ (.cells #[.int .i64 y0, .int .i64 y1, .int .i64 y2, .int .i64 y3] 30)); exact this, by have := (Mix.start w1 x0 x1 x2 x3 X 30).keep (bel1 _ (.cells #[.int .i64 y0, .int .i64 y1, .int .i64 y2, .int .i64 y3] 30)); exact this, by have := Mix.start (w1.alloc (.cells #[.int .i64 x0, .int .i64 x1, .int .i64 x2, .int .i64 x3] 30)) y0 y1 y2 y3 Y 30; simp only [size_alloc] at this; exact this, ((sq ((sq hb0 (bel1 _ _))) (bel1 _ _))).drew, by omega, by omega, by omega⟩
theorem begin2 {w w1 : World} {x0 x1 x2 x3 y0 y1 y2 y3 : Int} (X Y : Nat → Int) (c1 : Below ((w.alloc (.cells #[.int .i64 x0, .int .i64 x1, .int .i64 x2, .int .i64 x3] 30)).alloc (.cells #[.int .i64 y0, .int .i64 y1, .int .i64 y2, .int .i64 y3] 30)).heap.size ((w.alloc (.cells #[.int .i64 x0, .int .i64 x1, .int .i64 x2, .int .i64 x3] 30)).alloc (.cells #[.int .i64 y0, .int .i64 y1, .int .i64 y2, .int .i64 y3] 30)) w1) :
    Start w ((w1.alloc (.cells #[.int .i64 y0, .int .i64 y1, .int .i64 y2, .int .i64 y3] 30)).alloc (.cells #[.int .i64 x0, .int .i64 x1, .int .i64 x2, .int .i64 x3] 30)).drew (w1.heap.size + 1) w1.heap.size (four x0 x1 x2 x3) (four y0 y1 y2 y3) X Y := by
  have F1 : Four w1 w.heap.size (four x0 x1 x2 x3) := (Four.alloc w x0 x1 x2 x3 30).keep ((sq (bel1 _ _) c1))
  have F2 : Four w1 (w.heap.size + 1) (four y0 y1 y2 y3) := by have := (Four.alloc (w.alloc (.cells #[.int .i64 x0, .int .i64 x1, .int .i64 x2, .int .i64 x3] 30)) y0 y1 y2 y3 30).keep c1; simp only [size_alloc] at this; exact this
  have hb0 : Below w.heap.size w w1 := (sq (bel_more (bel1 _ _) (Nat.le_refl _) _) c1)
  have h3 := c1.size
  simp only [size_alloc] at h3
  exact ⟨by have := (F1.keep (bel1 _ (.cells #[.int .i64 y0, .int .i64 y1, .int .i64 y2, .int .i64 y3] 30))).keep (bel1 _ (.cells #[.int .i64 x0, .int .i64 x1, .int .i64 x2, .int .i64 x3] 30)); exact this, by have := (F2.keep (bel1 _ (.cells #[.int .i64 y0, .int .i64 y1, .int .i64 y2, .int .i64 y3] 30))).keep (bel1 _ (.cells #[.int .i64 x0, .int .i64 x1, .int .i64 x2, .int .i64 x3] 30)); exact this, by have := Mix.start (w1.alloc (.cells #[.int .i64 y0, .int .i64 y1, .int .i64 y2, .int .i64 y3] 30)) x0 x1 x2 x3 X 30; simp only [size_alloc] at this; exact this, by have := (Mix.start w1 y0 y1 y2 y3 Y 30).keep (bel1 _ (.cells #[.int .i64 x0, .int .i64 x1, .int .i64 x2, .int .i64 x3] 30)); exact this, ((sq ((sq hb0 (bel1 _ _))) (bel1 _ _))).drew, by omega, by omega, by omega⟩

set_option maxRecDepth 100000 in
set_option maxHeartbeats 8000000 in
theorem notes_walk (x0 x1 x2 x3 y0 y1 y2 y3 k8 : Int) (sm : Bool) (hx : ∀ j, j < 4 → I64 (four x0 x1 x2 x3 j)) (hy : ∀ j, j < 4 → I64 (four y0 y1 y2 y3 j)) (k0 : 0 ≤ k8) (k1 : k8 ≤ 255) (w : World) :
    Calls Try.prog 4 #[.agg #[.int .i64 x0, .int .i64 x1, .int .i64 x2, .int .i64 x3], .agg #[.int .i64 y0, .int .i64 y1, .int .i64 y2, .int .i64 y3], .int .u8 k8, .bool sm] w fun e w' => e = .returned (.bool true) ∧ Below w.heap.size w w' := by
  have IX := mkX_i64 sm k8 hx
  have IY := mkY_i64 sm k8 hy
  go_enter Try.func4, Try.ntmps4
  go_wp2_with (go_at_call 7; refine (known_any _).mono ?_; rintro e w1 ⟨rfl, c1⟩; obtain ⟨⟨cx0, cx1, cx2, cx3⟩, ⟨cy0, cy1, cy2, cy3⟩, l0, l1⟩ := boxes2 c1)
  go_region
  · have ST := begin1 (mkX sm k8 (four x0 x1 x2 x3)) (mkY sm k8 (four y0 y1 y2 y3)) c1
    clear cx0 cx1 cx2 cx3 cy0 cy1 cy2 cy3 c1 l0 l1
    generalize four x0 x1 x2 x3 = x at *
    generalize four y0 y1 y2 y3 = y at *
    generalize ((w1.alloc (.cells #[.int .i64 x0, .int .i64 x1, .int .i64 x2, .int .i64 x3] 30)).alloc (.cells #[.int .i64 y0, .int .i64 y1, .int .i64 y2, .int .i64 y3] 30)).drew = W at *
    generalize w1.heap.size + 1 = q at *
    generalize w1.heap.size = p at *
    have ne := ST.ne
    have hp := ST.hp
    have hq := ST.hq
    have n1 : w.heap.size ≠ p := by omega
    have n2 : w.heap.size ≠ q := by omega
    have n3 : w.heap.size + 1 ≠ p := by omega
    have n4 : w.heap.size + 1 ≠ q := by omega
    have n1' : ¬ p = w.heap.size := by omega
    have n2' : ¬ q = w.heap.size := by omega
    have n3' : ¬ p = w.heap.size + 1 := by omega
    have n4' : ¬ q = w.heap.size + 1 := by omega
    have HST := hid ST
    clear ST
    generalize hX : mkX sm k8 x = X at *
    generalize hY : mkY sm k8 y = Y at *
    go_wp2
    go_loopw [11] (fun i wr => ∃ k : Nat, k ≤ 4 ∧ i = .int .i64 k ∧ Four wr w.heap.size x ∧ Four wr (w.heap.size + 1) y ∧ Mix wr p k x X ∧ Mix wr q k y Y ∧ Below w.heap.size w wr) (fun i _ => 4 - (intOf i).toNat)
    case atStart => exact ⟨0, by omega, rfl, HST.out.f1, HST.out.f2, HST.out.m1, HST.out.m2, HST.out.bel⟩
    case round =>
      obtain ⟨k, hk, rfl, hA, hB, hP, hQ, hbel⟩ := hrel
      clear HST
      by_cases hlt : k < 4
      · have ca := hA k hlt
        have cb := hB k hlt
        obtain ⟨cp, fp⟩ := hP k hlt
        obtain ⟨cq, fq⟩ := hQ k hlt
        simp only [Nat.lt_irrefl, if_false] at cp cq
        have HA := hid hA
        have HB := hid hB
        have HP := hid hP
        have HQ := hid hQ
        clear hA hB hP hQ hx hy IX IY
        have hk4 : (k : Int) < 4 := by omega
        cases sm with
        | true =>
          have eX : Hid (X k = (x k).tmod 10001) := by show _ = _; rw [← hX]; rfl
          have eY : Hid (Y k = (y k).tmod 100001) := by show _ = _; rw [← hY]; rfl
          clear hX hY
          go_wp2
          go_region
          all_goals (
            go_wp2
            go_roundw
            case rel =>
              rw [← eX.out, ← eY.out]
              first
                | exact ⟨k + 1, by omega, by go_num, (HA.out.other n1).other n2, (HB.out.other n3).other n4, (HP.out.put (k := k)).other ne, (HQ.out.other (Ne.symm ne)).put (k := k), ((hbel.setCell (p := ⟨p, k, none⟩) (by show w.heap.size ≤ p; omega) _).setCell (p := ⟨q, k, none⟩) (by show w.heap.size ≤ q; omega) _).drew⟩
                | exact ⟨k + 1, by omega, by go_num, (HA.out.other n2).other n1, (HB.out.other n4).other n3, (HP.out.other ne).put (k := k), (HQ.out.put (k := k)).other (Ne.symm ne), ((hbel.setCell (p := ⟨q, k, none⟩) (by show w.heap.size ≤ q; omega) _).setCell (p := ⟨p, k, none⟩) (by show w.heap.size ≤ p; omega) _).drew⟩
            case measure => simp [intOf]; omega)
        | false =>
          have eX : Hid (X k = nearZ (x k) (k8 / 2 ^ k)) := by show _ = _; rw [← hX]; rfl
          have eY : Hid (Y k = nearZ (y k) (k8 / 2)) := by show _ = _; rw [← hY]; rfl
          clear hX hY
          have g1 : 0 ≤ k8 / 2 ^ k := Int.ediv_nonneg k0 (Int.le_of_lt (Int.pow_pos (by decide)))
          have g2 : 0 ≤ k8 / 2 := by omega
          have g3 : IntKind.u8.wrap (k8.tdiv 2) = k8 / 2 := by rw [Int.tdiv_eq_ediv_of_nonneg k0, IntKind.wrap_u8]; omega
          go_wp2
          go_region_held3 (fun w' => w'.cell? ⟨w.heap.size, k, none⟩ = some (.int .i64 (x k)) ∧ w'.cell? ⟨w.heap.size + 1, k, none⟩ = some (.int .i64 (y k)))
            ((first | exact ⟨ca, cb⟩ | (constructor <;> simp [World.cell?_setCell_far, n1', n2', n3', n4', ca, cb])))
            ((go_at_call 8; refine (near_at _ _ (by assumption) _).mono ?_; rintro e w' ⟨rfl, rfl⟩))
          all_goals (
            go_wp2
            go_roundw
            case rel =>
              rw [← eX.out, ← eY.out]
              first
                | exact ⟨k + 1, by omega, by go_num, (HA.out.other n1).other n2, (HB.out.other n3).other n4, (HP.out.put (k := k)).other ne, (HQ.out.other (Ne.symm ne)).put (k := k), ((hbel.setCell (p := ⟨p, k, none⟩) (by show w.heap.size ≤ p; omega) _).setCell (p := ⟨q, k, none⟩) (by show w.heap.size ≤ q; omega) _).drew⟩
                | exact ⟨k + 1, by omega, by go_num, (HA.out.other n2).other n1, (HB.out.other n4).other n3, (HP.out.other ne).put (k := k), (HQ.out.put (k := k)).other (Ne.symm ne), ((hbel.setCell (p := ⟨q, k, none⟩) (by show w.heap.size ≤ q; omega) _).setCell (p := ⟨p, k, none⟩) (by show w.heap.size ≤ p; omega) _).drew⟩
            case measure => simp [intOf]; omega)
      · have ek : k = 4 := by omega
        subst ek
        obtain ⟨x0', x1', x2', x3'⟩ := hP.full
        obtain ⟨y0', y1', y2', y3'⟩ := hQ.full
        have iX := four_i64 (IX 0 (by omega)) (IX 1 (by omega)) (IX 2 (by omega)) (IX 3 (by omega))
        have iY := four_i64 (IY 0 (by omega)) (IY 1 (by omega)) (IY 2 (by omega)) (IY 3 (by omega))
        clear hA hB hP hQ hx hy IX IY hX hY hk hlt n1 n2 n3 n4 n1' n2' n3' n4' hp hq ne
        generalize X 0 = A0 at *
        generalize X 1 = A1 at *
        generalize X 2 = A2 at *
        generalize X 3 = A3 at *
        generalize Y 0 = B0 at *
        generalize Y 1 = B1 at *
        generalize Y 2 = B2 at *
        generalize Y 3 = B3 at *
        have bel : Below wr.heap.size wr wr := Below.refl _ _
        have q30 := eq30 (plusZ (four A0 A1 A2 A3) (four B0 B1 B2 B3) 0) (plusZ (four A0 A1 A2 A3) (four B0 B1 B2 B3) 1) (plusZ (four A0 A1 A2 A3) (four B0 B1 B2 B3) 2) (plusZ (four A0 A1 A2 A3) (four B0 B1 B2 B3) 3)
        go_wp2_with (first
          | (go_at_call 11; refine (worth_any _ _ _ _ _ _ _ _ iX iY _).mono ?_; rintro e w3 ⟨rfl, c⟩; have bel : Below wr.heap.size wr w3 := (sq bel c); have u0 := cellK bel x0'; have u1 := cellK bel x1'; have u2 := cellK bel x2'; have u3 := cellK bel x3'; have v0 := cellK bel y0'; have v1 := cellK bel y1'; have v2 := cellK bel y2'; have v3 := cellK bel y3'; have lp : p < w3.heap.size := World.block_lt_of_cell? _ _ u0; have lq : q < w3.heap.size := World.block_lt_of_cell? _ _ v0)
          | (go_at_call 12; refine (worthR_any _ _ _ _ _ _ _ _ iX iY _).mono ?_; rintro e w3 ⟨rfl, c⟩; have bel : Below wr.heap.size wr w3 := (sq bel c); have u0 := cellK bel x0'; have u1 := cellK bel x1'; have u2 := cellK bel x2'; have u3 := cellK bel x3'; have v0 := cellK bel y0'; have v1 := cellK bel y1'; have v2 := cellK bel y2'; have v3 := cellK bel y3'; have lp : p < w3.heap.size := World.block_lt_of_cell? _ _ u0; have lq : q < w3.heap.size := World.block_lt_of_cell? _ _ v0)
          | (go_at_call 13; refine (plusN_any _ _ _ _ _ _ _ _ iX iY _).mono ?_; rintro e w3 ⟨rfl, c⟩; have bel : Below wr.heap.size wr w3 := (sq bel c); have u0 := cellK bel x0'; have u1 := cellK bel x1'; have u2 := cellK bel x2'; have u3 := cellK bel x3'; have v0 := cellK bel y0'; have v1 := cellK bel y1'; have v2 := cellK bel y2'; have v3 := cellK bel y3'; have lp : p < w3.heap.size := World.block_lt_of_cell? _ _ u0; have lq : q < w3.heap.size := World.block_lt_of_cell? _ _ v0)
          | (go_at_call 14; refine (plusNR_any _ _ _ _ _ _ _ _ iX iY _).mono ?_; rintro e w3 ⟨rfl, c⟩; have bel : Below wr.heap.size wr w3 := (sq ((sq bel (bel1 _ _))) c); obtain ⟨e0, e1, e2, e3⟩ := cells4 c; have u0 := cellK bel x0'; have u1 := cellK bel x1'; have u2 := cellK bel x2'; have u3 := cellK bel x3'; have v0 := cellK bel y0'; have v1 := cellK bel y1'; have v2 := cellK bel y2'; have v3 := cellK bel y3'; have lp : p < w3.heap.size := World.block_lt_of_cell? _ _ u0; have lq : q < w3.heap.size := World.block_lt_of_cell? _ _ v0)
          | (go_at_call 15; refine (count_any _ _ _ _ iX _).mono ?_; rintro e w3 ⟨rfl, c⟩; have bel : Below wr.heap.size wr w3 := (sq ((sq bel (bel1 _ _))) c); obtain ⟨d0, d1, d2, d3⟩ := cells4 c; have e0 := cellK ((sq (bel1 _ _) c)) e0; have e1 := cellK ((sq (bel1 _ _) c)) e1; have e2 := cellK ((sq (bel1 _ _) c)) e2; have e3 := cellK ((sq (bel1 _ _) c)) e3; have u0 := cellK bel x0'; have u1 := cellK bel x1'; have u2 := cellK bel x2'; have u3 := cellK bel x3'; have v0 := cellK bel y0'; have v1 := cellK bel y1'; have v2 := cellK bel y2'; have v3 := cellK bel y3'; have lp : p < w3.heap.size := World.block_lt_of_cell? _ _ u0; have lq : q < w3.heap.size := World.block_lt_of_cell? _ _ v0)
          | (go_at_call 16; refine (countR_any _ _ _ _ iX _).mono ?_; rintro e w3 ⟨rfl, c⟩; have bel : Below wr.heap.size wr w3 := (sq bel c); have d0 := cellK c d0; have d1 := cellK c d1; have d2 := cellK c d2; have d3 := cellK c d3; have e0 := cellK c e0; have e1 := cellK c e1; have e2 := cellK c e2; have e3 := cellK c e3))
        go_ret
        exact ⟨rfl, (sq hbel bel)⟩

  · have ST := begin2 (mkX sm k8 (four x0 x1 x2 x3)) (mkY sm k8 (four y0 y1 y2 y3)) c1
    clear cx0 cx1 cx2 cx3 cy0 cy1 cy2 cy3 c1 l0 l1
    generalize four x0 x1 x2 x3 = x at *
    generalize four y0 y1 y2 y3 = y at *
    generalize ((w1.alloc (.cells #[.int .i64 y0, .int .i64 y1, .int .i64 y2, .int .i64 y3] 30)).alloc (.cells #[.int .i64 x0, .int .i64 x1, .int .i64 x2, .int .i64 x3] 30)).drew = W at *
    generalize w1.heap.size + 1 = p at *
    generalize w1.heap.size = q at *
    have ne := ST.ne
    have hp := ST.hp
    have hq := ST.hq
    have n1 : w.heap.size ≠ p := by omega
    have n2 : w.heap.size ≠ q := by omega
    have n3 : w.heap.size + 1 ≠ p := by omega
    have n4 : w.heap.size + 1 ≠ q := by omega
    have n1' : ¬ p = w.heap.size := by omega
    have n2' : ¬ q = w.heap.size := by omega
    have n3' : ¬ p = w.heap.size + 1 := by omega
    have n4' : ¬ q = w.heap.size + 1 := by omega
    have HST := hid ST
    clear ST
    generalize hX : mkX sm k8 x = X at *
    generalize hY : mkY sm k8 y = Y at *
    go_wp2
    go_loopw [11] (fun i wr => ∃ k : Nat, k ≤ 4 ∧ i = .int .i64 k ∧ Four wr w.heap.size x ∧ Four wr (w.heap.size + 1) y ∧ Mix wr p k x X ∧ Mix wr q k y Y ∧ Below w.heap.size w wr) (fun i _ => 4 - (intOf i).toNat)
    case atStart => exact ⟨0, by omega, rfl, HST.out.f1, HST.out.f2, HST.out.m1, HST.out.m2, HST.out.bel⟩
    case round =>
      obtain ⟨k, hk, rfl, hA, hB, hP, hQ, hbel⟩ := hrel
      clear HST
      by_cases hlt : k < 4
      · have ca := hA k hlt
        have cb := hB k hlt
        obtain ⟨cp, fp⟩ := hP k hlt
        obtain ⟨cq, fq⟩ := hQ k hlt
        simp only [Nat.lt_irrefl, if_false] at cp cq
        have HA := hid hA
        have HB := hid hB
        have HP := hid hP
        have HQ := hid hQ
        clear hA hB hP hQ hx hy IX IY
        have hk4 : (k : Int) < 4 := by omega
        cases sm with
        | true =>
          have eX : Hid (X k = (x k).tmod 10001) := by show _ = _; rw [← hX]; rfl
          have eY : Hid (Y k = (y k).tmod 100001) := by show _ = _; rw [← hY]; rfl
          clear hX hY
          go_wp2
          go_region
          all_goals (
            go_wp2
            go_roundw
            case rel =>
              rw [← eX.out, ← eY.out]
              first
                | exact ⟨k + 1, by omega, by go_num, (HA.out.other n1).other n2, (HB.out.other n3).other n4, (HP.out.put (k := k)).other ne, (HQ.out.other (Ne.symm ne)).put (k := k), ((hbel.setCell (p := ⟨p, k, none⟩) (by show w.heap.size ≤ p; omega) _).setCell (p := ⟨q, k, none⟩) (by show w.heap.size ≤ q; omega) _).drew⟩
                | exact ⟨k + 1, by omega, by go_num, (HA.out.other n2).other n1, (HB.out.other n4).other n3, (HP.out.other ne).put (k := k), (HQ.out.put (k := k)).other (Ne.symm ne), ((hbel.setCell (p := ⟨q, k, none⟩) (by show w.heap.size ≤ q; omega) _).setCell (p := ⟨p, k, none⟩) (by show w.heap.size ≤ p; omega) _).drew⟩
            case measure => simp [intOf]; omega)
        | false =>
          have eX : Hid (X k = nearZ (x k) (k8 / 2 ^ k)) := by show _ = _; rw [← hX]; rfl
          have eY : Hid (Y k = nearZ (y k) (k8 / 2)) := by show _ = _; rw [← hY]; rfl
          clear hX hY
          have g1 : 0 ≤ k8 / 2 ^ k := Int.ediv_nonneg k0 (Int.le_of_lt (Int.pow_pos (by decide)))
          have g2 : 0 ≤ k8 / 2 := by omega
          have g3 : IntKind.u8.wrap (k8.tdiv 2) = k8 / 2 := by rw [Int.tdiv_eq_ediv_of_nonneg k0, IntKind.wrap_u8]; omega
          go_wp2
          go_region_held3 (fun w' => w'.cell? ⟨w.heap.size, k, none⟩ = some (.int .i64 (x k)) ∧ w'.cell? ⟨w.heap.size + 1, k, none⟩ = some (.int .i64 (y k)))
            ((first | exact ⟨ca, cb⟩ | (constructor <;> simp [World.cell?_setCell_far, n1', n2', n3', n4', ca, cb])))
            ((go_at_call 8; refine (near_at _ _ (by assumption) _).mono ?_; rintro e w' ⟨rfl, rfl⟩))
          all_goals (
            go_wp2
            go_roundw
            case rel =>
              rw [← eX.out, ← eY.out]
              first
                | exact ⟨k + 1, by omega, by go_num, (HA.out.other n1).other n2, (HB.out.other n3).other n4, (HP.out.put (k := k)).other ne, (HQ.out.other (Ne.symm ne)).put (k := k), ((hbel.setCell (p := ⟨p, k, none⟩) (by show w.heap.size ≤ p; omega) _).setCell (p := ⟨q, k, none⟩) (by show w.heap.size ≤ q; omega) _).drew⟩
                | exact ⟨k + 1, by omega, by go_num, (HA.out.other n2).other n1, (HB.out.other n4).other n3, (HP.out.other ne).put (k := k), (HQ.out.put (k := k)).other (Ne.symm ne), ((hbel.setCell (p := ⟨q, k, none⟩) (by show w.heap.size ≤ q; omega) _).setCell (p := ⟨p, k, none⟩) (by show w.heap.size ≤ p; omega) _).drew⟩
            case measure => simp [intOf]; omega)
      · have ek : k = 4 := by omega
        subst ek
        obtain ⟨x0', x1', x2', x3'⟩ := hP.full
        obtain ⟨y0', y1', y2', y3'⟩ := hQ.full
        have iX := four_i64 (IX 0 (by omega)) (IX 1 (by omega)) (IX 2 (by omega)) (IX 3 (by omega))
        have iY := four_i64 (IY 0 (by omega)) (IY 1 (by omega)) (IY 2 (by omega)) (IY 3 (by omega))
        clear hA hB hP hQ hx hy IX IY hX hY hk hlt n1 n2 n3 n4 n1' n2' n3' n4' hp hq ne
        generalize X 0 = A0 at *
        generalize X 1 = A1 at *
        generalize X 2 = A2 at *
        generalize X 3 = A3 at *
        generalize Y 0 = B0 at *
        generalize Y 1 = B1 at *
        generalize Y 2 = B2 at *
        generalize Y 3 = B3 at *
        have bel : Below wr.heap.size wr wr := Below.refl _ _
        have q30 := eq30 (plusZ (four A0 A1 A2 A3) (four B0 B1 B2 B3) 0) (plusZ (four A0 A1 A2 A3) (four B0 B1 B2 B3) 1) (plusZ (four A0 A1 A2 A3) (four B0 B1 B2 B3) 2) (plusZ (four A0 A1 A2 A3) (four B0 B1 B2 B3) 3)
        go_wp2_with (first
          | (go_at_call 11; refine (worth_any _ _ _ _ _ _ _ _ iX iY _).mono ?_; rintro e w3 ⟨rfl, c⟩; have bel : Below wr.heap.size wr w3 := (sq bel c); have u0 := cellK bel x0'; have u1 := cellK bel x1'; have u2 := cellK bel x2'; have u3 := cellK bel x3'; have v0 := cellK bel y0'; have v1 := cellK bel y1'; have v2 := cellK bel y2'; have v3 := cellK bel y3'; have lp : p < w3.heap.size := World.block_lt_of_cell? _ _ u0; have lq : q < w3.heap.size := World.block_lt_of_cell? _ _ v0)
          | (go_at_call 12; refine (worthR_any _ _ _ _ _ _ _ _ iX iY _).mono ?_; rintro e w3 ⟨rfl, c⟩; have bel : Below wr.heap.size wr w3 := (sq bel c); have u0 := cellK bel x0'; have u1 := cellK bel x1'; have u2 := cellK bel x2'; have u3 := cellK bel x3'; have v0 := cellK bel y0'; have v1 := cellK bel y1'; have v2 := cellK bel y2'; have v3 := cellK bel y3'; have lp : p < w3.heap.size := World.block_lt_of_cell? _ _ u0; have lq : q < w3.heap.size := World.block_lt_of_cell? _ _ v0)
          | (go_at_call 13; refine (plusN_any _ _ _ _ _ _ _ _ iX iY _).mono ?_; rintro e w3 ⟨rfl, c⟩; have bel : Below wr.heap.size wr w3 := (sq bel c); have u0 := cellK bel x0'; have u1 := cellK bel x1'; have u2 := cellK bel x2'; have u3 := cellK bel x3'; have v0 := cellK bel y0'; have v1 := cellK bel y1'; have v2 := cellK bel y2'; have v3 := cellK bel y3'; have lp : p < w3.heap.size := World.block_lt_of_cell? _ _ u0; have lq : q < w3.heap.size := World.block_lt_of_cell? _ _ v0)
          | (go_at_call 14; refine (plusNR_any _ _ _ _ _ _ _ _ iX iY _).mono ?_; rintro e w3 ⟨rfl, c⟩; have bel : Below wr.heap.size wr w3 := (sq ((sq bel (bel1 _ _))) c); obtain ⟨e0, e1, e2, e3⟩ := cells4 c; have u0 := cellK bel x0'; have u1 := cellK bel x1'; have u2 := cellK bel x2'; have u3 := cellK bel x3'; have v0 := cellK bel y0'; have v1 := cellK bel y1'; have v2 := cellK bel y2'; have v3 := cellK bel y3'; have lp : p < w3.heap.size := World.block_lt_of_cell? _ _ u0; have lq : q < w3.heap.size := World.block_lt_of_cell? _ _ v0)
          | (go_at_call 15; refine (count_any _ _ _ _ iX _).mono ?_; rintro e w3 ⟨rfl, c⟩; have bel : Below wr.heap.size wr w3 := (sq ((sq bel (bel1 _ _))) c); obtain ⟨d0, d1, d2, d3⟩ := cells4 c; have e0 := cellK ((sq (bel1 _ _) c)) e0; have e1 := cellK ((sq (bel1 _ _) c)) e1; have e2 := cellK ((sq (bel1 _ _) c)) e2; have e3 := cellK ((sq (bel1 _ _) c)) e3; have u0 := cellK bel x0'; have u1 := cellK bel x1'; have u2 := cellK bel x2'; have u3 := cellK bel x3'; have v0 := cellK bel y0'; have v1 := cellK bel y1'; have v2 := cellK bel y2'; have v3 := cellK bel y3'; have lp : p < w3.heap.size := World.block_lt_of_cell? _ _ u0; have lq : q < w3.heap.size := World.block_lt_of_cell? _ _ v0)
          | (go_at_call 16; refine (countR_any _ _ _ _ iX _).mono ?_; rintro e w3 ⟨rfl, c⟩; have bel : Below wr.heap.size wr w3 := (sq bel c); have d0 := cellK c d0; have d1 := cellK c d1; have d2 := cellK c d2; have d3 := cellK c d3; have e0 := cellK c e0; have e1 := cellK c e1; have e2 := cellK c e2; have e3 := cellK c e3))
        go_ret
        exact ⟨rfl, (sq hbel bel)⟩


theorem sumsNotes_own : ownKnob Try.prog.godebug = none := by kernel_rfl

theorem i64_of {x : Int} (h : (Lit.int .i64 x).wf = true) : I64 x := bounds_i64 h

set_option maxRecDepth 100000 in
theorem sumsNotes_lifted (os : Os) (started : os.Started) (H : Type) (enc : TypeId × Value → H) :
    ReturnsInHanded {} Try.checked os 4 .any (Rows.sumsNotesSpec.pre6 enc Try.prog Try.f4 Rows.sumsNotesRow.domain false) (Rows.sumsNotesSpec.post enc Try.prog Try.f4 false true false false) := by
  refine returnsInHanded_of_change (C := Try.checked) sumsNotes_own started (by kernel_rfl) Try.func4
    (ChangeSpec.witness6 (enc := enc) (C := Try.checked) false ⟨#[], #[.agg #[.int .i64 0, .int .i64 0, .int .i64 0, .int .i64 0], .agg #[.int .i64 0, .int .i64 0, .int .i64 0, .int .i64 0], .int .u8 0, .bool false], []⟩ 8 (by kernel_rfl) (by kernel_rfl) (by kernel_rfl) (by kernel_rfl)) ?_
  intro W base args ds gs before hval0 hW hcnd _
  have hval : ∀ (j : Nat) t v, Try.f4.params[j]? = some t → args[j]? = some v → Value.okWide Try.prog W .any base t v := hval0
  have hW' := hW
  obtain ⟨p, q, hA0, hV, rfl, hfz, hnd⟩ := hW
  have hA : DataW.TrodAll enc Try.prog W 0 (fun _ => true) true Try.f4.params.toList args.toList ds p := hA0
  rw [Try.params4] at hA hval
  obtain ⟨v0, vs0, d0, ds0, p0, q0, hargs, rfl, rfl, h0, r0⟩ := trodAll_cons hA
  obtain ⟨v1, vs1, d1, ds1, p1, q1, rfl, rfl, rfl, h1, r1⟩ := trodAll_cons r0
  obtain ⟨v2, vs2, d2, ds2, p2, q2, rfl, rfl, rfl, h2, r2⟩ := trodAll_cons r1
  obtain ⟨v3, vs3, d3, ds3, p3, q3, rfl, rfl, rfl, h3, r3⟩ := trodAll_cons r2
  obtain ⟨rfl, rfl, rfl⟩ := trodAll_nil r3
  obtain rfl : args = #[v0, v1, v2, v3] := by cases args; simp_all
  obtain ⟨rfl, rfl⟩ := trodVars_none hV
  obtain ⟨x0, x1, x2, x3, rfl, rfl, rfl, f0, f1, f2, f3⟩ := open_notes (hval 0 30 v0 rfl rfl) h0
  obtain ⟨y0, y1, y2, y3, rfl, rfl, rfl, g0, g1, g2, g3⟩ := open_notes (hval 1 30 v1 rfl rfl) h1
  obtain ⟨k8, rfl, rfl, rfl, w2⟩ := open_int Try.underlying5 (hval 2 5 v2 rfl rfl) h2
  obtain ⟨sm, rfl, rfl, rfl⟩ := open_bool Try.underlying4 (hval 3 4 v3 rfl rfl) h3
  clear hA0 hval0
  simp only [List.append_nil] at hW'
  have c2 := bounds_u8 w2
  refine (notes_walk x0 x1 x2 x3 y0 y1 y2 y3 k8 sm (four_i64 (i64_of f0) (i64_of f1) (i64_of f2) (i64_of f3)) (four_i64 (i64_of g0) (i64_of g1) (i64_of g2) (i64_of g3)) c2.1 c2.2 W).mono fun e W' ⟨he, bel⟩ => ?_
  subst he
  exact ⟨_, rfl, _, _, _, [], [], [], hW', trodAll_mk1 (shut_bool Try.underlying4 _), (trodAll_cons_mk (shut_notes f0 f1 f2 f3) (trodAll_cons_mk (shut_notes g0 g1 g2 g3) (trodAll_cons_mk (shut_int Try.underlying5 w2) (trodAll_cons_mk (shut_bool Try.underlying4 _) trodAll_mk0)))), rfl, bel.frame _, fun h => by cases h⟩

theorem sumsNotes_over : Rows.sumsNotesRow.holds Try.pinned (OpenSpec.ofChange Rows.sumsNotesSpec) :=
  OpenClaim.holds_of_wide 4 Try.f4 rfl rfl rfl rfl rfl rfl rfl ⟨rfl, rfl, rfl, rfl, rfl⟩ rfl rfl rfl rfl rfl (by kernel_rfl) Try.func4 (by kernel_rfl)
    (of_decide_eq_true (by kernel_rfl)) (by unfold Func.isWrapper; first | (rw [if_pos (by decide +kernel)]; kernel_rfl) | (rw [if_neg (by decide +kernel)]; exact ⟨rfl, rfl⟩))
    (fun os started H enc _ => sumsNotes_lifted os started H enc)

/-- The statement. -/
theorem sumsNotes_holds : Rows.SumsNotesSaid := sumsNotes_over
#print axioms sumsNotes_holds
end Go.Proofs.Ytjgnimekplaklaa
