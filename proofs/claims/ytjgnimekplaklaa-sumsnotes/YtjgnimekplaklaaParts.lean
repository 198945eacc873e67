/- For all notes a, b and d the function SumsParts answers true: notes that are added are worth what they are worth, and count what they count. -/
import Derived.Test.YtjgnimekplaklaaKnown
import Derived.BigRegion
import Derived.RegionTactic
import Derived.Laws.IdiomArrays
namespace Go.Proofs.Ytjgnimekplaklaa
open Go.ChangeShapes Go.WideShapes Go.ChangeAt Go.RowKit

/-- Block b: the first k places hold g's, the others f's; all may be written. -/
def Mix (w : World) (b k : Nat) (f g : Nat → Int) : Prop := ∀ j, j < 4 → w.cell? ⟨b, j, none⟩ = some (.int .i64 (if j < k then g j else f j)) ∧ w.frozen? ⟨b, j, none⟩ = false
theorem Mix.start (w : World) (a b c d : Int) (g : Nat → Int) (t : TypeId) : Mix (w.alloc (.cells #[.int .i64 a, .int .i64 b, .int .i64 c, .int .i64 d] t)) w.heap.size 0 (four a b c d) g := by
  intro j hj
  exact ⟨by rw [Four.alloc w a b c d t j hj]; simp, by simp⟩
theorem Mix.keep {w w' : World} {b k : Nat} {f g : Nat → Int} (h : Mix w b k f g) (hb : Below w.heap.size w w') : Mix w' b k f g := fun j hj => ⟨cellK hb (h j hj).1, frozK hb (h j hj).1 (h j hj).2⟩
theorem Mix.other {w : World} {b c k i : Nat} {v : Value} {f g : Nat → Int} (h : Mix w b k f g) (hne : b ≠ c) : Mix (w.setCell ⟨c, i, none⟩ v) b k f g := fun j hj =>
  ⟨by rw [World.cell?_setCell_far _ _ _ _ (fun e => hne e.symm)]; exact (h j hj).1, by simp [(h j hj).2]⟩
theorem Mix.put {w : World} {b k : Nat} {f g : Nat → Int} (h : Mix w b k f g) : Mix (w.setCell ⟨b, k, none⟩ (.int .i64 (g k))) b (k + 1) f g := by
  intro j hj
  obtain ⟨hc, hf⟩ := h j hj
  refine ⟨?_, by simp [hf]⟩
  by_cases e : j = k
  · subst e
    rw [World.cell?_setCell_same _ _ _ (by rw [hc])]
    simp
  · rw [World.cell?_setCell_other _ _ _ _ (by intro h; simp at h), hc]
    by_cases h1 : j < k
    · rw [if_pos h1, if_pos (by omega)]
    · rw [if_neg h1, if_neg (by omega)]

/-- x is between -m and m. -/
def Sm (m x : Int) : Prop := -m ≤ x ∧ x ≤ m
theorem Sm.i64 {m x : Int} (h : Sm m x) (hm : m ≤ 100000) : I64 x := by unfold Sm at h; unfold I64; omega
theorem Sm.mul {m n x y : Int} (h : Sm m x) (k : Sm n y) (h0 : 0 ≤ m) (h1 : 0 ≤ n) : Sm (m * n) (x * y) := by
  unfold Sm at *
  have a : x.natAbs ≤ m.toNat := by omega
  have b : y.natAbs ≤ n.toNat := by omega
  have c := Nat.mul_le_mul a b
  rw [← Int.natAbs_mul] at c
  have d : ((m.toNat * n.toNat : Nat) : Int) = m * n := by rw [Int.natCast_mul]; congr 1 <;> omega
  omega
theorem Sm.tmod' (x m n : Int) (e : m = n + 1) (hn : 0 ≤ n) : Sm n (x.tmod m) := by
  unfold Sm
  have h := Int.natAbs_tmod x m
  have : x.natAbs % m.natAbs < m.natAbs := Nat.mod_lt _ (by omega)
  omega
theorem tot4 (a b c d : Int) : tot (list4 (four a b c d)) = a + b + c + d := by
  show tot [a, b, c, d] = _
  rw [tot_cons, tot_cons, tot_cons, tot_cons, tot_nil]; omega

theorem plus_small (x0 x1 x2 x3 y0 y1 y2 y3 : Int) (a0 : Sm 20000 x0) (a1 : Sm 20000 x1) (a2 : Sm 20000 x2) (a3 : Sm 20000 x3) (b0 : Sm 20000 y0) (b1 : Sm 20000 y1) (b2 : Sm 20000 y2) (b3 : Sm 20000 y3) (w : World) :
    Calls Try.prog 13 #[.agg #[.int .i64 x0, .int .i64 x1, .int .i64 x2, .int .i64 x3], .agg #[.int .i64 y0, .int .i64 y1, .int .i64 y2, .int .i64 y3]] w fun e w' =>
      e = .returned (.tuple #[.agg #[.int .i64 (x0 + y0), .int .i64 (x1 + y1), .int .i64 (x2 + y2), .int .i64 (x3 + y3)], .bool true]) ∧ Below w.heap.size w w' := by
  refine (plusN_any x0 x1 x2 x3 y0 y1 y2 y3 (four_i64 (a0.i64 (by omega)) (a1.i64 (by omega)) (a2.i64 (by omega)) (a3.i64 (by omega))) (four_i64 (b0.i64 (by omega)) (b1.i64 (by omega)) (b2.i64 (by omega)) (b3.i64 (by omega))) w).mono fun e w' h => ⟨?_, h.2⟩
  have hf : ∀ j, j < 4 → fitB (four x0 x1 x2 x3 j + four y0 y1 y2 y3 j) = true := by
    intro j hj
    unfold Sm at *
    match j, hj with
    | 0, _ => exact fitB_yes (by show I64 (x0 + y0); unfold I64; omega)
    | 1, _ => exact fitB_yes (by show I64 (x1 + y1); unfold I64; omega)
    | 2, _ => exact fitB_yes (by show I64 (x2 + y2); unfold I64; omega)
    | 3, _ => exact fitB_yes (by show I64 (x3 + y3); unfold I64; omega)
  have hp := plus_yes hf
  rw [h.1, hp.1, hp.2, hp.2, hp.2, hp.2]
  rfl

theorem worth_small (x0 x1 x2 x3 y0 y1 y2 y3 : Int) (a0 : Sm 20000 x0) (a1 : Sm 20000 x1) (a2 : Sm 20000 x2) (a3 : Sm 20000 x3) (b0 : Sm 100000 y0) (b1 : Sm 100000 y1) (b2 : Sm 100000 y2) (b3 : Sm 100000 y3) (w : World) :
    Calls Try.prog 11 #[.agg #[.int .i64 x0, .int .i64 x1, .int .i64 x2, .int .i64 x3], .agg #[.int .i64 y0, .int .i64 y1, .int .i64 y2, .int .i64 y3]] w fun e w' =>
      e = .returned (.tuple #[.int .i64 (x0 * y0 + x1 * y1 + x2 * y2 + x3 * y3), .bool true]) ∧ Below w.heap.size w w' := by
  refine (worth_any x0 x1 x2 x3 y0 y1 y2 y3 (four_i64 (a0.i64 (by omega)) (a1.i64 (by omega)) (a2.i64 (by omega)) (a3.i64 (by omega))) (four_i64 (b0.i64 (by omega)) (b1.i64 (by omega)) (b2.i64 (by omega)) (b3.i64 (by omega))) w).mono fun e w' h => ⟨?_, h.2⟩
  have m0 := a0.mul b0 (by omega) (by omega)
  have m1 := a1.mul b1 (by omega) (by omega)
  have m2 := a2.mul b2 (by omega) (by omega)
  have m3 := a3.mul b3 (by omega) (by omega)
  have hf : ∀ j, j < 4 → fitB (four x0 x1 x2 x3 j * four y0 y1 y2 y3 j) = true := by
    intro j hj
    unfold Sm at *
    match j, hj with
    | 0, _ => exact fitB_yes (by show I64 (x0 * y0); unfold I64; omega)
    | 1, _ => exact fitB_yes (by show I64 (x1 * y1); unfold I64; omega)
    | 2, _ => exact fitB_yes (by show I64 (x2 * y2); unfold I64; omega)
    | 3, _ => exact fitB_yes (by show I64 (x3 * y3); unfold I64; omega)
  have hp := worth_yes hf
  have e : tot (list4 (prods (four x0 x1 x2 x3) (four y0 y1 y2 y3))) = x0 * y0 + x1 * y1 + x2 * y2 + x3 * y3 := tot4 (x0 * y0) (x1 * y1) (x2 * y2) (x3 * y3)
  have hI : I64 (x0 * y0 + x1 * y1 + x2 * y2 + x3 * y3) := by unfold Sm at *; unfold I64; omega
  rw [h.1, hp.1, hp.2, e, fitB_yes hI, fitZ_yes hI]

theorem count_small (x0 x1 x2 x3 : Int) (a0 : Sm 20000 x0) (a1 : Sm 20000 x1) (a2 : Sm 20000 x2) (a3 : Sm 20000 x3) (w : World) :
    Calls Try.prog 15 #[.agg #[.int .i64 x0, .int .i64 x1, .int .i64 x2, .int .i64 x3]] w fun e w' =>
      e = .returned (.tuple #[.int .i64 (x0 + x1 + x2 + x3), .bool true]) ∧ Below w.heap.size w w' := by
  refine (count_any x0 x1 x2 x3 (four_i64 (a0.i64 (by omega)) (a1.i64 (by omega)) (a2.i64 (by omega)) (a3.i64 (by omega))) w).mono fun e w' h => ⟨?_, h.2⟩
  have hI : I64 (x0 + x1 + x2 + x3) := by unfold Sm at *; unfold I64; omega
  rw [h.1, tot4, fitB_yes hI, fitZ_yes hI]

theorem Mix.full {w : World} {b : Nat} {f g : Nat → Int} (h : Mix w b 4 f g) : w.cell? ⟨b, 0, none⟩ = some (.int .i64 (g 0)) ∧ w.cell? ⟨b, 1, none⟩ = some (.int .i64 (g 1)) ∧ w.cell? ⟨b, 2, none⟩ = some (.int .i64 (g 2)) ∧ w.cell? ⟨b, 3, none⟩ = some (.int .i64 (g 3)) :=
  ⟨(h 0 (by omega)).1, (h 1 (by omega)).1, (h 2 (by omega)).1, (h 3 (by omega)).1⟩

set_option maxRecDepth 100000 in
set_option maxHeartbeats 4000000 in
theorem parts_walk (x0 x1 x2 x3 y0 y1 y2 y3 z0 z1 z2 z3 : Int) (w : World) :
    Calls Try.prog 6 #[.agg #[.int .i64 x0, .int .i64 x1, .int .i64 x2, .int .i64 x3], .agg #[.int .i64 y0, .int .i64 y1, .int .i64 y2, .int .i64 y3], .agg #[.int .i64 z0, .int .i64 z1, .int .i64 z2, .int .i64 z3]] w fun e w' => e = .returned (.bool true) ∧ Below w.heap.size w w' := by
  have s1 := Mix.start w x0 x1 x2 x3 (fun j => (four x0 x1 x2 x3 j).tmod 10001) 30
  have s2 := Mix.start (w.alloc (.cells #[.int .i64 x0, .int .i64 x1, .int .i64 x2, .int .i64 x3] 30)) y0 y1 y2 y3 (fun j => (four y0 y1 y2 y3 j).tmod 10001) 30
  have s3 := Mix.start ((w.alloc (.cells #[.int .i64 x0, .int .i64 x1, .int .i64 x2, .int .i64 x3] 30)).alloc (.cells #[.int .i64 y0, .int .i64 y1, .int .i64 y2, .int .i64 y3] 30)) z0 z1 z2 z3 (fun j => (four z0 z1 z2 z3 j).tmod 100001) 30
  generalize four x0 x1 x2 x3 = x at *
  generalize four y0 y1 y2 y3 = y at *
  generalize four z0 z1 z2 z3 = z at *
  have S1 := hid ((s1.keep (bel1 _ (.cells #[.int .i64 y0, .int .i64 y1, .int .i64 y2, .int .i64 y3] 30))).keep (bel1 _ (.cells #[.int .i64 z0, .int .i64 z1, .int .i64 z2, .int .i64 z3] 30)))
  have S2 := hid (s2.keep (bel1 _ (.cells #[.int .i64 z0, .int .i64 z1, .int .i64 z2, .int .i64 z3] 30)))
  have S3 := hid s3
  clear s1 s2 s3
  go_enter Try.func6, Try.ntmps6
  go_wp2_with (go_at_call 7; refine (known_any _).mono ?_; rintro e w1 ⟨rfl, c1⟩)
  go_loopw [7] (fun i wr => ∃ k : Nat, k ≤ 4 ∧ i = .int .i64 k ∧ Mix wr w.heap.size k x (fun j => (x j).tmod 10001) ∧ Mix wr (w.heap.size + 1) k y (fun j => (y j).tmod 10001) ∧ Mix wr (w.heap.size + 2) k z (fun j => (z j).tmod 100001) ∧ Below w.heap.size w wr) (fun i _ => 4 - (intOf i).toNat)
  case atStart =>
    refine ⟨0, by omega, rfl, S1.out.keep c1, ?_, ?_, (sq (bel3 _ _ _ _) c1)⟩
    · have := S2.out.keep c1; simp at this; exact this
    · have := S3.out.keep c1; simp at this; exact this
  case round =>
    obtain ⟨k, hk, rfl, hX, hY, hZ, hbel⟩ := hrel
    clear S1 S2 S3 c1
    by_cases hlt : k < 4
    · obtain ⟨cx, fx⟩ := hX k hlt
      obtain ⟨cy, fy⟩ := hY k hlt
      obtain ⟨cz, fz⟩ := hZ k hlt
      simp only [Nat.lt_irrefl, if_false] at cx cy cz
      have HX := hid hX
      have HY := hid hY
      have HZ := hid hZ
      clear hX hY hZ
      have hk4 : (k : Int) < 4 := by omega
      go_wp2
      go_region
      go_wp2
      go_roundw
      case rel =>
        exact ⟨k + 1, by omega, by go_num, ((HX.out.put (k := k)).other (by omega)).other (by omega), ((HY.out.other (by omega)).put (k := k)).other (by omega), ((HZ.out.other (by omega)).other (by omega)).put (k := k),
          (((hbel.setCell (p := ⟨w.heap.size, k, none⟩) (Nat.le_refl _) _).setCell (p := ⟨w.heap.size + 1, k, none⟩) (Nat.le_add_right _ _) _).setCell (p := ⟨w.heap.size + 2, k, none⟩) (Nat.le_add_right _ _) _).drew⟩
      case measure => simp [intOf]; omega
    · have ek : k = 4 := by omega
      subst ek
      obtain ⟨x0', x1', x2', x3'⟩ := hX.full
      obtain ⟨y0', y1', y2', y3'⟩ := hY.full
      obtain ⟨z0', z1', z2', z3'⟩ := hZ.full
      have sm1 : ∀ v : Int, Sm 10000 (v.tmod 10001) ∧ Sm 20000 (v.tmod 10001) := fun v => by
        have := Sm.tmod' v 10001 10000 rfl (by decide)
        exact ⟨this, by unfold Sm at *; omega⟩
      have sm2 : ∀ v : Int, Sm 100000 (v.tmod 100001) := fun v => Sm.tmod' v 100001 100000 rfl (by decide)
      obtain ⟨A0, hA0⟩ : ∃ v, (x 0).tmod 10001 = v := ⟨_, rfl⟩
      obtain ⟨A1, hA1⟩ : ∃ v, (x 1).tmod 10001 = v := ⟨_, rfl⟩
      obtain ⟨A2, hA2⟩ : ∃ v, (x 2).tmod 10001 = v := ⟨_, rfl⟩
      obtain ⟨A3, hA3⟩ : ∃ v, (x 3).tmod 10001 = v := ⟨_, rfl⟩
      obtain ⟨B0, hB0⟩ : ∃ v, (y 0).tmod 10001 = v := ⟨_, rfl⟩
      obtain ⟨B1, hB1⟩ : ∃ v, (y 1).tmod 10001 = v := ⟨_, rfl⟩
      obtain ⟨B2, hB2⟩ : ∃ v, (y 2).tmod 10001 = v := ⟨_, rfl⟩
      obtain ⟨B3, hB3⟩ : ∃ v, (y 3).tmod 10001 = v := ⟨_, rfl⟩
      obtain ⟨C0, hC0⟩ : ∃ v, (z 0).tmod 100001 = v := ⟨_, rfl⟩
      obtain ⟨C1, hC1⟩ : ∃ v, (z 1).tmod 100001 = v := ⟨_, rfl⟩
      obtain ⟨C2, hC2⟩ : ∃ v, (z 2).tmod 100001 = v := ⟨_, rfl⟩
      obtain ⟨C3, hC3⟩ : ∃ v, (z 3).tmod 100001 = v := ⟨_, rfl⟩
      have a0 := hA0 ▸ sm1 (x 0); have a1 := hA1 ▸ sm1 (x 1); have a2 := hA2 ▸ sm1 (x 2); have a3 := hA3 ▸ sm1 (x 3)
      have b0 := hB0 ▸ sm1 (y 0); have b1 := hB1 ▸ sm1 (y 1); have b2 := hB2 ▸ sm1 (y 2); have b3 := hB3 ▸ sm1 (y 3)
      have d0 := hC0 ▸ sm2 (z 0); have d1 := hC1 ▸ sm2 (z 1); have d2 := hC2 ▸ sm2 (z 2); have d3 := hC3 ▸ sm2 (z 3)
      simp only [hA0, hA1, hA2, hA3, hB0, hB1, hB2, hB3, hC0, hC1, hC2, hC3] at x0' x1' x2' x3' y0' y1' y2' y3' z0' z1' z2' z3'
      clear hA0 hA1 hA2 hA3 hB0 hB1 hB2 hB3 hC0 hC1 hC2 hC3 sm1 sm2 hX hY hZ hk hlt
      obtain ⟨p0, a0⟩ := a0; obtain ⟨p1, a1⟩ := a1; obtain ⟨p2, a2⟩ := a2; obtain ⟨p3, a3⟩ := a3
      obtain ⟨q0, b0⟩ := b0; obtain ⟨q1, b1⟩ := b1; obtain ⟨q2, b2⟩ := b2; obtain ⟨q3, b3⟩ := b3
      have ab0 : Sm 20000 (A0 + B0) := by unfold Sm at *; omega
      have ab1 : Sm 20000 (A1 + B1) := by unfold Sm at *; omega
      have ab2 : Sm 20000 (A2 + B2) := by unfold Sm at *; omega
      have ab3 : Sm 20000 (A3 + B3) := by unfold Sm at *; omega
      have m0 := ab0.mul d0 (by omega) (by omega)
      have m1 := ab1.mul d1 (by omega) (by omega)
      have m2 := ab2.mul d2 (by omega) (by omega)
      have m3 := ab3.mul d3 (by omega) (by omega)
      obtain ⟨S1, hS1⟩ : ∃ v, A0 * C0 + A1 * C1 + A2 * C2 + A3 * C3 = v := ⟨_, rfl⟩
      obtain ⟨S2, hS2⟩ : ∃ v, B0 * C0 + B1 * C1 + B2 * C2 + B3 * C3 = v := ⟨_, rfl⟩
      obtain ⟨S3, hS3⟩ : ∃ v, (A0 + B0) * C0 + (A1 + B1) * C1 + (A2 + B2) * C2 + (A3 + B3) * C3 = v := ⟨_, rfl⟩
      have hS : S1 + S2 = S3 := by rw [← hS1, ← hS2, ← hS3, Int.add_mul, Int.add_mul, Int.add_mul, Int.add_mul]; omega
      have wS : wrap64 S3 = S3 := by unfold Sm at m0 m1 m2 m3; unfold wrap64; omega
      have wS' : IntKind.i64.wrap S3 = S3 := by unfold Sm at m0 m1 m2 m3; rw [IntKind.wrap_i64]; omega
      obtain ⟨T1, hT1⟩ : ∃ v, A0 + A1 + A2 + A3 = v := ⟨_, rfl⟩
      obtain ⟨T2, hT2⟩ : ∃ v, B0 + B1 + B2 + B3 = v := ⟨_, rfl⟩
      obtain ⟨T3, hT3⟩ : ∃ v, (A0 + B0) + (A1 + B1) + (A2 + B2) + (A3 + B3) = v := ⟨_, rfl⟩
      have hT : T1 + T2 = T3 := by omega
      have wT : wrap64 T3 = T3 := by unfold Sm at *; unfold wrap64; omega
      have wT' : IntKind.i64.wrap T3 = T3 := by unfold Sm at *; rw [IntKind.wrap_i64]; omega
      clear m0 m1 m2 m3 p0 p1 p2 p3 q0 q1 q2 q3
      have bel : Below wr.heap.size wr wr := Below.refl _ _
      have l0 := World.block_lt_of_cell? wr _ x0'
      have l1 := World.block_lt_of_cell? wr _ y0'
      have l2 := World.block_lt_of_cell? wr _ z0'
      dsimp only at l0 l1 l2
      have k0 : Below wr.heap.size wr wr := Below.refl _ _
      go_wp2_with (first
        | (go_at_call 13; refine (plus_small _ _ _ _ _ _ _ _ a0 a1 a2 a3 b0 b1 b2 b3 _).mono ?_; rintro e w2 ⟨rfl, c⟩; have bel : Below wr.heap.size wr w2 := c; have l0 := Nat.lt_of_lt_of_le l0 bel.size; have l1 := Nat.lt_of_lt_of_le l1 bel.size; have l2 := Nat.lt_of_lt_of_le l2 bel.size; have u0 := cellK bel x0'; have u1 := cellK bel x1'; have u2 := cellK bel x2'; have u3 := cellK bel x3'; have v0 := cellK bel y0'; have v1 := cellK bel y1'; have v2 := cellK bel y2'; have v3 := cellK bel y3'; have t0 := cellK bel z0'; have t1 := cellK bel z1'; have t2 := cellK bel z2'; have t3 := cellK bel z3')
        | (go_at_call 11; refine (worth_small _ _ _ _ _ _ _ _ (by assumption) (by assumption) (by assumption) (by assumption) d0 d1 d2 d3 _).mono ?_; rintro e w3 ⟨rfl, c⟩; have bel : Below wr.heap.size wr w3 := (sq ((sq bel (bel1 _ _))) c); obtain ⟨e0, e1, e2, e3⟩ := cells4 c; have u0 := cellK bel x0'; have u1 := cellK bel x1'; have u2 := cellK bel x2'; have u3 := cellK bel x3'; have v0 := cellK bel y0'; have v1 := cellK bel y1'; have v2 := cellK bel y2'; have v3 := cellK bel y3'; have t0 := cellK bel z0'; have t1 := cellK bel z1'; have t2 := cellK bel z2'; have t3 := cellK bel z3')
        | (go_at_call 11; refine (worth_small _ _ _ _ _ _ _ _ (by assumption) (by assumption) (by assumption) (by assumption) d0 d1 d2 d3 _).mono ?_; rintro e w3 ⟨rfl, c⟩; have bel : Below wr.heap.size wr w3 := (sq bel c); have e0 := cellK c e0; have e1 := cellK c e1; have e2 := cellK c e2; have e3 := cellK c e3; have u0 := cellK bel x0'; have u1 := cellK bel x1'; have u2 := cellK bel x2'; have u3 := cellK bel x3'; have v0 := cellK bel y0'; have v1 := cellK bel y1'; have v2 := cellK bel y2'; have v3 := cellK bel y3'; have t0 := cellK bel z0'; have t1 := cellK bel z1'; have t2 := cellK bel z2'; have t3 := cellK bel z3')
        | (go_at_call 15; refine (count_small _ _ _ _ (by assumption) (by assumption) (by assumption) (by assumption) _).mono ?_; rintro e w3 ⟨rfl, c⟩; have bel : Below wr.heap.size wr w3 := (sq bel c); have e0 := cellK c e0; have e1 := cellK c e1; have e2 := cellK c e2; have e3 := cellK c e3; have u0 := cellK bel x0'; have u1 := cellK bel x1'; have u2 := cellK bel x2'; have u3 := cellK bel x3'; have v0 := cellK bel y0'; have v1 := cellK bel y1'; have v2 := cellK bel y2'; have v3 := cellK bel y3'; have t0 := cellK bel z0'; have t1 := cellK bel z1'; have t2 := cellK bel z2'; have t3 := cellK bel z3'))
      go_ret
      exact ⟨rfl, (sq hbel bel)⟩

theorem cells30 : Try.prog.cellsOf 30 = 4 := by kernel_rfl
theorem cells3 : Try.prog.cellsOf 3 = 1 := by kernel_rfl
theorem listOf4 {α : Type} (l : List α) (h : (⟨l⟩ : Array α).size = 4) : ∃ a b c d, l = [a, b, c, d] := by
  match l, h with
  | [a, b, c, d], _ => exact ⟨a, b, c, d, rfl⟩

/-- Notes that came in: four integers. -/
theorem open_notes {H : Type} {enc : TypeId × Value → H} {W : World} {base : Nat} {v : Value} {d : DataW H} {p : List MemPlace} (hok : Value.okWide Try.prog W .any base 30 v)
    (h : DataW.Trod enc Try.prog W 0 (fun _ => true) true 30 v d p) :
    ∃ x0 x1 x2 x3 : Int, v = .agg #[.int .i64 x0, .int .i64 x1, .int .i64 x2, .int .i64 x3] ∧ d = .agg [.lit (.int .i64 x0), .lit (.int .i64 x1), .lit (.int .i64 x2), .lit (.int .i64 x3)] ∧ p = [] ∧
      (Lit.int .i64 x0).wf = true ∧ (Lit.int .i64 x1).wf = true ∧ (Lit.int .i64 x2).wf = true ∧ (Lit.int .i64 x3).wf = true := by
  obtain ⟨cs, rfl, hsz, _⟩ : ∃ cs, v = .agg cs ∧ cs.size = Try.prog.cellsOf 30 ∧ Row.okWide Try.prog W .any base 30 cs := by
    simpa [Value.okWide, Try.underlying30] using hok
  rw [cells30] at hsz
  obtain ⟨l⟩ := cs
  obtain ⟨c0, c1, c2, c3, rfl⟩ := listOf4 l hsz
  obtain ⟨fuel, hf⟩ := h
  obtain ⟨y0, y1, y2, y3, m, hx, hy0, hy1, hy2, hy3⟩ := trod_array4 Try.underlying30 cells3 hf
  obtain ⟨x0, e0, rfl, w0⟩ := DataW.trod_int Try.underlying3 hy0
  obtain ⟨x1, e1, rfl, w1⟩ := DataW.trod_int Try.underlying3 hy1
  obtain ⟨x2, e2, rfl, w2⟩ := DataW.trod_int Try.underlying3 hy2
  obtain ⟨x3, e3, rfl, w3⟩ := DataW.trod_int Try.underlying3 hy3
  simp at e0 e1 e2 e3
  subst e0 e1 e2 e3
  simp only [Prod.mk.injEq] at hx
  obtain ⟨rfl, rfl⟩ := hx
  exact ⟨x0, x1, x2, x3, rfl, rfl, rfl, w0, w1, w2, w3⟩

theorem shut_notes {H : Type} {enc : TypeId × Value → H} {W : World} {base : Nat} {sp : Nat → Bool} {held : Bool} {x0 x1 x2 x3 : Int} (w0 : (Lit.int .i64 x0).wf = true) (w1 : (Lit.int .i64 x1).wf = true) (w2 : (Lit.int .i64 x2).wf = true) (w3 : (Lit.int .i64 x3).wf = true) :
    DataW.Trod enc Try.prog W base sp held 30 (.agg #[.int .i64 x0, .int .i64 x1, .int .i64 x2, .int .i64 x3]) (.agg [.lit (.int .i64 x0), .lit (.int .i64 x1), .lit (.int .i64 x2), .lit (.int .i64 x3)]) [] :=
  ⟨2, by simp [DataW.trod, Value.cells, Try.underlying30, Try.underlying3, cells30, cells3, w0, w1, w2, w3, show List.range 4 = [0, 1, 2, 3] from rfl]⟩

theorem sumsParts_own : ownKnob Try.prog.godebug = none := by kernel_rfl

set_option maxRecDepth 100000 in
theorem sumsParts_lifted (os : Os) (started : os.Started) (H : Type) (enc : TypeId × Value → H) :
    ReturnsInHanded {} Try.checked os 6 .any (Rows.sumsPartsSpec.pre6 enc Try.prog Try.f6 Rows.sumsPartsRow.domain false) (Rows.sumsPartsSpec.post enc Try.prog Try.f6 false true false false) := by
  refine returnsInHanded_of_change (C := Try.checked) sumsParts_own started (by kernel_rfl) Try.func6
    (ChangeSpec.witness6 (enc := enc) (C := Try.checked) false ⟨#[], #[.agg #[.int .i64 0, .int .i64 0, .int .i64 0, .int .i64 0], .agg #[.int .i64 0, .int .i64 0, .int .i64 0, .int .i64 0], .agg #[.int .i64 0, .int .i64 0, .int .i64 0, .int .i64 0]], []⟩ 8 (by kernel_rfl) (by kernel_rfl) (by kernel_rfl) (by kernel_rfl)) ?_
  intro W base args ds gs before hval0 hW hcnd _
  have hval : ∀ (j : Nat) t v, Try.f6.params[j]? = some t → args[j]? = some v → Value.okWide Try.prog W .any base t v := hval0
  have hW' := hW
  obtain ⟨p, q, hA0, hV, rfl, hfz, hnd⟩ := hW
  have hA : DataW.TrodAll enc Try.prog W 0 (fun _ => true) true Try.f6.params.toList args.toList ds p := hA0
  rw [Try.params6] at hA hval
  obtain ⟨v0, vs0, d0, ds0, p0, q0, hargs, rfl, rfl, h0, r0⟩ := trodAll_cons hA
  obtain ⟨v1, vs1, d1, ds1, p1, q1, rfl, rfl, rfl, h1, r1⟩ := trodAll_cons r0
  obtain ⟨v2, vs2, d2, ds2, p2, q2, rfl, rfl, rfl, h2, r2⟩ := trodAll_cons r1
  obtain ⟨rfl, rfl, rfl⟩ := trodAll_nil r2
  obtain rfl : args = #[v0, v1, v2] := by cases args; simp_all
  obtain ⟨rfl, rfl⟩ := trodVars_none hV
  obtain ⟨x0, x1, x2, x3, rfl, rfl, rfl, f0, f1, f2, f3⟩ := open_notes (hval 0 30 v0 rfl rfl) h0
  obtain ⟨y0, y1, y2, y3, rfl, rfl, rfl, g0, g1, g2, g3⟩ := open_notes (hval 1 30 v1 rfl rfl) h1
  obtain ⟨z0, z1, z2, z3, rfl, rfl, rfl, k0, k1, k2, k3⟩ := open_notes (hval 2 30 v2 rfl rfl) h2
  clear hA0 hval0
  simp only [List.append_nil] at hW'
  refine (parts_walk x0 x1 x2 x3 y0 y1 y2 y3 z0 z1 z2 z3 W).mono fun e W' ⟨he, bel⟩ => ?_
  subst he
  exact ⟨_, rfl, _, _, _, [], [], [], hW', trodAll_mk1 (shut_bool Try.underlying4 _), (trodAll_cons_mk (shut_notes f0 f1 f2 f3) (trodAll_cons_mk (shut_notes g0 g1 g2 g3) (trodAll_cons_mk (shut_notes k0 k1 k2 k3) trodAll_mk0))), rfl, bel.frame _, fun h => by cases h⟩

theorem sumsParts_over : Rows.sumsPartsRow.holds Try.pinned (OpenSpec.ofChange Rows.sumsPartsSpec) :=
  OpenClaim.holds_of_wide 6 Try.f6 rfl rfl rfl rfl rfl rfl rfl ⟨rfl, rfl, rfl, rfl, rfl⟩ rfl rfl rfl rfl rfl (by kernel_rfl) Try.func6 (by kernel_rfl)
    (of_decide_eq_true (by kernel_rfl)) (by unfold Func.isWrapper; first | (rw [if_pos (by decide +kernel)]; kernel_rfl) | (rw [if_neg (by decide +kernel)]; exact ⟨rfl, rfl⟩))
    (fun os started H enc _ => sumsParts_lifted os started H enc)

/-- The statement. -/
theorem sumsParts_holds : Rows.SumsPartsSaid := sumsParts_over
#print axioms sumsParts_holds
end Go.Proofs.Ytjgnimekplaklaa
