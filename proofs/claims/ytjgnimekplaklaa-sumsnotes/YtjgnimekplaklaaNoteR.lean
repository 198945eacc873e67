/- The document's sums of notes: rows that are appended to. -/
import Derived.Test.YtjgnimekplaklaaRef
import Derived.Test.YtjgnimekplaklaaPlus
import Derived.Deep.AppendLies
namespace Go.Proofs.Ytjgnimekplaklaa
open Go.ChangeShapes Go.WideShapes Go.ChangeAt Go.RowKit

/-- The slice v is the numbers l, in memory of the call's own, from block B on. -/
def Own (w : World) (B : Nat) (v : Value) (l : List Int) : Prop := w.ownsRow B 2 1 v l.length (l.map (Value.int .i64))
theorem Own.nil (w : World) (B : Nat) : Own w B (.slice none 0 0) [] := World.ownsRow_nil w B 2 1
theorem Own.drew {w : World} {B : Nat} {v : Value} {l : List Int} (h : Own w B v l) : Own w.drew B v l := h
theorem Own.alloc {w : World} {B : Nat} {v : Value} {l : List Int} (h : Own w B v l) (o : Obj) : Own (w.alloc o) B v l := World.ownsRow.alloc h o
theorem Own.row {w : World} {B : Nat} {v : Value} {l : List Int} (h : Own w B v l) : ∃ ao cap, v = .slice ao l.length cap ∧ RowAt w ao l ∧ l.length ≤ maxLen := by
  rcases h.2 with ⟨rfl, h0⟩ | ⟨g, cap, cur, rfl, hg, hb, h1, h2, h3, h4⟩
  · refine ⟨none, 0, by rw [h0], .inl (List.length_eq_zero_iff.1 h0), by rw [h0]; unfold maxLen; omega⟩
  · refine ⟨_, cap, rfl, .inr ⟨g, 0, rfl, fun i hi => ?_⟩, by omega⟩
    have hc := World.ownsRow.cellAt h i (by omega)
    rw [Nat.zero_add, hc]
    simp [hi]
theorem Own.lt {w : World} {B : Nat} {v : Value} {l : List Int} (h : Own w B v l) : ∀ k, v.ownBlock = some k → B ≤ k ∧ k < w.heap.size := World.ownsRow.lt h
/-- A row of the call's own is kept by what turns nothing below the heap's size. -/
theorem Own.keep {w w' : World} {B : Nat} {v : Value} {l : List Int} (h : Own w B v l) (hb : Below w.heap.size w w') : Own w' B v l := by
  refine ⟨h.1, ?_⟩
  rcases h.2 with h0 | ⟨g, cap, cur, hv, hg, hc, r⟩
  · exact .inl h0
  · exact .inr ⟨g, cap, cur, hv, hg, (hb.block g (Array.getElem?_eq_some_iff.1 hc).1).trans hc, r⟩

theorem info2 : (Try.prog.info? 2).map (fun i => (i.zero, i.size, i.bytes)) = some (some (.int .i64 0), 1, 8) := by kernel_rfl
theorem one_cell (z : Int) : ∀ u ∈ [Value.int .i64 z], u.oneCell' = true := by
  intro u hu; simp at hu; subst hu; rfl

/-- One number is appended: at a plain region's list. -/
theorem app1_list {ops : Array Oper} {rest : List Oper} {o : Oper} {a : Act} {w0 : World} {Q : Exit → Act → World → Prop} (hgd : o.guard = none) (s x : Operand)
    (ho : o.op = .call { callee := .builtin .append, args := #[s, x], argTypes := #[22, 22] })
    (B : Nat) (v : Value) (l : List Int) (z : Int) (hs : a.eval s = v) (hx : a.eval x = .slice (some ⟨w0.heap.size, 0, none⟩) 1 1)
    (hown : Own w0 B v l) (hBw : B ≤ w0.heap.size) (hsmall : l.length ≤ 1000)
    (h : ∀ v' w', Own w' B v' (l ++ [z]) → Below B w0 w' → wpList Try.prog ops Q rest (a.put o.dst v') w') :
    wpList Try.prog ops Q (o :: rest) a (w0.alloc (.cells #[.int .i64 z] 2)) := by
  obtain ⟨i0, hi, hz0, hz1, hz2⟩ := info_parts info2
  refine wpList_append_lies _ hgd s x 22 ho B 2 i0 (.int .i64 0) 1 8 Try.underlying22 hi hz0 hz1 hz2 rfl (by decide) v l.length (l.map (Value.int .i64)) hs (World.ownsRow.alloc hown _)
    ⟨w0.heap.size, 0, none⟩ 1 1 [.int .i64 z] hx rfl (fun j u hj => ?_) (one_cell z) (by decide) (by unfold maxLen; omega) (by omega) (by simp; omega) _ rfl ?_
  · match j, hj with
    | 0, hj => simp at hj; subst hj; simp [Addr.add, go_sem]
  · intro g cap w' hown' hgrow _ _
    have e : l.map (Value.int .i64) ++ [.int .i64 z] = (l ++ [z]).map (Value.int .i64) := by simp
    rw [e] at hown'
    refine h _ w' ?_ ((bel1 w0 _).mono hBw |>.grown hgrow (by simp; omega) (fun k hk => (hown.lt k hk).1))
    unfold Own
    rw [List.length_append]
    exact hown'

/-- One number is appended: at a step of a region that draws its order. -/
theorem app1_step {ops : Array Oper} {o : Oper} {a : Act} {w0 : World} {K : Act → World → Prop} {Q : Exit → Act → World → Prop} {E : Prop} (hgd : o.guard = none) (s x : Operand)
    (ho : o.op = .call { callee := .builtin .append, args := #[s, x], argTypes := #[22, 22] })
    (B : Nat) (v : Value) (l : List Int) (z : Int) (hs : a.eval s = v) (hx : a.eval x = .slice (some ⟨w0.heap.size, 0, none⟩) 1 1)
    (hown : Own w0 B v l) (hBw : B ≤ w0.heap.size) (hsmall : l.length ≤ 1000)
    (h : ∀ v' w', Own w' B v' (l ++ [z]) → Below B w0 w' → K (a.put o.dst v') w') :
    if Region.wanted o (yielded ops a.tmps) = true then Oper.wp Try.prog o a (w0.alloc (.cells #[.int .i64 z] 2)) K Q else E := by
  obtain ⟨i0, hi, hz0, hz1, hz2⟩ := info_parts info2
  refine step_append_lies _ hgd s x 22 ho B 2 i0 (.int .i64 0) 1 8 Try.underlying22 hi hz0 hz1 hz2 rfl (by decide) v l.length (l.map (Value.int .i64)) hs (World.ownsRow.alloc hown _)
    ⟨w0.heap.size, 0, none⟩ 1 1 [.int .i64 z] hx rfl (fun j u hj => ?_) (one_cell z) (by decide) (by unfold maxLen; omega) (by omega) (by simp; omega) _ rfl ?_
  · match j, hj with
    | 0, hj => simp at hj; subst hj; simp [Addr.add, go_sem]
  · intro g cap w' hown' hgrow _ _
    have e : l.map (Value.int .i64) ++ [.int .i64 z] = (l ++ [z]).map (Value.int .i64) := by simp
    rw [e] at hown'
    refine h _ w' ?_ ((bel1 w0 _).mono hBw |>.grown hgrow (by simp; omega) (fun k hk => (hown.lt k hk).1))
    unfold Own
    rw [List.length_append]
    exact hown'

theorem totalR_own (v : Value) (B : Nat) (zs : List Int) (w : World) (h : Own w B v zs) (hb : AllI zs) :
    Calls Try.prog 10 #[v] w fun e w' => e = .returned (.tuple #[.int .i64 (fitZ (tot zs)), .bool (fitB (tot zs))]) ∧ Below w.heap.size w w' := by
  obtain ⟨ao, cap, rfl, hr, hl⟩ := h.row
  exact totalR_any ao cap zs w hr hb hl
theorem total_own (v : Value) (B : Nat) (zs : List Int) (w : World) (h : Own w B v zs) (hb : AllI zs) :
    Calls Try.prog 9 #[v] w fun e w' => e = .returned (.tuple #[.int .i64 (fitZ (tot zs)), .bool (fitB (tot zs))]) ∧ Below w.heap.size w w' := by
  obtain ⟨ao, cap, rfl, hr, hl⟩ := h.row
  exact total_any ao cap zs w hr hb hl

/-- The first k of four. -/
def upTo (k : Nat) (f : Nat → Int) : List Int := (list4 f).take k
theorem upTo_next {k : Nat} (f : Nat → Int) (hk : k < 4) : upTo k f ++ [f k] = upTo (k + 1) f := by
  unfold upTo list4
  match k, hk with
  | 0, _ => rfl
  | 1, _ => rfl
  | 2, _ => rfl
  | 3, _ => rfl
theorem upTo_all (f : Nat → Int) : upTo 4 f = list4 f := rfl
theorem upTo_len {k : Nat} (f : Nat → Int) : (upTo k f).length ≤ 4 := by unfold upTo list4; simp; omega

theorem row_pair (w : World) (a b : Int) (t : TypeId) : RowAt (w.alloc (.cells #[.int .i64 a, .int .i64 b] t)) (some ⟨w.heap.size, 0, none⟩) [a, b] := by
  refine .inr ⟨_, _, rfl, fun i hi => ?_⟩
  have hi2 : i < 2 := hi
  rw [Nat.zero_add, World.cell?_alloc_at _ _ _ _ rfl]
  match i, hi2 with
  | 0, _ => rfl
  | 1, _ => rfl

theorem totalR_at (ao : Option Addr) (len cap : Nat) (zs : List Int) (w : World) (hlen : zs.length = len) (hr : RowAt w ao zs) (hb : AllI zs) (hl : len ≤ maxLen) :
    Calls Try.prog 10 #[.slice ao len cap] w fun e w' => e = .returned (.tuple #[.int .i64 (fitZ (tot zs)), .bool (fitB (tot zs))]) ∧ Below w.heap.size w w' := by
  subst hlen; exact totalR_any ao cap zs w hr hb hl

theorem tot2 (a b : Int) : tot [a, b] = a + b := by rw [tot_cons, tot_cons, tot_nil]; omega
theorem alli2 {a b : Int} (ha : I64 a) (hb : I64 b) : AllI [a, b] := by
  intro x hx; simp at hx; rcases hx with rfl | rfl <;> assumption

theorem addR2_any (a b : Int) (ha : I64 a) (hb : I64 b) (w : World) :
    Calls Try.prog 26 #[.int .i64 a, .int .i64 b] w fun e w' => e = .returned (.tuple #[.int .i64 (fitZ (a + b)), .bool (fitB (a + b))]) ∧ Below w.heap.size w w' := by
  have hr := row_pair w a b 2
  have hal := alli2 ha hb
  rw [← tot2]
  go_enter Try.func26, Try.ntmps26
  go_wp2_with (go_at_call 10; refine (totalR_at _ 2 _ _ _ rfl hr hal (by unfold maxLen; omega)).mono ?_; rintro e w2 ⟨rfl, b2⟩)
  go_ret2
  exact ⟨rfl, (sq (bel1 _ _) b2)⟩

set_option maxHeartbeats 1000000 in
theorem worthR_any (x0 x1 x2 x3 y0 y1 y2 y3 : Int) (hx : ∀ j, j < 4 → I64 (four x0 x1 x2 x3 j)) (hy : ∀ j, j < 4 → I64 (four y0 y1 y2 y3 j)) (w : World) :
    Calls Try.prog 12 #[.agg #[.int .i64 x0, .int .i64 x1, .int .i64 x2, .int .i64 x3], .agg #[.int .i64 y0, .int .i64 y1, .int .i64 y2, .int .i64 y3]] w fun e w' =>
      e = .returned (.tuple #[.int .i64 (worthZ (four x0 x1 x2 x3) (four y0 y1 y2 y3)), .bool (worthB (four x0 x1 x2 x3) (four y0 y1 y2 y3))]) ∧ Below w.heap.size w w' := by
  have s1 := Four.alloc w x0 x1 x2 x3 30
  have s2 := Four.alloc (w.alloc (.cells #[.int .i64 x0, .int .i64 x1, .int .i64 x2, .int .i64 x3] 30)) y0 y1 y2 y3 30
  generalize four x0 x1 x2 x3 = x at *
  generalize four y0 y1 y2 y3 = y at *
  have S1 := hid (s1.keep (bel1 _ (.cells #[.int .i64 y0, .int .i64 y1, .int .i64 y2, .int .i64 y3] 30)))
  have S2 := hid s2
  clear s1 s2
  go_enter Try.func12, Try.ntmps12
  go_wp2
  go_loopw [6, 7] (fun s i wr => ∃ k : Nat, k ≤ 4 ∧ i = .int .i64 k ∧ Four wr w.heap.size x ∧ Four wr (w.heap.size + 1) y ∧ Own wr (w.heap.size + 2) s (upTo k (prods x y)) ∧ (∀ j, j < k → fitB (x j * y j) = true) ∧ Below w.heap.size w wr ∧ w.heap.size + 2 ≤ wr.heap.size) (fun _ i _ => 4 - (intOf i).toNat)
  case atStart =>
    refine ⟨0, by omega, rfl, S1.out, ?_, Own.nil _ _, fun j h => by omega, bel_more (bel1 _ _) (Nat.le_refl _) _, by simp⟩
    have := S2.out
    simp at this; exact this
  case round =>
    obtain ⟨k, hk, rfl, h4x, h4y, hm, hf, hbel, hsz⟩ := hrel
    clear S1 S2
    by_cases hlt : k < 4
    · have cx := h4x k hlt
      have cy := h4y k hlt
      have ix := hx k hlt
      have iy := hy k hlt
      by_cases hfk : fitB (x k * y k) = true
      · have hz : fitZ (x k * y k) = prods x y k := by unfold fitZ; rw [if_pos hfk]; rfl
        have HF : Hid (∀ j, j < k + 1 → fitB (x j * y j) = true) := fun j hj => by
          by_cases e : j = k
          · rw [e]; exact hfk
          · exact hf j (by omega)
        have HX := hid h4x
        have HY := hid h4y
        have HM := hid hm
        clear hf hx hy h4x h4y hm
        go_wp2
        go_region_held3 (fun w' => w'.cell? ⟨w.heap.size, k, none⟩ = some (.int .i64 (x k)) ∧ w'.cell? ⟨w.heap.size + 1, k, none⟩ = some (.int .i64 (y k)))
          ((exact ⟨cx, cy⟩))
          ((go_at_call 25; refine (mulR_any _ _ ix iy _).mono ?_; rintro e w2 ⟨rfl, rfl⟩))
        go_wp2_with (at_builtin; refine app1_list (w0 := wr.drew) (by rfl) _ _ (by rfl) (w.heap.size + 2) u6 (upTo k (prods x y)) (prods x y k) (by rfl) (by rfl) HM.out.drew hsz (Nat.le_trans (upTo_len _) (by omega)) ?_; intro v3 w3 o3 c3)
        go_roundw
        case rel =>
          rw [upTo_next _ hlt] at o3
          refine ⟨k + 1, by omega, by go_num, fun j hj => ?_, fun j hj => ?_, o3, HF.out, hbel.drew.trans (c3.mono (by omega)), Nat.le_trans hsz c3.size⟩
          · exact (c3.cell (by show w.heap.size < w.heap.size + 2; omega)).trans (HX.out j hj)
          · exact (c3.cell (by show w.heap.size + 1 < w.heap.size + 2; omega)).trans (HY.out j hj)
        case measure => simp [intOf]; omega
      · have hfk' : fitB (x k * y k) = false := by simpa using hfk
        clear hfk
        have HR : Hid (worthB x y = false ∧ worthZ x y = 0) := worth_no hlt hfk'
        clear hf hx hy h4x h4y hm
        go_wp2
        go_region_held3 (fun w' => w'.cell? ⟨w.heap.size, k, none⟩ = some (.int .i64 (x k)) ∧ w'.cell? ⟨w.heap.size + 1, k, none⟩ = some (.int .i64 (y k)))
          ((exact ⟨cx, cy⟩))
          ((go_at_call 25; refine (mulR_any _ _ ix iy _).mono ?_; rintro e w2 ⟨rfl, rfl⟩))
        go_wp2
        go_ret2
        exact ⟨ret_int_bool HR.out.2.symm HR.out.1.symm, hbel.drew⟩
    · have ek : k = 4 := by omega
      subst ek
      have HR : Hid (worthB x y = fitB (tot (list4 (prods x y))) ∧ worthZ x y = fitZ (tot (list4 (prods x y)))) := worth_yes hf
      have hall : AllI (list4 (prods x y)) := alli_list4 fun j hj => (fitB_iff _).1 (hf j hj)
      rw [upTo_all] at hm
      clear hf hx hy h4x h4y
      go_wp2_with (go_at_call 10; refine (totalR_own _ _ _ _ hm hall).mono ?_; rintro e w2 ⟨rfl, b2⟩)
      go_ret2
      exact ⟨ret_int_bool HR.out.2.symm HR.out.1.symm, (sq hbel b2)⟩
set_option maxHeartbeats 1000000 in
theorem plusNR_any (x0 x1 x2 x3 y0 y1 y2 y3 : Int) (hx : ∀ j, j < 4 → I64 (four x0 x1 x2 x3 j)) (hy : ∀ j, j < 4 → I64 (four y0 y1 y2 y3 j)) (w : World) :
    Calls Try.prog 14 #[.agg #[.int .i64 x0, .int .i64 x1, .int .i64 x2, .int .i64 x3], .agg #[.int .i64 y0, .int .i64 y1, .int .i64 y2, .int .i64 y3]] w fun e w' =>
      e = .returned (.tuple #[.agg #[.int .i64 (plusZ (four x0 x1 x2 x3) (four y0 y1 y2 y3) 0), .int .i64 (plusZ (four x0 x1 x2 x3) (four y0 y1 y2 y3) 1), .int .i64 (plusZ (four x0 x1 x2 x3) (four y0 y1 y2 y3) 2), .int .i64 (plusZ (four x0 x1 x2 x3) (four y0 y1 y2 y3) 3)],
        .bool (plusB (four x0 x1 x2 x3) (four y0 y1 y2 y3))]) ∧ Below w.heap.size w w' := by
  have s1 := Four.alloc w x0 x1 x2 x3 30
  have s2 := Four.alloc (w.alloc (.cells #[.int .i64 x0, .int .i64 x1, .int .i64 x2, .int .i64 x3] 30)) y0 y1 y2 y3 30
  generalize four x0 x1 x2 x3 = x at *
  generalize four y0 y1 y2 y3 = y at *
  have S1 := hid (s1.keep (bel1 _ (.cells #[.int .i64 y0, .int .i64 y1, .int .i64 y2, .int .i64 y3] 30)))
  have S2 := hid s2
  clear s1 s2
  go_enter Try.func14, Try.ntmps14
  go_wp2
  go_loopw [7] (fun i wr => ∃ k : Nat, k ≤ 4 ∧ i = .int .i64 k ∧ Four wr w.heap.size x ∧ Four wr (w.heap.size + 1) y ∧ Made wr (w.heap.size + 2) 0 x ∧ Made wr (w.heap.size + 3) k (adds x y) ∧ (∀ j, j < k → fitB (x j + y j) = true) ∧ Below w.heap.size w wr) (fun i _ => 4 - (intOf i).toNat)
  case atStart =>
    refine ⟨0, by omega, rfl, (S1.out.keep (bel1 _ _)).keep (bel1 _ _), ?_, ?_, ?_, fun j h => by omega, bel_more (bel3 _ _ _ _) (Nat.le_refl _) _⟩
    · have := (S2.out.keep (bel1 _ (.cells #[.int .i64 0, .int .i64 0, .int .i64 0, .int .i64 0] 30))).keep (bel1 _ (.cells #[.int .i64 0, .int .i64 0, .int .i64 0, .int .i64 0] 30))
      simp at this; exact this
    · have := (Made.start ((w.alloc (.cells #[.int .i64 x0, .int .i64 x1, .int .i64 x2, .int .i64 x3] 30)).alloc (.cells #[.int .i64 y0, .int .i64 y1, .int .i64 y2, .int .i64 y3] 30)) x 0 0 0 0 30).keep (bel1 _ (.cells #[.int .i64 0, .int .i64 0, .int .i64 0, .int .i64 0] 30))
      simp at this; exact this
    · have := Made.start (((w.alloc (.cells #[.int .i64 x0, .int .i64 x1, .int .i64 x2, .int .i64 x3] 30)).alloc (.cells #[.int .i64 y0, .int .i64 y1, .int .i64 y2, .int .i64 y3] 30)).alloc (.cells #[.int .i64 0, .int .i64 0, .int .i64 0, .int .i64 0] 30)) (adds x y) 0 0 0 0 30
      simp at this; exact this
  case round =>
    obtain ⟨k, hk, rfl, h4x, h4y, hm, hn, hf, hbel⟩ := hrel
    clear S1 S2
    by_cases hlt : k < 4
    · have cx := h4x k hlt
      have cy := h4y k hlt
      have ix := hx k hlt
      have iy := hy k hlt
      by_cases hfk : fitB (x k + y k) = true
      · have hz : fitZ (x k + y k) = adds x y k := by unfold fitZ; rw [if_pos hfk]; rfl
        have HF : Hid (∀ j, j < k + 1 → fitB (x j + y j) = true) := fun j hj => by
          by_cases e : j = k
          · rw [e]; exact hfk
          · exact hf j (by omega)
        have HX := hid h4x
        have HY := hid h4y
        have HM := hid hm
        have HN := hid hn
        obtain ⟨⟨z, cz, _⟩, fz⟩ := hn k hlt
        clear hf hx hy h4x h4y hm hn
        go_wp2
        go_region_held3 (fun w' => w'.cell? ⟨w.heap.size, k, none⟩ = some (.int .i64 (x k)) ∧ w'.cell? ⟨w.heap.size + 1, k, none⟩ = some (.int .i64 (y k)))
          ((first | exact ⟨cx, cy⟩ | exact ⟨cellK b2 cx, cellK b2 cy⟩))
          ((go_at_call 26; refine (addR2_any _ _ ix iy _).mono ?_; rintro e w2 ⟨rfl, b2⟩))
        have cz2 := cellK b2 cz
        have fz2 := frozK b2 cz fz
        go_wp2
        go_roundw
        case rel =>
          exact ⟨k + 1, by omega, by go_num, (HX.out.keep (w := wr.drew) b2).other (by omega), (HY.out.keep (w := wr.drew) b2).other (by omega), (HM.out.keep (w := wr.drew) b2).other (by omega), (HN.out.keep (w := wr.drew) b2).put hlt, HF.out, ((sq hbel.drew b2)).setCell (by show w.heap.size ≤ w.heap.size + 3; omega) _⟩
        case measure => simp [intOf]; omega
      · have hfk' : fitB (x k + y k) = false := by simpa using hfk
        clear hfk
        have HR : Hid (plusB x y = false ∧ ∀ j, plusZ x y j = 0) := plus_no hlt hfk'
        have HM := hid hm
        clear hf hx hy h4x h4y hm hn
        go_wp2
        go_region_held3 (fun w' => w'.cell? ⟨w.heap.size, k, none⟩ = some (.int .i64 (x k)) ∧ w'.cell? ⟨w.heap.size + 1, k, none⟩ = some (.int .i64 (y k)))
          ((first | exact ⟨cx, cy⟩ | exact ⟨cellK b2 cx, cellK b2 cy⟩))
          ((go_at_call 26; refine (addR2_any _ _ ix iy _).mono ?_; rintro e w2 ⟨rfl, b2⟩))
        obtain ⟨⟨z0, z1, z2, z3, c0, c1, c2, c3⟩, f0, f1, f2, f3⟩ := (HM.out.keep (w := wr.drew) b2).free
        go_wp2
        simp [bodyPost, results, Try.results14, go_sem, c0, c1, c2, c3]
        exact ⟨⟨⟨(HR.out.2 0).symm, (HR.out.2 1).symm, (HR.out.2 2).symm, (HR.out.2 3).symm⟩, HR.out.1⟩, set4 ((sq hbel.drew b2)) (by omega) _ _ _ _⟩
    · have ek : k = 4 := by omega
      subst ek
      have HR : Hid (plusB x y = true ∧ ∀ j, plusZ x y j = x j + y j) := plus_yes hf
      obtain ⟨⟨z0, z1, z2, z3, c0, c1, c2, c3⟩, f0, f1, f2, f3⟩ := hm.free
      obtain ⟨d0, d1, d2, d3⟩ := hn.full
      clear hf hx hy h4x h4y hm hn
      go_wp2
      simp [bodyPost, results, Try.results14, go_sem, c0, c1, c2, c3]
      exact ⟨⟨⟨(HR.out.2 0).symm, (HR.out.2 1).symm, (HR.out.2 2).symm, (HR.out.2 3).symm⟩, HR.out.1⟩, set4 hbel (by omega) _ _ _ _⟩


set_option maxHeartbeats 1000000 in
theorem countR_any (x0 x1 x2 x3 : Int) (hx : ∀ j, j < 4 → I64 (four x0 x1 x2 x3 j)) (w : World) :
    Calls Try.prog 16 #[.agg #[.int .i64 x0, .int .i64 x1, .int .i64 x2, .int .i64 x3]] w fun e w' =>
      e = .returned (.tuple #[.int .i64 (fitZ (tot (list4 (four x0 x1 x2 x3)))), .bool (fitB (tot (list4 (four x0 x1 x2 x3))))]) ∧ Below w.heap.size w w' := by
  have s1 := Four.alloc w x0 x1 x2 x3 30
  generalize four x0 x1 x2 x3 = x at *
  have S1 := hid s1
  clear s1
  go_enter Try.func16, Try.ntmps16
  go_wp2
  go_loopw [4, 5] (fun s i wr => ∃ k : Nat, k ≤ 4 ∧ i = .int .i64 k ∧ Four wr w.heap.size x ∧ Own wr (w.heap.size + 1) s (upTo k x) ∧ Below w.heap.size w wr ∧ w.heap.size + 1 ≤ wr.heap.size) (fun _ i _ => 4 - (intOf i).toNat)
  case atStart => exact ⟨0, by omega, rfl, S1.out, Own.nil _ _, bel1 _ _, by simp⟩
  case round =>
    obtain ⟨k, hk, rfl, h4x, hm, hbel, hsz⟩ := hrel
    clear S1
    by_cases hlt : k < 4
    · have cx := h4x k hlt
      have HX := hid h4x
      have HM := hid hm
      clear hx h4x hm
      go_wp2_with (at_builtin; refine app1_list (w0 := wr) (by rfl) _ _ (by rfl) (w.heap.size + 1) u4 (upTo k x) (x k) (by rfl) (by rfl) HM.out hsz (Nat.le_trans (upTo_len _) (by omega)) ?_; intro v3 w3 o3 c3)
      go_roundw
      case rel =>
        rw [upTo_next _ hlt] at o3
        exact ⟨k + 1, by omega, by go_num, fun j hj => (c3.cell (by show w.heap.size < w.heap.size + 1; omega)).trans (HX.out j hj), o3, hbel.trans (c3.mono (by omega)), Nat.le_trans hsz c3.size⟩
      case measure => simp [intOf]; omega
    · have ek : k = 4 := by omega
      subst ek
      have hall : AllI (list4 x) := alli_list4 hx
      rw [upTo_all] at hm
      clear hx h4x
      go_wp2_with (go_at_call 10; refine (totalR_own _ _ _ _ hm hall).mono ?_; rintro e w2 ⟨rfl, b2⟩)
      go_ret2
      exact ⟨rfl, (sq hbel b2)⟩
end Go.Proofs.Ytjgnimekplaklaa
