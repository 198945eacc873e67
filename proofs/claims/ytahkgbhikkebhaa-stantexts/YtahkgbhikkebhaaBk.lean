/- The book of numbers: a pointer to a map; Last, keep, Next, Saw, New. -/
import Derived.Test.YtahkgbhikkebhaaMp
namespace Go.Proofs.Ytahkgbhikkebhaa
open Go.ChangeShapes Go.WideShapes Go.ChangeAt Go.RowKit Go.Maps

def nextL (x : Int) : Int := if 999999 ≤ x then 1 else x + 1
theorem origin20 (t : Int) (w : World) : Calls Try.prog 20 #[.int .u16 t] w fun e w' => e = .returned (.agg #[.int .u16 t, .int .u32 0]) ∧ Below w.heap.size w w' := by
  go_enter Try.func20, Try.ntmps20
  go_wp2
  simp [bodyPost, results, Try.results20, go_sem]
  exact bel1 _ _
theorem behind19 (x : Int) (w : World) (h0 : 0 ≤ x) (h1 : x < 4294967296) : Calls Try.prog 19 #[.int .u32 x] w fun e w' => e = .returned (.int .u32 (nextL x)) ∧ w = w' := by
  by_cases h : 999999 ≤ x
  · have e : nextL x = 1 := if_pos h
    rw [e]
    go_enter Try.func19, Try.ntmps19
    go_wp2
    go_ret
    exact ⟨rfl, rfl⟩
  · have e : nextL x = x + 1 := if_neg h
    have hw : IntKind.u32.wrap (x + 1) = x + 1 := by rw [IntKind.wrap_u32]; omega
    rw [e]
    go_enter Try.func19, Try.ntmps19
    go_wp2
    go_ret
    exact ⟨rfl, rfl⟩
/-- p leads to a book: its map, in block b, holds f. -/
structure BK (w : World) (p b n : Nat) (f : Int → Int) : Prop where
  head : w.heap[p]? = some (.cells #[.map (some b)] 48 (0, 0))
  map : MR 33 keyS w b n f
section
variable {w w' : World} {p b n : Nat} {f : Int → Int}
theorem BK.lt (h : BK w p b n f) : p < w.heap.size := (Array.getElem?_eq_some_iff.1 h.head).1
theorem BK.ne (h : BK w p b n f) : p ≠ b := by
  intro e; subst e; obtain ⟨es, c, hb⟩ := h.map.type; rw [h.head] at hb; cases hb
theorem BK.cell (h : BK w p b n f) : w.cell? ⟨p, 0, none⟩ = some (.map (some b)) := by rw [cell_of_head h.head]; rfl
theorem BK.below (h : BK w p b n f) (hb : Below w.heap.size w w') : BK w' p b n f := ⟨(hb.block p h.lt).trans h.head, h.map.below hb⟩
theorem BK.grown {row : Option Nat} (h : BK w p b n f) (hg : w.grownBy w' row) (hp : some p ≠ row) (hb : some b ≠ row) : BK w' p b n f := ⟨(hg.block p h.lt hp).trans h.head, h.map.kept hg hb⟩
theorem grown_of {row : Option Nat} (h : Below w.heap.size w w') : w.grownBy w' row := ⟨h.os, h.tape, h.output, h.size, fun i hi _ => h.block i hi⟩
theorem BK.mono (h : BK w p b n f) {m : Nat} (hm : n ≤ m) : BK w p b m f := ⟨h.head, h.map.mono hm⟩
theorem BK.drew (h : BK w p b n f) : BK w.drew p b n f := ⟨h.head, h.map⟩
end
set_option maxHeartbeats 1000000 in
theorem last10 {w : World} {p b n : Nat} {f : Int → Int} (h : BK w p b n f) (t : Int) (h0 : 0 ≤ t) (h1 : t < 65536) :
    Calls Try.prog 10 #[.pointer (some ⟨p, 0, none⟩), .int .u16 t] w fun e w' => e = .returned (.int .u32 (f t)) ∧ Below w.heap.size w w' := by
  have hc := h.cell
  have H := hid h.drew
  clear h
  go_enter Try.func10, Try.ntmps10
  go_wp2
  refine wp_region_noPanic ?_
  refine wp_region_held_drew (S := (fun w' : World => w'.cell? ⟨p, 0, none⟩ = some (.map (some b)))) (by kernel_rfl) hc (fun hHeld => ?_)
  (refine tk_yes (v := ?_) 0 (some 5) rfl rfl (by kernel_rfl) (by kernel_rfl) (by kernel_rfl) (fun _ _ _ h => h) (by rfl) ?_ hHeld ?_; rotate_left; focus (intro w hSw; go_simp; try with_reducible rfl))
  simp only [Act.put, List.setIfInBounds_toArray, List.set_cons_zero, List.set_cons_succ]
  (refine tk_yes (v := ?_) 1 (some 6) rfl rfl (by kernel_rfl) (by kernel_rfl) (by kernel_rfl) (fun _ _ _ h => h) (by rfl) ?_ hHeld ?_; rotate_left; focus (intro w hSw; go_simp; try with_reducible rfl))
  simp only [Act.put, List.setIfInBounds_toArray, List.set_cons_zero, List.set_cons_succ]
  (refine tk_yes (v := ?_) 2 (some 7) rfl rfl (by kernel_rfl) (by kernel_rfl) (by kernel_rfl) (fun _ _ _ h => h) (by rfl) ?_ hHeld ?_; rotate_left; focus (intro w hSw; go_simp; try with_reducible rfl))
  simp only [Act.put, List.setIfInBounds_toArray, List.set_cons_zero, List.set_cons_succ]
  (refine tk_yes (v := ?_) 3 (some 8) rfl rfl (by kernel_rfl) (by kernel_rfl) (by kernel_rfl) (fun _ _ _ h => h) (by rfl) ?_ hHeld ?_; rotate_left; focus (intro w hSw; go_simp; try with_reducible rfl))
  simp only [Act.put, List.setIfInBounds_toArray, List.set_cons_zero, List.set_cons_succ]
  (refine tk_yes (v := ?_) 4 (some 9) rfl rfl (by kernel_rfl) (by kernel_rfl) (by kernel_rfl) (fun _ _ _ h => h) (by rfl) ?_ hHeld ?_; rotate_left; focus (intro w hSw; go_simp; try with_reducible rfl))
  simp only [Act.put, List.setIfInBounds_toArray, List.set_cons_zero, List.set_cons_succ]
  refine wpAnyH_ready (rs := [5]) (by kernel_rfl) (by simp) ?_
  refine AllReadyH.cons rfl (fun K hK => ?_) AllReadyH.nil
  go_simp
  go_at_call 20
  refine (origin20 t w.drew).mono ?_
  rintro e w1 ⟨rfl, hb1⟩
  have HB := hid hb1
  have hc1 := (H.out.below hb1).cell
  clear hb1
  go_wp2_with fail
  refine hK.out _ _ hc1 (fun hHeld => ?_)
  clear hK K
  try simp only [Act.put, List.setIfInBounds_toArray, List.set_cons_zero, List.set_cons_succ]
  refine wpAnyH_ready (rs := [6]) (by kernel_rfl) (by simp) ?_
  refine AllReadyH.cons (o := { dst := some 11, op := _, type := _, pos := _, after := _, guard := none }) rfl (fun K hK => ?_) AllReadyH.nil
  refine lookS_step rfl _ _ rfl (H.out.map.below HB.out) t rfl rfl h0 h1 ?_
  refine hK.out _ _ hHeld (fun hHeld => ?_)
  clear hK K
  try simp only [Act.put, List.setIfInBounds_toArray, List.set_cons_zero, List.set_cons_succ]
  (refine tk_yes (v := ?_) 7 (some 4) rfl rfl (by kernel_rfl) (by kernel_rfl) (by kernel_rfl) (fun _ _ _ h => h) (by rfl) ?_ hHeld ?_; rotate_left; focus (intro w hSw; go_simp; try with_reducible rfl))
  simp only [Act.put, List.setIfInBounds_toArray, List.set_cons_zero, List.set_cons_succ]
  refine wpAnyH_done (by kernel_rfl) ?_ _
  refine NoPanic.normal ?_
  go_wp2
  go_ret
  exact ⟨rfl, (Below.refl _ _).drew.trans HB.out⟩
set_option maxHeartbeats 1000000 in
theorem keep18 {w : World} {p b n : Nat} {f : Int → Int} (h : BK w p b n f) (hn : n < 1000000) (t s : Int) (h0 : 0 ≤ t) (h1 : t < 65536) (s0 : 0 ≤ s) (s1 : s < 4294967296) :
    Calls Try.prog 18 #[.pointer (some ⟨p, 0, none⟩), .agg #[.int .u16 t, .int .u32 s]] w fun e w' => e = .returned (.tuple #[]) ∧ BK w' p b (n + 1) (upd f t s) ∧ w.grownBy w' (some b) := by
  have hc := h.cell
  have hlt := h.lt
  have hbl := h.map.lt
  have H := hid h
  have HN := hid h.ne
  clear h
  go_enter Try.func18, Try.ntmps18
  go_wp2
  have hq := heap_alloc_new w (.cells #[.int .u16 t, .int .u32 s] 33)
  have hz : (w.alloc (.cells #[.int .u16 t, .int .u32 s] 33)).heap.size = w.heap.size + 1 := by simp
  have hB := bel1 w (.cells #[.int .u16 t, .int .u32 s] 33)
  obtain ⟨q, eq⟩ : ∃ q, w.heap.size = q := ⟨_, rfl⟩
  have hlq : p < q := by omega
  have hbq : b < q := by omega
  rw [eq] at hq hz ⊢
  generalize w.alloc (.cells #[.int .u16 t, .int .u32 s] 33) = w1 at *
  have H1 := hid (H.out.below hB)
  have hc1 := H1.out.cell
  have d0 : w1.cell? ⟨q, 0, none⟩ = some (.int .u16 t) := by rw [cell_of_head hq]; rfl
  have d1 : w1.cell? ⟨q, 1, none⟩ = some (.int .u32 s) := by rw [cell_of_head hq]; rfl
  clear hc
  have HB := hid hB
  clear hB hq H
  refine wp_region_noPanic ?_
  refine wp_region_held_drew (S := (fun w' : World => w'.cell? ⟨p, 0, none⟩ = some (.map (some b)) ∧ w'.cell? ⟨q, 0, none⟩ = some (.int .u16 t) ∧ w'.cell? ⟨q, 1, none⟩ = some (.int .u32 s))) (by kernel_rfl) ⟨hc1, d0, d1⟩ (fun hHeld => ?_)
  (refine tk_yes (v := ?_) 0 (some 4) rfl rfl (by kernel_rfl) (by kernel_rfl) (by kernel_rfl) (fun _ _ _ h => h) (by rfl) ?_ hHeld ?_; rotate_left; focus (intro w hSw; go_simp; try with_reducible rfl))
  simp only [Act.put, List.setIfInBounds_toArray, List.set_cons_zero, List.set_cons_succ]
  (refine tk_yes (v := ?_) 1 (some 5) rfl rfl (by kernel_rfl) (by kernel_rfl) (by kernel_rfl) (fun _ _ _ h => h) (by rfl) ?_ hHeld ?_; rotate_left; focus (intro w hSw; go_simp; try with_reducible rfl))
  simp only [Act.put, List.setIfInBounds_toArray, List.set_cons_zero, List.set_cons_succ]
  (refine tk_yes (v := ?_) 2 (some 6) rfl rfl (by kernel_rfl) (by kernel_rfl) (by kernel_rfl) (fun _ _ _ h => h) (by rfl) ?_ hHeld ?_; rotate_left; focus (intro w hSw; go_simp; try with_reducible rfl))
  simp only [Act.put, List.setIfInBounds_toArray, List.set_cons_zero, List.set_cons_succ]
  (refine tk_yes (v := ?_) 3 (some 7) rfl rfl (by kernel_rfl) (by kernel_rfl) (by kernel_rfl) (fun _ _ _ h => h) (by rfl) ?_ hHeld ?_; rotate_left; focus (intro w hSw; go_simp; try with_reducible rfl))
  simp only [Act.put, List.setIfInBounds_toArray, List.set_cons_zero, List.set_cons_succ]
  (refine tk_yes (v := ?_) 4 (some 8) rfl rfl (by kernel_rfl) (by kernel_rfl) (by kernel_rfl) (fun _ _ _ h => h) (by rfl) ?_ hHeld ?_; rotate_left; focus (intro w hSw; go_simp; try with_reducible rfl))
  simp only [Act.put, List.setIfInBounds_toArray, List.set_cons_zero, List.set_cons_succ]
  (refine tk_yes (v := ?_) 5 (some 9) rfl rfl (by kernel_rfl) (by kernel_rfl) (by kernel_rfl) (fun _ _ _ h => h) (by rfl) ?_ hHeld ?_; rotate_left; focus (intro w hSw; go_simp; try with_reducible rfl))
  simp only [Act.put, List.setIfInBounds_toArray, List.set_cons_zero, List.set_cons_succ]
  (refine tk_yes (v := ?_) 7 (some 11) rfl rfl (by kernel_rfl) (by kernel_rfl) (by kernel_rfl) (fun _ _ _ h => h) (by rfl) ?_ hHeld ?_; rotate_left; focus (intro w hSw; go_simp; try with_reducible rfl))
  simp only [Act.put, List.setIfInBounds_toArray, List.set_cons_zero, List.set_cons_succ]
  (refine tk_yes (v := ?_) 8 (some 12) rfl rfl (by kernel_rfl) (by kernel_rfl) (by kernel_rfl) (fun _ _ _ h => h) (by rfl) ?_ hHeld ?_; rotate_left; focus (intro w hSw; go_simp; try with_reducible rfl))
  simp only [Act.put, List.setIfInBounds_toArray, List.set_cons_zero, List.set_cons_succ]
  refine wpAnyH_ready (rs := [6]) (by kernel_rfl) (by simp) ?_
  refine AllReadyH.cons rfl (fun K hK => ?_) AllReadyH.nil
  go_simp
  go_at_call 20
  refine (origin20 t w1.drew).mono ?_
  rintro e w2 ⟨rfl, hb2⟩
  have HB2 := hid hb2
  have H2 := hid (H1.out.drew.below hb2)
  have hc2 := H2.out.cell
  have e0 := (hb2.cell (p := ⟨q, 0, none⟩) (by simp [hz])).trans d0
  have e1 := (hb2.cell (p := ⟨q, 1, none⟩) (by simp [hz])).trans d1
  clear hb2 hc1 d0 d1
  go_wp2_with fail
  refine hK.out _ _ ⟨hc2, e0, e1⟩ (fun hHeld => ?_)
  clear hK K
  try simp only [Act.put, List.setIfInBounds_toArray, List.set_cons_zero, List.set_cons_succ]
  refine wpAnyH_ready (rs := [9]) (by kernel_rfl) (by simp) ?_
  refine AllReadyH.cons (o := { dst := none, op := _, type := _, pos := _, after := _, guard := none }) rfl (fun K hK => ?_) AllReadyH.nil
  refine storeS_step rfl _ _ _ rfl H2.out.map hn t s rfl rfl rfl h0 h1 s0 s1 ?_
  intro w3 m3 g3
  have hc3 := (g3.cell_far ⟨p, 0, none⟩ H2.out.lt (by simpa using HN.out)).trans hc2
  have hq2 : q < w2.heap.size := by have := HB2.out.size; have e : w1.drew.heap.size = w1.heap.size := rfl; omega
  have i0 := (g3.cell_far ⟨q, 0, none⟩ hq2 (by simp; omega)).trans e0
  have i1 := (g3.cell_far ⟨q, 1, none⟩ hq2 (by simp; omega)).trans e1
  refine hK.out _ _ ⟨hc3, i0, i1⟩ (fun hHeld => ?_)
  clear hK K
  try simp only [Act.put]
  refine wpAnyH_done (by kernel_rfl) ?_ _
  refine NoPanic.normal ?_
  have B3 : BK w3 p b (n + 1) (upd f t s) := ⟨(g3.block p H2.out.lt (by simpa using HN.out)).trans H2.out.head, m3⟩
  have G3 : w.grownBy w3 (some b) := ((grown_of HB.out).trans (grown_of ((Below.refl _ _).drew.trans HB2.out))).trans g3
  go_end0
  exact ⟨rfl, B3, G3⟩
theorem grown_set (w : World) (a : Addr) (v : Value) : w.grownBy (w.setCell a v) (some a.block) := ⟨rfl, rfl, rfl, by simp, fun i _ hne => Below.heap_setCell w a v i (by simpa using hne)⟩
theorem set_new {w w' : World} {row : Option Nat} (h : w.grownBy w' row) (a : Addr) (v : Value) (ha : w.heap.size ≤ a.block) : w.grownBy (w'.setCell a v) row :=
  ⟨h.os, h.tape, h.output, by simpa using h.size, fun i hi hne => (Below.heap_setCell w' a v i (by omega)).trans (h.block i hi hne)⟩
theorem BK.set {w : World} {p b n : Nat} {f : Int → Int} (h : BK w p b n f) (a : Addr) (v : Value) (hp : p ≠ a.block) (hb : b ≠ a.block) : BK (w.setCell a v) p b n f := h.grown (grown_set w a v) (by simpa using hp) (by simpa using hb)
theorem next_cells {w w1 w3 : World} {b : Nat} {o0 o1 : Obj} (hb : b < w.heap.size) (h1 : Below (w.alloc o0).heap.size (w.alloc o0) w1) (h3 : (w1.alloc o1).grownBy w3 (some b)) :
    w3.heap[w.heap.size]? = some o0 ∧ w3.heap[w1.heap.size]? = some o1 ∧ w.heap.size < w1.heap.size ∧ w.grownBy w3 (some b) := by
  have s1 := h1.size
  have e0 := World.size_alloc w o0
  have e1 := World.size_alloc w1 o1
  have a0 : w1.heap[w.heap.size]? = some o0 := (h1.block _ (by omega)).trans (heap_alloc_new w o0)
  have a1 := Below.heap_alloc w1 o1 w.heap.size (by omega)
  refine ⟨(h3.block _ (by omega) (by simp; omega)).trans (a1.trans a0), (h3.block _ (by omega) (by simp; omega)).trans (heap_alloc_new w1 o1), by omega, ?_⟩
  exact ((grown_of (bel1 w o0)).trans (grown_of h1)).trans ((grown_of (bel1 w1 o1)).trans h3)
theorem next_lim {x : Int} (h0 : 0 ≤ x) (h1 : x ≤ 999999) : 0 ≤ nextL x ∧ nextL x ≤ 999999 := by unfold nextL; split <;> omega
set_option maxHeartbeats 1000000 in
theorem next9 {w : World} {p b n : Nat} {f : Int → Int} (h : BK w p b n f) (hn : n < 1000000) (t : Int) (h0 : 0 ≤ t) (h1 : t < 65536) (f0 : 0 ≤ f t) (f1 : f t ≤ 999999) :
    Calls Try.prog 9 #[.pointer (some ⟨p, 0, none⟩), .int .u16 t] w fun e w' => e = .returned (.agg #[.int .u16 t, .int .u32 (nextL (f t))]) ∧ BK w' p b (n + 1) (upd f t (nextL (f t))) ∧ w.grownBy w' (some b) := by
  obtain ⟨x, hx⟩ : ∃ x, f t = x := ⟨_, rfl⟩
  obtain ⟨y, hy⟩ : ∃ y, nextL x = y := ⟨_, rfl⟩
  obtain ⟨y0, y1⟩ : 0 ≤ y ∧ y ≤ 999999 := hy ▸ next_lim (hx ▸ f0) (hx ▸ f1)
  rw [hx] at f0 f1 ⊢
  rw [hy]
  have Y0 := hid y0
  have Y1 := hid y1
  have F0 := hid f0
  have F1 := hid f1
  have HX := hid hx
  have HY := hid hy
  clear hx hy f0 f1 y0 y1
  have H := hid h
  have HBL := hid h.map.lt
  clear h
  go_enter Try.func9, Try.ntmps9
  have hB0 := bel1 w (.cells #[.int .u16 0, .int .u32 0] 33)
  have H0 := hid (H.out.below hB0)
  go_wp2_with (first
    | (go_at_call 18; have kill := H2.out; refine (keep18 H2.out hn t y h0 h1 Y0.out (by have := Y1.out; omega)).mono ?_; rintro e w3 ⟨rfl, b3, g3⟩; have H3 := hid b3; obtain ⟨q0, q1, ql, g4⟩ := next_cells HBL.out B1.out g3; have G3 := hid g4; have c0 := cell_of_head q1 0; have c1 := cell_of_head q1 1; have d0 := cell_of_head q0 0; have d1 := cell_of_head q0 1; have z0 := froz_of_head q0 0; have z1 := froz_of_head q0 1; simp at c0 c1 d0 d1; clear b3 g3 g4 q0 q1 kill H2 B1)
    | (go_at_call 19; have kill := H1.out; refine (behind19 x _ F0.out (by have := F1.out; omega)).mono ?_; rintro e w2 ⟨rfl, ew⟩; subst ew; rw [HY.out]; have H2 := hid (H1.out.below (bel1 w1 (.cells #[.int .u16 t, .int .u32 y] 33))); clear kill H1)
    | (go_at_call 10; have kill := H0.out; refine (last10 H0.out t h0 h1).mono ?_; rintro e w1 ⟨rfl, b1⟩; rw [HX.out]; have H1 := hid (H0.out.below b1); have B1 := hid b1; clear b1 kill H0))
  simp [bodyPost, results, Try.results9, go_sem, d0, d1]
  have P := hid H.out.lt
  exact ⟨(H3.out.set _ _ (by have := P.out; simp; omega) (by have := HBL.out; simp; omega)).set _ _ (by have := P.out; simp; omega) (by have := HBL.out; simp; omega), set_new (set_new G3.out _ _ (Nat.le_refl _)) _ _ (Nat.le_refl _)⟩
def sawL (f : Int → Int) (t s : Int) : Int → Int := if f t < s ∧ s ≤ 999999 then upd f t s else f
set_option maxHeartbeats 1000000 in
theorem saw8 {w : World} {p b n : Nat} {f : Int → Int} (h : BK w p b n f) (hn : n < 1000000) (t s : Int) (h0 : 0 ≤ t) (h1 : t < 65536) (s0 : 0 ≤ s) (s1 : s < 4294967296) :
    Calls Try.prog 8 #[.pointer (some ⟨p, 0, none⟩), .agg #[.int .u16 t, .int .u32 s]] w fun e w' => e = .returned (.tuple #[]) ∧ BK w' p b (n + 1) (sawL f t s) ∧ w.grownBy w' (some b) := by
  obtain ⟨x, hx⟩ : ∃ x, f t = x := ⟨_, rfl⟩
  have HX := hid hx
  have HBL := hid h.map.lt
  have H := hid h
  have hB := bel1 w (.cells #[.int .u16 t, .int .u32 s] 33)
  have hq := heap_alloc_new w (.cells #[.int .u16 t, .int .u32 s] 33)
  have hz : (w.alloc (.cells #[.int .u16 t, .int .u32 s] 33)).heap.size = w.heap.size + 1 := by simp
  obtain ⟨q, eq⟩ : ∃ q, w.heap.size = q := ⟨_, rfl⟩
  have H1 := hid (h.below hB)
  have HS : Hid (sawL f t s = if x < s ∧ s ≤ 999999 then upd f t s else f) := by unfold Hid sawL; rw [hx]
  clear h hx
  by_cases g1 : x < s
  · by_cases g2 : s ≤ 999999
    · have es : sawL f t s = upd f t s := HS.out.trans (if_pos ⟨g1, g2⟩)
      rw [es]
      clear HS es
      go_enter Try.func8, Try.ntmps8
      go_wp2
      generalize w.alloc (.cells #[.int .u16 t, .int .u32 s] 33) = w1 at *
      rw [eq] at hq hz
      have d0 : w1.cell? ⟨q, 0, none⟩ = some (.int .u16 t) := by rw [cell_of_head hq]; rfl
      have d1 : w1.cell? ⟨q, 1, none⟩ = some (.int .u32 s) := by rw [cell_of_head hq]; rfl
      have HB := hid hB
      clear hB hq
      refine wp_region_noPanic ?_
      refine wp_region_held_drew (S := (fun w' : World => w'.cell? ⟨q, 0, none⟩ = some (.int .u16 t) ∧ w'.cell? ⟨q, 1, none⟩ = some (.int .u32 s))) (by kernel_rfl) ⟨d0, d1⟩ (fun hHeld => ?_)
      (refine tk_yes (v := ?_) 0 (some 4) rfl rfl (by kernel_rfl) (by kernel_rfl) (by kernel_rfl) (fun _ _ _ h => h) (by rfl) ?_ hHeld ?_; rotate_left; focus (intro w hSw; go_simp; try with_reducible rfl))
      simp only [Act.put, List.setIfInBounds_toArray, List.set_cons_zero, List.set_cons_succ]
      (refine tk_yes (v := ?_) 1 (some 5) rfl rfl (by kernel_rfl) (by kernel_rfl) (by kernel_rfl) (fun _ _ _ h => h) (by rfl) ?_ hHeld ?_; rotate_left; focus (intro w hSw; go_simp; try with_reducible rfl))
      simp only [Act.put, List.setIfInBounds_toArray, List.set_cons_zero, List.set_cons_succ]
      (refine tk_yes (v := ?_) 2 (some 6) rfl rfl (by kernel_rfl) (by kernel_rfl) (by kernel_rfl) (fun _ _ _ h => h) (by rfl) ?_ hHeld ?_; rotate_left; focus (intro w hSw; go_simp; try with_reducible rfl))
      simp only [Act.put, List.setIfInBounds_toArray, List.set_cons_zero, List.set_cons_succ]
      (refine tk_yes (v := ?_) 3 (some 7) rfl rfl (by kernel_rfl) (by kernel_rfl) (by kernel_rfl) (fun _ _ _ h => h) (by rfl) ?_ hHeld ?_; rotate_left; focus (intro w hSw; go_simp; try with_reducible rfl))
      simp only [Act.put, List.setIfInBounds_toArray, List.set_cons_zero, List.set_cons_succ]
      (refine tk_yes (v := ?_) 4 (some 8) rfl rfl (by kernel_rfl) (by kernel_rfl) (by kernel_rfl) (fun _ _ _ h => h) (by rfl) ?_ hHeld ?_; rotate_left; focus (intro w hSw; go_simp; try with_reducible rfl))
      simp only [Act.put, List.setIfInBounds_toArray, List.set_cons_zero, List.set_cons_succ]
      refine wpAnyH_ready (rs := [5]) (by kernel_rfl) (by simp) ?_
      refine AllReadyH.cons rfl (fun K hK => ?_) AllReadyH.nil
      go_simp
      go_at_call 10
      refine (last10 H1.out.drew t h0 h1).mono ?_
      rintro e w2 ⟨rfl, hb2⟩
      rw [HX.out]
      have HB2 := hid hb2
      have H2 := hid (H1.out.drew.below hb2)
      have e0 := (hb2.cell (p := ⟨q, 0, none⟩) (by simp [hz])).trans d0
      have e1 := (hb2.cell (p := ⟨q, 1, none⟩) (by simp [hz])).trans d1
      clear hb2 d0 d1
      go_wp2_with fail
      refine hK.out _ _ ⟨e0, e1⟩ (fun hHeld => ?_)
      clear hK K
      try simp only [Act.put, List.setIfInBounds_toArray, List.set_cons_zero, List.set_cons_succ]
      (refine tk_yes (v := .bool true) 6 (some 10) rfl rfl (by kernel_rfl) (by kernel_rfl) (by kernel_rfl) (fun _ _ _ h => h) (by rfl) ?_ hHeld ?_; focus (intro w hSw; go_simp; try omega))
      simp only [Act.put, List.setIfInBounds_toArray, List.set_cons_zero, List.set_cons_succ]
      (refine tk_yes (v := ?_) 7 (some 11) rfl rfl (by kernel_rfl) (by kernel_rfl) (by kernel_rfl) (fun _ _ _ h => h) (by rfl) ?_ hHeld ?_; rotate_left; focus (intro w hSw; go_simp; try with_reducible rfl))
      simp only [Act.put, List.setIfInBounds_toArray, List.set_cons_zero, List.set_cons_succ]
      (refine tk_yes (v := ?_) 8 (some 12) rfl rfl (by kernel_rfl) (by kernel_rfl) (by kernel_rfl) (fun _ _ _ h => h) (by rfl) ?_ hHeld ?_; rotate_left; focus (intro w hSw; go_simp; try with_reducible rfl))
      simp only [Act.put, List.setIfInBounds_toArray, List.set_cons_zero, List.set_cons_succ]
      (refine tk_yes (v := ?_) 9 (some 13) rfl rfl (by kernel_rfl) (by kernel_rfl) (by kernel_rfl) (fun _ _ _ h => h) (by rfl) ?_ hHeld ?_; rotate_left; focus (intro w hSw; go_simp; try with_reducible rfl))
      simp only [Act.put, List.setIfInBounds_toArray, List.set_cons_zero, List.set_cons_succ]
      (refine tk_yes (v := .bool true) 10 (some 14) rfl rfl (by kernel_rfl) (by kernel_rfl) (by kernel_rfl) (fun _ _ _ h => h) (by rfl) ?_ hHeld ?_; focus (intro w hSw; go_simp; try omega))
      simp only [Act.put, List.setIfInBounds_toArray, List.set_cons_zero, List.set_cons_succ]
      (refine tk_yes (v := ?_) 11 (some 15) rfl rfl (by kernel_rfl) (by kernel_rfl) (by kernel_rfl) (fun _ _ _ h => h) (by rfl) ?_ hHeld ?_; rotate_left; focus (intro w hSw; go_simp; try with_reducible rfl))
      simp only [Act.put, List.setIfInBounds_toArray, List.set_cons_zero, List.set_cons_succ]
      refine wpAnyH_done (by kernel_rfl) ?_ _
      refine NoPanic.normal ?_
      have HQ2 := hid (show q < w2.heap.size by have := HB2.out.size; have e : w1.drew.heap.size = w1.heap.size := rfl; omega)
      have HQ := hid eq
      clear eq
      go_wp2_with (go_at_call 18; have kill := H2.out; refine (keep18 H2.out hn t s h0 h1 s0 s1).mono ?_; rintro e w3 ⟨rfl, b3, g3⟩; have H3 := hid b3; have G3 := hid (((grown_of (row := some b) HB.out).trans (grown_of ((Below.refl _ _).drew.trans HB2.out))).trans g3); clear b3 g3 kill H2)
      go_end0
      exact ⟨rfl, H3.out, G3.out⟩
    · have es : sawL f t s = f := HS.out.trans (if_neg (fun h => g2 h.2))
      rw [es]
      clear HS es
      go_enter Try.func8, Try.ntmps8
      go_wp2
      generalize w.alloc (.cells #[.int .u16 t, .int .u32 s] 33) = w1 at *
      rw [eq] at hq hz
      have d0 : w1.cell? ⟨q, 0, none⟩ = some (.int .u16 t) := by rw [cell_of_head hq]; rfl
      have d1 : w1.cell? ⟨q, 1, none⟩ = some (.int .u32 s) := by rw [cell_of_head hq]; rfl
      have HB := hid hB
      clear hB hq
      refine wp_region_noPanic ?_
      refine wp_region_held_drew (S := (fun w' : World => w'.cell? ⟨q, 0, none⟩ = some (.int .u16 t) ∧ w'.cell? ⟨q, 1, none⟩ = some (.int .u32 s))) (by kernel_rfl) ⟨d0, d1⟩ (fun hHeld => ?_)
      (refine tk_yes (v := ?_) 0 (some 4) rfl rfl (by kernel_rfl) (by kernel_rfl) (by kernel_rfl) (fun _ _ _ h => h) (by rfl) ?_ hHeld ?_; rotate_left; focus (intro w hSw; go_simp; try with_reducible rfl))
      simp only [Act.put, List.setIfInBounds_toArray, List.set_cons_zero, List.set_cons_succ]
      (refine tk_yes (v := ?_) 1 (some 5) rfl rfl (by kernel_rfl) (by kernel_rfl) (by kernel_rfl) (fun _ _ _ h => h) (by rfl) ?_ hHeld ?_; rotate_left; focus (intro w hSw; go_simp; try with_reducible rfl))
      simp only [Act.put, List.setIfInBounds_toArray, List.set_cons_zero, List.set_cons_succ]
      (refine tk_yes (v := ?_) 2 (some 6) rfl rfl (by kernel_rfl) (by kernel_rfl) (by kernel_rfl) (fun _ _ _ h => h) (by rfl) ?_ hHeld ?_; rotate_left; focus (intro w hSw; go_simp; try with_reducible rfl))
      simp only [Act.put, List.setIfInBounds_toArray, List.set_cons_zero, List.set_cons_succ]
      (refine tk_yes (v := ?_) 3 (some 7) rfl rfl (by kernel_rfl) (by kernel_rfl) (by kernel_rfl) (fun _ _ _ h => h) (by rfl) ?_ hHeld ?_; rotate_left; focus (intro w hSw; go_simp; try with_reducible rfl))
      simp only [Act.put, List.setIfInBounds_toArray, List.set_cons_zero, List.set_cons_succ]
      (refine tk_yes (v := ?_) 4 (some 8) rfl rfl (by kernel_rfl) (by kernel_rfl) (by kernel_rfl) (fun _ _ _ h => h) (by rfl) ?_ hHeld ?_; rotate_left; focus (intro w hSw; go_simp; try with_reducible rfl))
      simp only [Act.put, List.setIfInBounds_toArray, List.set_cons_zero, List.set_cons_succ]
      refine wpAnyH_ready (rs := [5]) (by kernel_rfl) (by simp) ?_
      refine AllReadyH.cons rfl (fun K hK => ?_) AllReadyH.nil
      go_simp
      go_at_call 10
      refine (last10 H1.out.drew t h0 h1).mono ?_
      rintro e w2 ⟨rfl, hb2⟩
      rw [HX.out]
      have HB2 := hid hb2
      have H2 := hid (H1.out.drew.below hb2)
      have e0 := (hb2.cell (p := ⟨q, 0, none⟩) (by simp [hz])).trans d0
      have e1 := (hb2.cell (p := ⟨q, 1, none⟩) (by simp [hz])).trans d1
      clear hb2 d0 d1
      go_wp2_with fail
      refine hK.out _ _ ⟨e0, e1⟩ (fun hHeld => ?_)
      clear hK K
      try simp only [Act.put, List.setIfInBounds_toArray, List.set_cons_zero, List.set_cons_succ]
      (refine tk_yes (v := .bool true) 6 (some 10) rfl rfl (by kernel_rfl) (by kernel_rfl) (by kernel_rfl) (fun _ _ _ h => h) (by rfl) ?_ hHeld ?_; focus (intro w hSw; go_simp; try omega))
      simp only [Act.put, List.setIfInBounds_toArray, List.set_cons_zero, List.set_cons_succ]
      (refine tk_yes (v := ?_) 7 (some 11) rfl rfl (by kernel_rfl) (by kernel_rfl) (by kernel_rfl) (fun _ _ _ h => h) (by rfl) ?_ hHeld ?_; rotate_left; focus (intro w hSw; go_simp; try with_reducible rfl))
      simp only [Act.put, List.setIfInBounds_toArray, List.set_cons_zero, List.set_cons_succ]
      (refine tk_yes (v := ?_) 8 (some 12) rfl rfl (by kernel_rfl) (by kernel_rfl) (by kernel_rfl) (fun _ _ _ h => h) (by rfl) ?_ hHeld ?_; rotate_left; focus (intro w hSw; go_simp; try with_reducible rfl))
      simp only [Act.put, List.setIfInBounds_toArray, List.set_cons_zero, List.set_cons_succ]
      (refine tk_yes (v := ?_) 9 (some 13) rfl rfl (by kernel_rfl) (by kernel_rfl) (by kernel_rfl) (fun _ _ _ h => h) (by rfl) ?_ hHeld ?_; rotate_left; focus (intro w hSw; go_simp; try with_reducible rfl))
      simp only [Act.put, List.setIfInBounds_toArray, List.set_cons_zero, List.set_cons_succ]
      (refine tk_yes (v := .bool false) 10 (some 14) rfl rfl (by kernel_rfl) (by kernel_rfl) (by kernel_rfl) (fun _ _ _ h => h) (by rfl) ?_ hHeld ?_; focus (intro w hSw; go_simp; try omega))
      simp only [Act.put, List.setIfInBounds_toArray, List.set_cons_zero, List.set_cons_succ]
      (refine tk_yes (v := ?_) 11 (some 15) rfl rfl (by kernel_rfl) (by kernel_rfl) (by kernel_rfl) (fun _ _ _ h => h) (by rfl) ?_ hHeld ?_; rotate_left; focus (intro w hSw; go_simp; try with_reducible rfl))
      simp only [Act.put, List.setIfInBounds_toArray, List.set_cons_zero, List.set_cons_succ]
      refine wpAnyH_done (by kernel_rfl) ?_ _
      refine NoPanic.normal ?_
      have G2 : w.grownBy w2 (some b) := (grown_of (row := some b) HB.out).trans (grown_of ((Below.refl _ _).drew.trans HB2.out))
      go_wp2
      go_end0
      exact ⟨rfl, H2.out.mono (by omega), G2⟩
  · have es : sawL f t s = f := HS.out.trans (if_neg (fun h => g1 h.1))
    rw [es]
    clear HS es
    go_enter Try.func8, Try.ntmps8
    go_wp2
    generalize w.alloc (.cells #[.int .u16 t, .int .u32 s] 33) = w1 at *
    rw [eq] at hq hz
    have d0 : w1.cell? ⟨q, 0, none⟩ = some (.int .u16 t) := by rw [cell_of_head hq]; rfl
    have d1 : w1.cell? ⟨q, 1, none⟩ = some (.int .u32 s) := by rw [cell_of_head hq]; rfl
    have HB := hid hB
    clear hB hq
    refine wp_region_noPanic ?_
    refine wp_region_held_drew (S := (fun w' : World => w'.cell? ⟨q, 0, none⟩ = some (.int .u16 t) ∧ w'.cell? ⟨q, 1, none⟩ = some (.int .u32 s))) (by kernel_rfl) ⟨d0, d1⟩ (fun hHeld => ?_)
    (refine tk_yes (v := ?_) 0 (some 4) rfl rfl (by kernel_rfl) (by kernel_rfl) (by kernel_rfl) (fun _ _ _ h => h) (by rfl) ?_ hHeld ?_; rotate_left; focus (intro w hSw; go_simp; try with_reducible rfl))
    simp only [Act.put, List.setIfInBounds_toArray, List.set_cons_zero, List.set_cons_succ]
    (refine tk_yes (v := ?_) 1 (some 5) rfl rfl (by kernel_rfl) (by kernel_rfl) (by kernel_rfl) (fun _ _ _ h => h) (by rfl) ?_ hHeld ?_; rotate_left; focus (intro w hSw; go_simp; try with_reducible rfl))
    simp only [Act.put, List.setIfInBounds_toArray, List.set_cons_zero, List.set_cons_succ]
    (refine tk_yes (v := ?_) 2 (some 6) rfl rfl (by kernel_rfl) (by kernel_rfl) (by kernel_rfl) (fun _ _ _ h => h) (by rfl) ?_ hHeld ?_; rotate_left; focus (intro w hSw; go_simp; try with_reducible rfl))
    simp only [Act.put, List.setIfInBounds_toArray, List.set_cons_zero, List.set_cons_succ]
    (refine tk_yes (v := ?_) 3 (some 7) rfl rfl (by kernel_rfl) (by kernel_rfl) (by kernel_rfl) (fun _ _ _ h => h) (by rfl) ?_ hHeld ?_; rotate_left; focus (intro w hSw; go_simp; try with_reducible rfl))
    simp only [Act.put, List.setIfInBounds_toArray, List.set_cons_zero, List.set_cons_succ]
    (refine tk_yes (v := ?_) 4 (some 8) rfl rfl (by kernel_rfl) (by kernel_rfl) (by kernel_rfl) (fun _ _ _ h => h) (by rfl) ?_ hHeld ?_; rotate_left; focus (intro w hSw; go_simp; try with_reducible rfl))
    simp only [Act.put, List.setIfInBounds_toArray, List.set_cons_zero, List.set_cons_succ]
    refine wpAnyH_ready (rs := [5]) (by kernel_rfl) (by simp) ?_
    refine AllReadyH.cons rfl (fun K hK => ?_) AllReadyH.nil
    go_simp
    go_at_call 10
    refine (last10 H1.out.drew t h0 h1).mono ?_
    rintro e w2 ⟨rfl, hb2⟩
    rw [HX.out]
    have HB2 := hid hb2
    have H2 := hid (H1.out.drew.below hb2)
    have e0 := (hb2.cell (p := ⟨q, 0, none⟩) (by simp [hz])).trans d0
    have e1 := (hb2.cell (p := ⟨q, 1, none⟩) (by simp [hz])).trans d1
    clear hb2 d0 d1
    go_wp2_with fail
    refine hK.out _ _ ⟨e0, e1⟩ (fun hHeld => ?_)
    clear hK K
    try simp only [Act.put, List.setIfInBounds_toArray, List.set_cons_zero, List.set_cons_succ]
    (refine tk_yes (v := .bool false) 6 (some 10) rfl rfl (by kernel_rfl) (by kernel_rfl) (by kernel_rfl) (fun _ _ _ h => h) (by rfl) ?_ hHeld ?_; focus (intro w hSw; go_simp; try omega))
    simp only [Act.put, List.setIfInBounds_toArray, List.set_cons_zero, List.set_cons_succ]
    (refine tk_yes (v := ?_) 7 (some 11) rfl rfl (by kernel_rfl) (by kernel_rfl) (by kernel_rfl) (fun _ _ _ h => h) (by rfl) ?_ hHeld ?_; rotate_left; focus (intro w hSw; go_simp; try with_reducible rfl))
    simp only [Act.put, List.setIfInBounds_toArray, List.set_cons_zero, List.set_cons_succ]
    refine tk_no 8 (some 12) rfl rfl (by kernel_rfl) (by kernel_rfl) (by kernel_rfl) (fun _ _ _ h => h) (by rfl) hHeld ?_
    simp only [Act.put, List.setIfInBounds_toArray, List.set_cons_zero, List.set_cons_succ]
    refine tk_no 9 (some 13) rfl rfl (by kernel_rfl) (by kernel_rfl) (by kernel_rfl) (fun _ _ _ h => h) (by rfl) hHeld ?_
    simp only [Act.put, List.setIfInBounds_toArray, List.set_cons_zero, List.set_cons_succ]
    refine tk_no 10 (some 14) rfl rfl (by kernel_rfl) (by kernel_rfl) (by kernel_rfl) (fun _ _ _ h => h) (by rfl) hHeld ?_
    simp only [Act.put, List.setIfInBounds_toArray, List.set_cons_zero, List.set_cons_succ]
    (refine tk_yes (v := ?_) 11 (some 15) rfl rfl (by kernel_rfl) (by kernel_rfl) (by kernel_rfl) (fun _ _ _ h => h) (by rfl) ?_ hHeld ?_; rotate_left; focus (intro w hSw; go_simp; try with_reducible rfl))
    simp only [Act.put, List.setIfInBounds_toArray, List.set_cons_zero, List.set_cons_succ]
    refine wpAnyH_done (by kernel_rfl) ?_ _
    refine NoPanic.normal ?_
    have G2 : w.grownBy w2 (some b) := (grown_of (row := some b) HB.out).trans (grown_of ((Below.refl _ _).drew.trans HB2.out))
    go_wp2
    go_end0
    exact ⟨rfl, H2.out.mono (by omega), G2⟩
set_option maxRecDepth 100000 in
theorem new7 (w : World) : Calls Try.prog 7 #[] w fun e w' => ∃ p b, e = .returned (.pointer (some ⟨p, 0, none⟩)) ∧ BK w' p b 0 (fun _ => 0) ∧ w.heap.size ≤ p ∧ w.heap.size ≤ b ∧ Below w.heap.size w w' := by
  have hmm := @run_makeMap Try.prog
  go_enter Try.func7, Try.ntmps7
  go_wp2
  go_ret
  have z := World.size_alloc w (.map #[] 0)
  have hb := bel1 (w.alloc (.map #[] 0)) (.cells #[.map (some w.heap.size)] 48)
  refine ⟨w.heap.size + 1, w.heap.size, rfl, ⟨?_, (MR.made 33 keyS w).below hb⟩, by omega, Nat.le_refl _, sq (bel1 _ _) hb⟩
  rw [← z]
  exact heap_alloc_new _ _
end Go.Proofs.Ytahkgbhikkebhaa
