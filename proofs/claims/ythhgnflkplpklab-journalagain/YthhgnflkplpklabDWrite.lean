/- A write, by the program and by the document's. -/
import Derived.Test.YthhgnflkplpklabDWide
namespace Go.Proofs.Ythhgnflkplpklab.Dsc
open Go.ChangeShapes Go.WideShapes Go.ChangeAt Go.RowKit

/-- An operation of a drawn region that yields its value may be taken first; its slot written out. -/
theorem tk_yes {P : Program} {ops : Array Oper} {Q : Exit → Act → World → Prop} {md : Region.Mode} {S : World → Prop} {oi : Oper} {v : Value} {fuel : Nat} {listed : Array Bool} {a : Act} {w : World} (i : Nat) (d : Option Tmp)
    (hi : ops[i]? = some oi) (hd : oi.dst = d) (hs : Region.noSelect ops = true) (hf : Region.free md ops listed i = true) (hr : (Region.ready md ops listed).contains i = true)
    (hQ : ∀ c a w, Q (.panic c) (a.put d v) w → Q (.panic c) a w) (hw : Region.wanted oi (yielded ops a.tmps) = true) (hv : ∀ w, S w → (execOp a.eval oi).run P w = .ok (.value v) w) (hS : S w)
    (h : wpAnyH P md ops Q S fuel (listed.setIfInBounds i true) (a.put d v) w) : wpAnyH P md ops Q S (fuel + 1) listed a w := by
  subst hd; exact wpAnyH_take hi hs hf hr hQ (Or.inl ⟨hw, hv⟩) hS h
/-- The same for a load of many cells. -/
theorem tk_ld {P : Program} {ops : Array Oper} {Q : Exit → Act → World → Prop} {md : Region.Mode} {S : World → Prop} {oi : Oper} {fuel : Nat} {listed : Array Bool} {a : Act} {w : World} (i : Nat) (d : Option Tmp)
    (hi : ops[i]? = some oi) (hd : oi.dst = d) (hs : Region.noSelect ops = true) (hf : Region.free md ops listed i = true) (hr : (Region.ready md ops listed).contains i = true) {cs : List Value}
    (hQ : ∀ c a w, Q (.panic c) (a.put d (.agg cs.toArray)) w → Q (.panic c) a w) (hw : Region.wanted oi (yielded ops a.tmps) = true)
    (ty : TypeId) (x : Operand) (ho : oi.op = .load ty x) {b o : Nat} (hx : a.eval x = .pointer (some ⟨b, o, none⟩)) {t : TypeDesc} (hc : ∀ w, S w → w.rangeAt b o cs)
    (hu : P.underlying ty = some t) (ht : t.isRow = true) (hn : (P.info? ty).map (·.size) = some cs.length) (hS : S w)
    (h : wpAnyH P md ops Q S fuel (listed.setIfInBounds i true) (a.put d (.agg cs.toArray)) w) : wpAnyH P md ops Q S (fuel + 1) listed a w := by
  subst hd; exact wpAnyH_take hi hs hf hr hQ (yieldsIf_load_mid hw ty x ho b o hx cs t hc hu ht hn) hS h

def writeZ (d : Dk) (n : Int) : Int := if reachZ d n = 0 then errZ (stepD d).down else reachZ d n
def writeD (d : Dk) (n : Int) (l : List Int) : Dk := if reachZ d n = 0 then (if (stepD d).down then stepD d else { stepD d with waits := d.waits ++ [(n.toNat, padS l)] }) else d

theorem Var.pad {w : World} {b n : Nat} {l : List Int} (h : Var w b (n, zer)) (hl : ∀ z ∈ l, Byt z) : Var (w.setCells b 1 (by8 (l.take 64))) b (n, padS l) := by
  have hlen : (by8 (l.take 64)).length = min 64 l.length := by simp
  have hz : zer.length = 64 := by decide
  refine ⟨fun j v hv => ?_, World.there_setCells h.th _ _ _, padS_sec hl⟩
  rw [Nat.zero_add]
  have hj : j < 65 := by have := (List.getElem?_eq_some_iff.1 hv).1; rw [encW_len (padS_sec hl)] at this; exact this
  have hsome : ∀ i, i < (by8 (l.take 64)).length → (w.cell? ⟨b, 1 + i, none⟩).isSome = true := fun i hi => by
    have := (h.th (1 + i) (by omega)).1; rwa [Nat.zero_add] at this
  match j, hv, hj with
  | 0, hv, _ =>
    rw [World.cell?_setCells_out b _ 1 w ⟨b, 0, none⟩ (fun _ _ => .inl (by show 0 < 1; omega))]
    have := h.num
    simp [encW] at hv
    rw [this, ← hv]
  | j + 1, hv, hj =>
    have hv' : (by8 (padS l))[j]? = some v := by simpa [encW] using hv
    by_cases hq : j < min 64 l.length
    · have := World.cell?_setCells_in b (by8 (l.take 64)) 1 w hsome j (by omega)
      rw [show j + 1 = 1 + j by omega, this, ← hv', ← List.getElem?_eq_getElem]
      simp only [by8, padS, lay, List.map_append, List.getElem?_map]
      rw [List.getElem?_append_left (by simp; omega)]
      simp [hq]
    · rw [World.cell?_setCells_out b _ 1 w ⟨b, j + 1, none⟩ (fun _ _ => .inr (by show 1 + _ ≤ j + 1; omega))]
      have := h.data j v (by
        rw [← hv']
        simp only [by8, padS, lay, List.map_append]
        rw [List.getElem?_append_right (by simp; omega)]
        simp only [List.length_map, List.length_take, List.getElem?_map, List.getElem?_drop]
        congr 2; omega)
      rw [show j + 1 = 1 + j by omega]; exact this

/-- The list of what waits is longer by one: behind an append and the store of its value. -/
theorem wait_more {t : Ty} (ht : t.Far) {w : World} {p : Nat} {sv wv wv' : Value} {d d' : Dk} (hh : w.heap[p]? = some (.cells #[sv, wv, .int .i64 d.left, .bool d.down] t.T (0, 0)))
    (hs : w.ownsRow 0 t.E 64 sv d.secs.length (flatS d.secs)) (hw : w.ownsRow 0 t.U 65 wv' d'.waits.length (flatW d'.waits)) (e1 : d'.secs = d.secs) (e2 : d'.left = d.left) (e3 : d'.down = d.down) (ho : d'.Ok) :
    Dat t (w.setCell ⟨p, 1, none⟩ wv') p sv wv' d' := by
  refine ⟨by rw [heap_setCell_at hh, e2, e3]; rfl, ?_, ?_, ho⟩
  · rw [e1]
    refine own_kept hs (fun k e => Below.heap_setCell _ _ _ _ (fun e4 => ?_))
    change k = p at e4
    rcases hs.2 with ⟨rfl, _⟩ | ⟨g, cap, cur, rfl, _, hc, _⟩
    · cases e
    · cases e; subst e4; rw [hh] at hc; simp only [Option.some.injEq, Obj.cells.injEq] at hc; exact ht.1 hc.2.1
  · refine own_kept hw (fun k e => Below.heap_setCell _ _ _ _ (fun e4 => ?_))
    change k = p at e4
    rcases hw.2 with ⟨rfl, _⟩ | ⟨g, cap, cur, rfl, _, hc, _⟩
    · cases e
    · cases e; subst e4; rw [hh] at hc; simp only [Option.some.injEq, Obj.cells.injEq] at hc; exact ht.2.1 hc.2.1

theorem info60 : (Try.prog.info? 72).map (fun i => (i.zero, i.size, i.bytes)) = some (some (.agg (encW (0, zer)).toArray), 65, 72) := by kernel_rfl
/-- A write is appended to those that wait. -/
theorem apw_step {op : Oper} {a : Act} {w : World} {K : Act → World → Prop} {Q : Exit → Act → World → Prop} (t e : TypeId) (hu : Try.prog.underlying t = some (.slice e))
    (hi : (Try.prog.info? e).map (fun i => (i.zero, i.size, i.bytes)) = some (some (.agg (encW (0, zer)).toArray), 65, 72)) (s y : Operand)
    (ho : op.op = .call { callee := .builtin .append, args := #[s, y], argTypes := #[t, t] }) (v : Value) (wl : List (Nat × List Int)) (hown : w.ownsRow 0 e 65 v wl.length (flatW wl))
    (b : Nat) (x : Nat × List Int) (hs : Sec x.2) (hr : w.rangeAt b 0 (encW x)) (hx : a.eval s = v) (hy : a.eval y = .slice (some ⟨b, 0, none⟩) 1 1) (hmany : wl.length ≤ 1000000)
    (h : ∀ g cap w', w'.ownsRow 0 e 65 (.slice (some ⟨g, 0, none⟩) (wl.length + 1) cap) (wl ++ [x]).length (flatW (wl ++ [x])) → w.grownBy w' v.ownBlock → (v.ownBlock = some g ∨ g = w.heap.size) → g < w'.heap.size →
      K (a.put op.dst (.slice (some ⟨g, 0, none⟩) (wl.length + 1) cap)) w') : op.wp Try.prog a w K Q := by
  obtain ⟨i0, hi0, hz0, hz1, hz2⟩ := info_parts hi
  refine wp_append_lies _ s y t ho 0 e i0 _ 65 72 hu hi0 hz0 hz1 hz2 (by simp [Value.cells, encW, zer]) (by decide) v wl.length (flatW wl) hx hown ⟨b, 0, none⟩ 1 1 (encW x) hy (by rw [encW_len hs]) (fun j u hj => by rw [Addr.add_mid]; exact hr j u hj) (oneW x) (by decide) (by unfold maxLen; omega) (by omega) (Nat.zero_le _) _ rfl ?_
  intro g cap w' h1 h2 h3 h4
  refine h g cap w' ?_ h2 h3 h4
  have e1 : (wl ++ [x]).length = wl.length + 1 := by simp
  have e2 : flatW (wl ++ [x]) = flatW wl ++ encW x := by simp [flatW]
  rw [e1, e2]; exact h1

theorem row_far {w w2 w4 : World} {F : Nat → Prop} {ao : Option Addr} {l : List Int} (h : RowOf (Value.int .u8) w ao l) (hf : l ≠ [] → ∀ a, ao = some a → a.block < w.heap.size ∧ ¬ F a.block) (hT : Turned F w w2) (hb : Below w2.heap.size w2 w4) : RowOf (Value.int .u8) w4 ao l := by
  by_cases h0 : l = []
  · exact .inl h0
  have hf := hf h0
  rcases h with h | ⟨b, o, rfl, h⟩
  · exact .inl h
  · obtain ⟨h1, h2⟩ := hf _ rfl
    refine .inr ⟨b, o, rfl, fun i x hx => ?_⟩
    have e : w4.heap[b]? = w.heap[b]? := (hb.block b (Nat.lt_of_lt_of_le h1 hT.size)).trans (hT.block b h1 h2)
    rw [World.cell?_of_block (a := ⟨b, o + i, none⟩) e]; exact h i x hx
theorem Var.dataT {w : World} {b : Nat} {x : Nat × List Int} (h : Var w b x) : w.there b 1 64 := fun j hj => by
  have := h.th (1 + j) (by omega); rwa [Nat.zero_add] at this
theorem new_range (w : World) (cs : List Value) (t : TypeId) : (w.alloc (.cells cs.toArray t)).rangeAt w.heap.size 0 cs := fun j v hv => by
  rw [cell_of_head (heap_alloc_last w _)]; simpa using hv
/-- The local variable lies in none of the disk's blocks. -/
theorem var_far {t : Ty} {w2 w5 : World} {p : Nat} {sv wv : Value} {d : Dk} {x : Nat × List Int} (_h5 : Dat t w5 p sv wv d) (_hv : Var w5 w2.heap.size x) (h2 : Dat t w2 p sv wv d) : some w2.heap.size ≠ wv.ownBlock := fun e => by
  have := (World.ownsRow.lt h2.waits _ e.symm).2; omega
theorem head7 {t : Ty} (ht : t.Far) {w5 w7 : World} {p : Nat} {sv wv : Value} {d : Dk} {ob : Obj} (h5 : Dat t w5 p sv wv d) (hg : (w5.drew.alloc ob).grownBy w7 wv.ownBlock) :
    w7.heap[p]? = some (.cells #[sv, wv, .int .i64 d.left, .bool d.down] t.T (0, 0)) ∧ w7.ownsRow 0 t.E 64 sv d.secs.length (flatS d.secs) := by
  obtain ⟨f1, f2, f3⟩ := h5.far ht
  have hp := h5.plt
  constructor
  · rw [hg.block p (by simp; omega) (fun e => f2 p e.symm rfl), Below.heap_alloc w5.drew _ _ hp]; exact h5.head
  · refine own_kept h5.secs (fun k e => ?_)
    have hk := (World.ownsRow.lt h5.secs k e).2
    rw [hg.block k (by simp; omega) (fun e2 => f3 k e e2.symm), Below.heap_alloc w5.drew _ _ hk]; rfl
theorem write_turned {F : Nat → Prop} {w w2 w5 w7 : World} {p : Nat} {sv wv u : Value} {ob : Obj} (hT : Turned F w w2) (hb : Below w2.heap.size w2 w5) (hF : ∀ k, Feet p sv wv k → F k) (hg : (w5.drew.alloc ob).grownBy w7 wv.ownBlock) :
    Turned F w (w7.setCell ⟨p, 1, none⟩ u) := by
  have t5 : Turned F w w5 := hT.then (Turned.of_below hb)
  have t6 : Turned F w (w5.drew.alloc ob) := Turned.alloc (w' := w5.drew) ⟨t5.os, t5.tape, t5.output, t5.size, t5.block⟩ ob
  exact (t6.then (Turned.grown hg (fun k e => hF k (.inr (.inr e))))).setCell _ _ (hF p (.inl rfl))
theorem write_feet {F : Nat → Prop} {w w2 w5 w7 : World} {p g : Nat} {sv wv u : Value} {ob : Obj} (hT : Turned F w w2) (hb : Below w2.heap.size w2 w5) (hF : ∀ k, Feet p sv wv k → F k)
    (ha : wv.ownBlock = some g ∨ g = (w5.drew.alloc ob).heap.size) (hl : g < w7.heap.size) : F g ∨ (w.heap.size ≤ g ∧ g < (w7.setCell ⟨p, 1, none⟩ u).heap.size) := by
  rcases ha with h | h
  · exact .inl (hF g (.inr (.inr h)))
  · refine .inr ⟨?_, by simpa [World.setCell] using hl⟩
    have h1 := hT.size
    have h2 := hb.size
    simp at h; omega
theorem write_okD {d : Dk} (h : (stepD d).Ok) {n : Nat} (hn : n < d.secs.length) {l : List Int} (hl : ∀ z ∈ l, Byt z) : ({ stepD d with waits := d.waits ++ [(n, padS l)] } : Dk).Ok := by
  refine ⟨h.secs, fun x hx => ?_, h.left, h.size⟩
  rcases List.mem_append.1 hx with hx | hx
  · exact h.waits x hx
  · simp at hx; subst hx; exact ⟨hn, padS_sec hl⟩

set_option maxHeartbeats 4000000 in
set_option maxRecDepth 20000 in
theorem write_ok (p : Nat) (sv wv : Value) (F : Nat → Prop) (d : Dk) (n : Nat) (w : World) (ao : Option Addr) (cap : Nat) (l : List Int) (h : Dat tc w p sv wv d) (hF : ∀ k, Feet p sv wv k → F k)
    (hn : n < d.secs.length) (hz : reachZ d n = 0) (hs : (stepD d).down = false) (hl : ∀ z ∈ l, Byt z) (hr : RowOf (Value.int .u8) w ao l) (hfar : l ≠ [] → ∀ a, ao = some a → a.block < w.heap.size ∧ ¬ F a.block) (hmany : d.waits.length ≤ 1000000) :
    Calls Try.prog 40 #[.pointer (some ⟨p, 0, none⟩), .int .i64 (n : Int), .slice ao l.length cap] w fun e w' => e = .returned (.int .i64 0) ∧ Turned F w w' ∧
      ∃ wv', Dat tc w' p sv wv' { stepD d with waits := d.waits ++ [(n, padS l)] } ∧ ∀ k, wv'.ownBlock = some k → F k ∨ (w.heap.size ≤ k ∧ k < w'.heap.size) := by
  have H := hid h
  have HL := hid hl
  have HR := hid hr
  have HFAR := hid hfar
  have HF := hid hF
  have HN := hid hn
  have e0 : errZ false = 0 := rfl
  clear h hl hr hfar hF
  go_enter Try.func40, Try.ntmps40
  go_wp2_with (first | (go_at_call 26; refine (reach_any _ _ _ _ _ _ H.out).mono ?_; rintro e w1 ⟨rfl, rfl⟩) | (go_at_call 48; refine (step_any _ _ _ _ _ H.out).mono ?_; rintro e w2 ⟨rfl, D2, T2⟩; have HD2 := hid D2; clear D2; have HT2 := hid (T2.more HF.out); clear T2) | refine bd60 rfl _ rfl rfl ?_ | (refine al60 rfl rfl ?_; intro w3 e3) | (refine st60 (by rw [← e3]; exact new_there _ _ _ (by simp [encW, zer])) zer_sec rfl _ _ rfl rfl rfl ?_; intro w4 e4; obtain ⟨v4, b4⟩ := var_new e3 e4 zer_sec; clear e3 e4; have V4 := hid v4; clear v4) | (refine cp_list rfl _ _ rfl w2.heap.size 1 64 64 ao l.length cap l rfl rfl rfl (row_far HR.out HFAR.out HT2.out b4) V4.out.dataT ?_; intro u5 w5 e5; have V5 := hid (V4.out.pad HL.out); rw [e5] at V5; have b5 := setCells_below b4 1 (s := by8 (l.take 64)); rw [e5] at b5; clear e5 V4; have c5 := (HD2.out.below b5).c1; have hp5 := (HD2.out.below b5).plt))
  have HD5 := hid (HD2.out.below b5)
  have HB5 := hid b5
  have HP5 := hid hp5
  have hVlt := V5.out.lt
  clear b4 b5
  refine wp_region_noPanic ?_
  refine wp_region_held_drew (S := (fun w' => w'.rangeAt w2.heap.size 0 (encW (n, padS l)))) (by kernel_rfl) (V5.out.at0) (fun hHeld => ?_)
  (refine tk_yes (v := ?_) 0 (some 27) rfl rfl (by kernel_rfl) (by kernel_rfl) (by kernel_rfl) (fun _ _ _ h => h) (by rfl) ?_ hHeld ?_; rotate_left; focus (intro w hSw; go_simp; try with_reducible rfl))
  simp only [Act.put, List.setIfInBounds_toArray, List.set_cons_zero, List.set_cons_succ]
  (refine tk_yes (v := ?_) 1 (some 28) rfl rfl (by kernel_rfl) (by kernel_rfl) (by kernel_rfl) (fun _ _ _ h => h) (by rfl) ?_ hHeld ?_; rotate_left; focus (intro w hSw; go_simp; try with_reducible rfl))
  simp only [Act.put, List.setIfInBounds_toArray, List.set_cons_zero, List.set_cons_succ]
  (refine tk_yes (v := ?_) 2 (some 29) rfl rfl (by kernel_rfl) (by kernel_rfl) (by kernel_rfl) (fun _ _ _ h => h) (by rfl) ?_ hHeld ?_; rotate_left; focus (intro w hSw; go_simp; try with_reducible rfl))
  simp only [Act.put, List.setIfInBounds_toArray, List.set_cons_zero, List.set_cons_succ]
  (refine tk_yes (v := ?_) 3 (some 30) rfl rfl (by kernel_rfl) (by kernel_rfl) (by kernel_rfl) (fun _ _ _ h => h) (by rfl) ?_ hHeld ?_; rotate_left; focus (intro w hSw; go_simp; try with_reducible rfl))
  simp only [Act.put, List.setIfInBounds_toArray, List.set_cons_zero, List.set_cons_succ]
  refine tk_ld 5 (some 32) rfl rfl (by kernel_rfl) (by kernel_rfl) (by kernel_rfl) (fun _ _ _ h => h) (by rfl) 72 _ rfl rfl (fun w h => h) Try.underlying72 rfl (by rw [n60, encW_len V5.out.sec]) hHeld ?_
  simp only [Act.put, List.setIfInBounds_toArray, List.set_cons_zero, List.set_cons_succ]
  refine wpAnyH_ready (rs := [4, 6]) (by kernel_rfl) (by simp) ?_
  refine AllReadyH.cons rfl (fun K hK => ?_) (AllReadyH.cons rfl (fun K hK => ?_) AllReadyH.nil)
  · go_simp
    refine hK.out _ _ hHeld (fun hHeld => ?_)
    clear hK K
    try simp only [Act.put, List.setIfInBounds_toArray, List.set_cons_zero, List.set_cons_succ]
    refine wpAnyH_ready (rs := [6]) (by kernel_rfl) (by simp) ?_
    refine AllReadyH.cons rfl (fun K hK => ?_) AllReadyH.nil
    refine step_of rfl (bs_step 49 72 Try.underlying49 z60 _ rfl (n, padS l) V5.out.sec rfl ?_)
    refine hK.out _ _ (World.rangeAt_alloc (w := w5.drew) V5.out.at0 _) (fun hHeld => ?_)
    clear hK K
    try simp only [Act.put, List.setIfInBounds_toArray]
    refine wpAnyH_ready (rs := [7]) (by kernel_rfl) (by simp) ?_
    refine AllReadyH.cons rfl (fun K hK => ?_) AllReadyH.nil
    refine step_of rfl (apw_step 49 72 Try.underlying49 info60 _ _ rfl wv d.waits (World.ownsRow.alloc (w := w5.drew) HD5.out.waits _) w5.heap.size (n, padS l) V5.out.sec (new_range _ _ _) rfl rfl hmany ?_)
    intro g gcap w7 o7 g7 a7 l7
    refine hK.out _ _ (range_kept (World.rangeAt_alloc (w := w5.drew) V5.out.at0 _) (g7.block _ (by simp; omega) (var_far HD5.out V5.out HD2.out))) (fun hHeld => ?_)
    clear hK K
    try simp only [Act.put]
    obtain ⟨h7, s7⟩ := head7 tc_far HD5.out g7
    have c7 := cell_of_head h7 1
    have f7 := froz_of_head h7 1
    simp only [List.getElem?_toArray, List.getElem?_cons_succ, List.getElem?_cons_zero] at c7
    have H7 := hid h7
    clear h7
    (refine tk_yes (v := ?_) 8 (some 35) rfl rfl (by kernel_rfl) (by kernel_rfl) (by kernel_rfl) (fun _ _ _ h => h) (by rfl) ?_ hHeld ?_; rotate_left; focus (intro w hSw; go_simp; try with_reducible rfl))
    simp only [Act.put]
    (refine tk_yes (v := ?_) 9 (some 36) rfl rfl (by kernel_rfl) (by kernel_rfl) (by kernel_rfl) (fun _ _ _ h => h) (by rfl) ?_ hHeld ?_; rotate_left; focus (intro w hSw; go_simp; try with_reducible rfl))
    simp only [Act.put]
    refine wpAnyH_ready (rs := [10]) (by kernel_rfl) (by simp) ?_
    refine AllReadyH.cons rfl (fun K hK => ?_) AllReadyH.nil
    go_simp
    refine hK.out _ _ (range_kept hHeld (Below.heap_setCell _ _ _ _ (by show w2.heap.size ≠ p; have := HD2.out.plt; omega))) (fun hHeld => ?_)
    clear hK K
    try simp only [Act.put, List.setIfInBounds_toArray, List.set_cons_zero, List.set_cons_succ]
    refine wpAnyH_done (by kernel_rfl) ?_ _
    refine NoPanic.normal ?_
    go_wp2
    go_ret
    refine ⟨rfl, write_turned HT2.out HB5.out HF.out g7, _, wait_more tc_far H7.out s7 o7 rfl rfl rfl (write_okD HD5.out.ok HN.out HL.out), fun k e => ?_⟩
    cases e
    exact write_feet HT2.out HB5.out HF.out a7 l7
  · refine step_of rfl (bs_step 49 72 Try.underlying49 z60 _ rfl (n, padS l) V5.out.sec rfl ?_)
    refine hK.out _ _ (World.rangeAt_alloc (w := w5.drew) V5.out.at0 _) (fun hHeld => ?_)
    clear hK K
    try simp only [Act.put, List.setIfInBounds_toArray]
    refine wpAnyH_ready (rs := [4]) (by kernel_rfl) (by simp) ?_
    refine AllReadyH.cons rfl (fun K hK => ?_) AllReadyH.nil
    go_simp
    refine hK.out _ _ hHeld (fun hHeld => ?_)
    clear hK K
    try simp only [Act.put, List.setIfInBounds_toArray, List.set_cons_zero, List.set_cons_succ]
    refine wpAnyH_ready (rs := [7]) (by kernel_rfl) (by simp) ?_
    refine AllReadyH.cons rfl (fun K hK => ?_) AllReadyH.nil
    refine step_of rfl (apw_step 49 72 Try.underlying49 info60 _ _ rfl wv d.waits (World.ownsRow.alloc (w := w5.drew) HD5.out.waits _) w5.heap.size (n, padS l) V5.out.sec (new_range _ _ _) rfl rfl hmany ?_)
    intro g gcap w7 o7 g7 a7 l7
    refine hK.out _ _ (range_kept (World.rangeAt_alloc (w := w5.drew) V5.out.at0 _) (g7.block _ (by simp; omega) (var_far HD5.out V5.out HD2.out))) (fun hHeld => ?_)
    clear hK K
    try simp only [Act.put, List.setIfInBounds_toArray]
    obtain ⟨h7, s7⟩ := head7 tc_far HD5.out g7
    have c7 := cell_of_head h7 1
    have f7 := froz_of_head h7 1
    simp only [List.getElem?_toArray, List.getElem?_cons_succ, List.getElem?_cons_zero] at c7
    have H7 := hid h7
    clear h7
    (refine tk_yes (v := ?_) 8 (some 35) rfl rfl (by kernel_rfl) (by kernel_rfl) (by kernel_rfl) (fun _ _ _ h => h) (by rfl) ?_ hHeld ?_; rotate_left; focus (intro w hSw; go_simp; try with_reducible rfl))
    simp only [Act.put]
    (refine tk_yes (v := ?_) 9 (some 36) rfl rfl (by kernel_rfl) (by kernel_rfl) (by kernel_rfl) (fun _ _ _ h => h) (by rfl) ?_ hHeld ?_; rotate_left; focus (intro w hSw; go_simp; try with_reducible rfl))
    simp only [Act.put]
    refine wpAnyH_ready (rs := [10]) (by kernel_rfl) (by simp) ?_
    refine AllReadyH.cons rfl (fun K hK => ?_) AllReadyH.nil
    go_simp
    refine hK.out _ _ (range_kept hHeld (Below.heap_setCell _ _ _ _ (by show w2.heap.size ≠ p; have := HD2.out.plt; omega))) (fun hHeld => ?_)
    clear hK K
    try simp only [Act.put, List.setIfInBounds_toArray, List.set_cons_zero, List.set_cons_succ]
    refine wpAnyH_done (by kernel_rfl) ?_ _
    refine NoPanic.normal ?_
    go_wp2
    go_ret
    refine ⟨rfl, write_turned HT2.out HB5.out HF.out g7, _, wait_more tc_far H7.out s7 o7 rfl rfl rfl (write_okD HD5.out.ok HN.out HL.out), fun k e => ?_⟩
    cases e
    exact write_feet HT2.out HB5.out HF.out a7 l7

theorem dsk_of {t : Ty} {F : Nat → Prop} {w w' : World} {p : Nat} {sv wv : Value} {d : Dk} (h : Dat t w' p sv wv d) (hT : Turned F w w') (hF : ∀ k, F k → k < w.heap.size) (hf : ∀ k, Feet p sv wv k → grow F w w' k) : Dsk t w' p (grow F w w') d :=
  ⟨sv, wv, h, hf, fun k g => by
    have := hT.size
    rcases g with g | g
    · have := hF k g; omega
    · exact g.2⟩
theorem dsk_same {t : Ty} {F : Nat → Prop} {w w' : World} {p : Nat} {sv wv : Value} {d : Dk} (h : Dat t w' p sv wv d) (hT : Turned F w w') (hF : ∀ k, F k → k < w.heap.size) (hf : ∀ k, Feet p sv wv k → F k) : Dsk t w' p (grow F w w') d :=
  dsk_of h hT hF fun k g => .inl (hf k g)

theorem write_any (p : Nat) (F : Nat → Prop) (d : Dk) (n : Int) (w : World) (ao : Option Addr) (cap : Nat) (l : List Int) (h : Dsk tc w p F d)
    (hl : ∀ z ∈ l, Byt z) (hr : RowOf (Value.int .u8) w ao l) (hfar : l ≠ [] → ∀ a, ao = some a → a.block < w.heap.size ∧ ¬ F a.block) (hmany : d.waits.length ≤ 1000000) :
    Calls Try.prog 40 #[.pointer (some ⟨p, 0, none⟩), .int .i64 n, .slice ao l.length cap] w fun e w' => e = .returned (.int .i64 (writeZ d n)) ∧ Turned F w w' ∧ Dsk tc w' p (grow F w w') (writeD d n l) := by
  obtain ⟨sv, wv, hD, hF, hlt⟩ := h
  by_cases hz : reachZ d n = 0
  · obtain ⟨h1, h2, h3⟩ := reach_ok hz
    obtain ⟨n, rfl⟩ := Int.eq_ofNat_of_zero_le h1
    have hn : n < d.secs.length := by omega
    cases hs : (stepD d).down with
    | false =>
      refine (write_ok p sv wv F d n w ao cap l hD hF hn hz hs hl hr hfar hmany).mono ?_
      rintro e w' ⟨rfl, hT, wv', hD', hf'⟩
      refine ⟨by simp [writeZ, hz, hs, errZ], hT, ?_⟩
      have e : writeD d n l = { stepD d with waits := d.waits ++ [(n, padS l)] } := by simp [writeD, hz, hs]
      rw [e]
      refine dsk_of hD' hT hlt (fun k g => ?_)
      rcases g with rfl | g | g
      · exact .inl (hF _ (.inl rfl))
      · exact .inl (hF k (.inr (.inl g)))
      · exact hf' k g
    | true =>
      have H := hid hD
      have HF := hid hF
      have HLT := hid hlt
      have e0 : errZ true = 22 := rfl
      clear hD hF hlt hl hr hfar
      go_enter Try.func40, Try.ntmps40
      go_wp2_with (first | (go_at_call 26; refine (reach_any _ _ _ _ _ _ H.out).mono ?_; rintro e w1 ⟨rfl, rfl⟩) | (go_at_call 48; refine (step_any _ _ _ _ _ H.out).mono ?_; rintro e w2 ⟨rfl, D2, T2⟩; have HD2 := hid D2; clear D2; have HT2 := hid (T2.more HF.out); clear T2))
      go_ret
      refine ⟨by simp [writeZ, hz, hs, errZ], HT2.out, ?_⟩
      have e : writeD d n l = stepD d := by simp [writeD, hz, hs]
      rw [e]
      exact dsk_same HD2.out HT2.out HLT.out HF.out
  · have H := hid hD
    have HF := hid hF
    have HLT := hid hlt
    clear hD hF hlt hl hr hfar
    go_enter Try.func40, Try.ntmps40
    go_wp2_with (go_at_call 26; refine (reach_any _ _ _ _ _ _ H.out).mono ?_; rintro e w1 ⟨rfl, rfl⟩)
    go_ret
    refine ⟨by simp [writeZ, hz], Turned.refl _ _, ?_⟩
    have e : writeD d n l = d := by simp [writeD, hz]
    rw [e]
    exact dsk_same H.out (Turned.refl _ _) HLT.out HF.out

end Go.Proofs.Ythhgnflkplpklab.Dsc
