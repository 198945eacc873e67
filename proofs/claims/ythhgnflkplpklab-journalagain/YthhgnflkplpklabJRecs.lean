/- Rows of records: made, appended, read, cut. -/
import Derived.Test.YthhgnflkplpklabJHeld
import Derived.ArgAppend
import Derived.Deep.Upon
namespace Go.Proofs.Ythhgnflkplpklab
set_option maxRecDepth 20000
open Go.ChangeShapes Go.WideShapes Go.ChangeAt Go.RowKit
open Dsc (Dk Sec hid sq bel1)
open Frm (Rc putL rightB bytesL num Given Mk Row RowAt RV)

def flR (l : List Rc) : List Value := l.flatMap Rc.cells
theorem flR_len (l : List Rc) : (flR l).length = l.length * 17 := Dsc.flat_len Rc.cells l (fun r _ => r.len)
theorem oneR (l : List Rc) : ∀ u ∈ flR l, u.oneCell' = true := by
  intro u hu
  obtain ⟨r, _, hr⟩ := List.mem_flatMap.1 hu
  exact r.one u hr
theorem flR_app (a b : List Rc) : flR (a ++ b) = flR a ++ flR b := by simp [flR]
theorem flR_at {l : List Rc} {i : Nat} {r : Rc} (h : l[i]? = some r) {j : Nat} {v : Value} (hv : r.cells[j]? = some v) : (flR l)[i * 17 + j]? = some v := by
  have hj : j < 17 := (List.getElem?_eq_some_iff.1 hv).1
  unfold flR
  rw [Dsc.flat_get Rc.cells l (fun r _ => r.len) i r h j hj, hv]
theorem flR_take (l : List Rc) (m : Nat) (hm : m ≤ l.length) : flR (l.take m) = (flR l).take (m * 17) := by
  have e : flR l = flR (l.take m) ++ flR (l.drop m) := by rw [← flR_app, List.take_append_drop]
  have hl : (flR (l.take m)).length = m * 17 := by rw [flR_len, List.length_take]; congr 1; omega
  rw [e, ← hl, List.take_left]
theorem flR_drop (l : List Rc) (m : Nat) (hm : m ≤ l.length) : flR (l.drop m) = (flR l).drop (m * 17) := by
  have e : flR l = flR (l.take m) ++ flR (l.drop m) := by rw [← flR_app, List.take_append_drop]
  have hl : (flR (l.take m)).length = m * 17 := by rw [flR_len, List.length_take]; congr 1; omega
  rw [e, ← hl, List.drop_left]
theorem range_sub {w : World} {b o : Nat} {cs : List Value} (h : w.rangeAt b o cs) (k : Nat) : w.rangeAt b (o + k) (cs.drop k) := fun j v hv => by
  rw [List.getElem?_drop] at hv
  rw [Nat.add_assoc]; exact h (k + j) v hv
theorem range_cut {w : World} {b o : Nat} {cs : List Value} (h : w.rangeAt b o cs) (k : Nat) : w.rangeAt b o (cs.take k) := fun j v hv => by
  rw [List.getElem?_take] at hv
  split at hv
  · exact h j v hv
  · cases hv
/-- A slice of records that may be read. -/
structure RG (w : World) (ao : Option Addr) (len cap : Nat) (l : List Rc) : Prop where
  leq : l.length = len
  row : l = [] ∨ ∃ b o, ao = some ⟨b, o, none⟩ ∧ w.rangeAt b o (flR l) ∧ ∃ (c : Array Value) (f : Nat × Nat), w.heap[b]? = some (Obj.cells c 39 f)
  cap1 : len ≤ cap
  cap2 : cap ≤ 9223372036854775807
  nil : ao = none → len = 0 ∧ cap = 0
section
variable {w w' : World} {ao : Option Addr} {len cap : Nat} {l : List Rc}
theorem RG.none (w : World) : RG w Option.none 0 0 [] := ⟨rfl, .inl rfl, by omega, by omega, fun _ => ⟨rfl, rfl⟩⟩
theorem RG.kin (h : RG w ao len cap l) (k : Kin w w') : RG w' ao len cap l := by
  refine ⟨h.leq, ?_, h.cap1, h.cap2, h.nil⟩
  rcases h.row with e | ⟨b, o, e, hr, c, f, hc⟩
  · exact .inl e
  · have hk := k.block b c 39 f hc (by decide) (by decide) (by decide) (by decide)
    exact .inr ⟨b, o, e, Frm.range_kept hr hk, c, f, hk.trans hc⟩
theorem RG.below (h : RG w ao len cap l) (k : Below w.heap.size w w') : RG w' ao len cap l := h.kin (Kin.of k)
theorem RG.at (h : RG w ao len cap l) {i : Nat} {r : Rc} (hi : l[i]? = some r) : ∃ b o, ao = some ⟨b, o, Option.none⟩ ∧ w.rangeAt b (o + i * 17) r.cells := by
  rcases h.row with e | ⟨b, o, e, hr, _⟩
  · subst e; simp at hi
  · refine ⟨b, o, e, fun j v hv => ?_⟩
    rw [Nat.add_assoc]; exact hr _ _ (flR_at hi hv)
theorem RG.take (h : RG w ao len cap l) (m c : Nat) (hm : m ≤ len) (hc1 : m ≤ c) (hc2 : c ≤ cap) : RG w ao m c (l.take m) := by
  have h1 := h.leq
  refine ⟨by rw [List.length_take]; omega, ?_, hc1, by have := h.cap2; omega, fun e => by have := h.nil e; omega⟩
  rcases h.row with e | ⟨b, o, e, hr, k⟩
  · left; rw [e]; simp
  · refine .inr ⟨b, o, e, ?_, k⟩
    rw [flR_take l m (by omega)]; exact range_cut hr _
theorem RG.drop {b o : Nat} (h : RG w (some ⟨b, o, Option.none⟩) len cap l) (m : Nat) (hm : m ≤ len) : RG w (some ⟨b, o + m * 17, Option.none⟩) (len - m) (cap - m) (l.drop m) := by
  have h1 := h.leq
  have h2 := h.cap1
  have h3 := h.cap2
  refine ⟨by rw [List.length_drop]; omega, ?_, by omega, by omega, fun e => by cases e⟩
  rcases h.row with e | ⟨b', o', e, hr, k⟩
  · left; rw [e]; simp
  · cases e
    refine .inr ⟨b, o + m * 17, rfl, ?_, k⟩
    rw [flR_drop l m (by omega)]; exact range_sub hr _
theorem RG.dropAll {b o : Nat} (h : RG w (some ⟨b, o, Option.none⟩) len cap l) (m : Nat) (hm : m ≤ len) (hc : cap = m) : RG w (some ⟨b, o, Option.none⟩) (len - m) (cap - m) (l.drop m) := by
  have h1 := h.leq
  have h2 := h.cap1
  refine ⟨by rw [List.length_drop]; omega, .inl (List.drop_of_length_le (by omega)), by omega, by omega, fun e => by cases e⟩
end
theorem info50 : (Try.prog.info? 39).map (fun i => (i.zero, i.size, i.bytes)) = some (some Rc.zero.val, 17, 136) := by kernel_rfl
/-- A row of records of the call's own. -/
def RowR (B : Nat) (w : World) (v : Value) (n : Nat) (l : List Rc) : Prop := w.ownsRow B 39 17 v n (flR l)
def MkR (W0 w : World) (v : Value) (n : Nat) (l : List Rc) : Prop := RowR W0.heap.size w v n l ∧ Below W0.heap.size W0 w
section
variable {B : Nat} {W0 w w' : World} {v : Value} {n : Nat} {l : List Rc}
theorem RowR.len (h : RowR B w v n l) : l.length = n := by
  have := h.1; rw [flR_len] at this; omega
theorem RowR.below (h : RowR B w v n l) (hb : Below w.heap.size w w') : RowR B w' v n l := Frm.own_kept h fun k e => hb.block k (World.ownsRow.lt h k e).2
theorem RowR.form (h : RowR B w v n l) : ∃ ao cap, v = .slice ao n cap ∧ (ao = none → n = 0 ∧ cap = 0) ∧ n ≤ cap ∧ cap ≤ 9223372036854775807 := by
  rcases h.2 with ⟨rfl, h0⟩ | ⟨g, cap, cur, rfl, _, _, h1, h2, _⟩
  · exact ⟨none, 0, by rw [h0], fun _ => ⟨h0, rfl⟩, by omega, by omega⟩
  · exact ⟨_, _, rfl, (fun e => by cases e), h1, by unfold maxLen at h2; omega⟩
theorem RowR.given {ao : Option Addr} {cap : Nat} (h : RowR B w (.slice ao n cap) n l) : RG w ao n cap l := by
  have hlen := h.len
  obtain ⟨ao', cap', e, h1, h2, h3⟩ := h.form
  cases e
  refine ⟨hlen, ?_, h2, h3, h1⟩
  rcases h.2 with ⟨e, h0⟩ | ⟨g, cap, cur, e, _, hc, _⟩
  · left; exact List.length_eq_zero_iff.1 (by omega)
  · cases e
    refine .inr ⟨g, 0, rfl, fun j u hu => ?_, cur, (0, 0), hc⟩
    have := World.ownsRow.cells h rfl j u hu
    rw [Addr.add_mid] at this; exact this
theorem MkR.nil (W0 : World) : MkR W0 W0 (.slice none 0 0) 0 [] := ⟨World.ownsRow_nil _ _ 39 17, Below.refl _ _⟩
theorem MkR.bel (h : MkR W0 w v n l) : Below W0.heap.size W0 w := h.2
theorem MkR.more (h : MkR W0 w v n l) (hb : Below w.heap.size w w') : MkR W0 w' v n l := ⟨h.1.below hb, sq h.2 hb⟩
theorem MkR.given {ao : Option Addr} {cap : Nat} (h : MkR W0 w (.slice ao n cap) n l) : RG w ao n cap l := h.1.given
end
section
variable {ops : Array Oper} {rest : List Oper} {op : Oper} {a : Act} {w : World} {Q : Exit → Act → World → Prop}
/-- A record of a row is read. -/
theorem ldR {b o : Nat} {r : Rc} (hr : w.rangeAt b o r.cells) (hgd : op.guard = none) (y : Operand) (ho : op.op = .load 39 y) (hx : a.eval y = .pointer (some ⟨b, o, none⟩))
    (h : wpList Try.prog ops Q rest (a.put op.dst r.val) w) : wpList Try.prog ops Q (op :: rest) a w := by
  obtain ⟨d, hu, hd⟩ := Frm.row29
  exact wpList_load_mid hgd 39 y ho b o hx r.cells d hr hu hd Frm.n29 h
theorem new_rg (w : World) (l : List Rc) (n : Nat) (hn : l.length = n) (hs : n ≤ 1000000) : RG (w.alloc (.cells (flR l).toArray 39)) (some ⟨w.heap.size, 0, none⟩) n n l := by
  refine ⟨hn, .inr ⟨_, _, rfl, ?_, _, (0, 0), heap_alloc_new w _⟩, Nat.le_refl _, by omega, fun e => by cases e⟩
  have := Frm.range_new w (flR l).toArray 39
  simpa using this
/-- A slice of one record. -/
theorem bsR {r : Rc} (hgd : op.guard = none) (x : Operand) (ho : op.op = .buildSlice 28 1 #[(0, x)]) (hx : a.eval x = r.val)
    (h : ∀ ao w', RG w' ao 1 1 [r] → Below w.heap.size w w' → wpList Try.prog ops Q rest (a.put op.dst (.slice ao 1 1)) w') : wpList Try.prog ops Q (op :: rest) a w :=
  wpList_plain hgd fun K hK => by
    obtain ⟨i, hi, hz0, hz1, hz2⟩ := info_parts info50
    refine wp_buildSlice 28 39 1 _ ho (flR [r]).toArray i _ Try.underlying28 hi hz0 (by rw [hz1]; decide) (by rw [hz1]; decide) ?_ (hK _ _ (h _ _ (new_rg w [r] 1 rfl (by omega)) (bel1 _ _)))
    have := Great.fill_whole (s := 17) (by decide) [r.val] ((Array.range (1 * i.size)).map (Rc.zero.val.cells[· % Rc.zero.val.cells.size]!))
      (by intro v hv; simp at hv; subst hv; simp [Rc.val, Value.cells, Rc.len]) (by simp [hz1])
    rw [hz1] at this ⊢
    simpa [hx, Value.cells, Rc.val, flR] using this
/-- .. of two. -/
theorem bsR2 {r s : Rc} (hgd : op.guard = none) (x y : Operand) (ho : op.op = .buildSlice 28 2 #[(0, x), (1, y)]) (hx : a.eval x = r.val) (hy : a.eval y = s.val)
    (h : ∀ ao w', RG w' ao 2 2 [r, s] → Below w.heap.size w w' → wpList Try.prog ops Q rest (a.put op.dst (.slice ao 2 2)) w') : wpList Try.prog ops Q (op :: rest) a w :=
  wpList_plain hgd fun K hK => by
    obtain ⟨i, hi, hz0, hz1, hz2⟩ := info_parts info50
    refine wp_buildSlice 28 39 2 _ ho (flR [r, s]).toArray i _ Try.underlying28 hi hz0 (by rw [hz1]; decide) (by rw [hz1]; decide) ?_ (hK _ _ (h _ _ (new_rg w [r, s] 2 rfl (by omega)) (bel1 _ _)))
    have := Great.fill_whole (s := 17) (by decide) [r.val, s.val] ((Array.range (2 * i.size)).map (Rc.zero.val.cells[· % Rc.zero.val.cells.size]!))
      (by intro v hv; simp at hv; rcases hv with hv | hv <;> subst hv <;> simp [Rc.val, Value.cells, Rc.len]) (by simp [hz1])
    rw [hz1] at this ⊢
    simpa [hx, hy, Value.cells, Rc.val, flR] using this
theorem news_at {ad : Addr} {n c : Nat} {l : List Rc} (h : RG w (some ad) n c l) : ∀ j u, (flR l)[j]? = some u → w.cell? (ad.add j) = some u := by
  intro j u hj
  rcases h.row with e | ⟨b, o, e, hr, _⟩
  · subst e; simp [flR] at hj
  · cases e; rw [Addr.add_mid]; exact hr j u hj
/-- A row of records is appended to one of the call's own. -/
theorem app_recs {W0 : World} {n1 c1 n2 c2 m : Nat} {ao1 ao2 : Option Addr} {l1 l2 : List Rc}
    (h1 : MkR W0 w (.slice ao1 n1 c1) n1 l1) (h2 : RG w ao2 n2 c2 l2) (hm : n1 + n2 = m) (hsmall : m ≤ 1000000) (hgd : op.guard = none) (s y : Operand) (ho : op.op = .call { callee := .builtin .append, args := #[s, y], argTypes := #[28, 28] })
    (hs : a.eval s = .slice ao1 n1 c1) (hx : a.eval y = .slice ao2 n2 c2)
    (h : ∀ ao cap w', MkR W0 w' (.slice ao m cap) m (l1 ++ l2) → wpList Try.prog ops Q rest (a.put op.dst (.slice ao m cap)) w') :
    wpList Try.prog ops Q (op :: rest) a w := by
  subst hm
  obtain ⟨i0, hi, hz0, hz1, hz2⟩ := info_parts info50
  cases ao2 with
  | none =>
    obtain ⟨rfl, rfl⟩ := h2.nil rfl
    have e2 : l2 = [] := List.length_eq_zero_iff.1 h2.leq
    subst e2
    refine wpList_append_own_none hgd s y 28 ho W0.heap.size 39 i0 17 Try.underlying28 hi _ n1 (flR l1) hs h1.1 hx ?_
    exact h ao1 c1 w (by rw [List.append_nil]; exact h1)
  | some ad =>
    refine wpList_append_own w hgd s y 28 ho W0.heap.size 39 i0 Rc.zero.val 17 136 Try.underlying28 hi hz0 hz1 hz2 rfl (by decide) _ n1 (flR l1) hs h1.1
      ad n2 c2 (flR l2) hx (by rw [flR_len, h2.leq]) (news_at h2) (oneR l2) (by unfold maxLen; omega) (by omega) h1.2.size ?_
    intro v' w' hown' hgrow _
    have hR : RowR W0.heap.size w' v' (n1 + n2) (l1 ++ l2) := by unfold RowR; rw [flR_app]; exact hown'
    obtain ⟨ao, cap, rfl, _⟩ := hR.form
    refine h ao cap w' ⟨hR, h1.2.grown hgrow h1.2.size ?_⟩
    intro k e
    rcases h1.1.2 with ⟨e2, h0⟩ | ⟨g, cap, cur, e2, hg, _⟩
    · rw [e2] at e; cases e
    · rw [e2] at e; cases e; exact hg
/-- A row is appended to one that is full: new memory. -/
theorem app_full {n n2 c2 m : Nat} {ao1 ao2 : Option Addr} {l1 l2 : List Rc}
    (h1 : RG w ao1 n n l1) (h2 : RG w ao2 n2 c2 l2) (hm : n + n2 = m) (hsmall : m ≤ 1000000) (hgd : op.guard = none) (s y : Operand) (ho : op.op = .call { callee := .builtin .append, args := #[s, y], argTypes := #[28, 28] })
    (hs : a.eval s = .slice ao1 n n) (hx : a.eval y = .slice ao2 n2 c2)
    (h : ∀ ao cap w', RG w' ao m cap (l1 ++ l2) → Below w.heap.size w w' → wpList Try.prog ops Q rest (a.put op.dst (.slice ao m cap)) w') :
    wpList Try.prog ops Q (op :: rest) a w := by
  subst hm
  obtain ⟨i0, hi, hz0, hz1, hz2⟩ := info_parts info50
  by_cases h0 : n2 = 0
  · subst h0
    have e2 : l2 = [] := List.length_eq_zero_iff.1 h2.leq
    subst e2
    have hrun : (Builtin.append_ #[28, 28] op.type #[.slice ao1 n n, .slice ao2 0 c2]).run Try.prog w = .ok (.slice ao1 n n) w := by
      cases ao1 <;> cases ao2 <;> simp [Builtin.append_, run_underlying Try.underlying28, sizeOf, typeInfo, hi, Builtin.lenOf, Builtin.firstCells, storeCells, loadCells, loadCellsFrom]
    refine wpList_plain hgd fun K hK => ?_
    unfold Oper.wp
    simp [execOp, ho, resolve, invoke, builtin, hs, hx, hrun, Result.andThen]
    exact hK _ _ (h ao1 n w (by rw [List.append_nil]; exact h1) (Below.refl _ _))
  · cases ao2 with
    | none => exact absurd (h2.nil rfl).1 h0
    | some ad =>
      refine wpList_append_grows w hgd s y 28 ho 39 i0 Rc.zero.val 17 136 Try.underlying28 hi hz0 hz1 hz2 rfl (by decide) ao1 n n (flR l1) hs h1.nil (by rw [flR_len, h1.leq]) (fun b e => by subst e; exact news_at h1)
        ad n2 c2 (flR l2) hx (by rw [flR_len, h2.leq]) (news_at h2) (oneR l2) (by omega) (by unfold maxLen; omega) (by omega) ?_
      intro v' w' hown' hgrow
      have hR : RowR w.heap.size w' v' (n + n2) (l1 ++ l2) := by unfold RowR; rw [flR_app]; exact hown'
      obtain ⟨ao, cap, rfl, _⟩ := hR.form
      exact h ao cap w' hR.given ((Below.refl _ _).grown hgrow (Nat.le_refl _) (fun k e => by cases e))
end
end Go.Proofs.Ythhgnflkplpklab
