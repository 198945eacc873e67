/- Rows of states: made, appended, read. No function is walked. -/
import Derived.Test.YtnahbfnchopghaaWide
import Derived.Deep.Upon
import Derived.Great.BuildSlice
namespace Go.Proofs.Ytnahbfnchopghaa
open Go.ChangeShapes Go.WideShapes Go.ChangeAt Go.RowKit

theorem flat_len {α : Type} (f : α → List Value) {n : Nat} : ∀ l : List α, (∀ r ∈ l, (f r).length = n) → (l.flatMap f).length = l.length * n
  | [], _ => by simp
  | a :: l, h => by
    have := flat_len f l (fun r hr => h r (List.mem_cons_of_mem _ hr))
    have ha := h a List.mem_cons_self
    simp only [List.flatMap_cons, List.length_append, List.length_cons, this, ha, Nat.add_mul]; omega
theorem flat_get {α : Type} (f : α → List Value) {n : Nat} : ∀ l : List α, (∀ r ∈ l, (f r).length = n) → ∀ (i : Nat) (r : α), l[i]? = some r → ∀ j, j < n → (l.flatMap f)[i * n + j]? = (f r)[j]?
  | [], _, i, r, h, _, _ => by simp at h
  | a :: l, hl, i, r, h, j, hj => by
    have ha := hl a List.mem_cons_self
    cases i with
    | zero =>
      simp at h; subst h
      rw [List.flatMap_cons, Nat.zero_mul, Nat.zero_add, List.getElem?_append_left (by omega)]
    | succ i =>
      have h' : l[i]? = some r := by simpa using h
      have := flat_get f l (fun r hr => hl r (List.mem_cons_of_mem _ hr)) i r h' j hj
      rw [List.flatMap_cons, List.getElem?_append_right (by rw [ha, Nat.add_mul]; omega), ha, ← this]
      congr 1
      rw [Nat.add_mul]; omega
def flS (l : List St) : List Value := l.flatMap St.cells
theorem flS_len (l : List St) : (flS l).length = l.length * 4 := flat_len St.cells l (fun r _ => r.len)
theorem oneS (l : List St) : ∀ u ∈ flS l, u.oneCell' = true := by
  intro u hu
  obtain ⟨r, _, hr⟩ := List.mem_flatMap.1 hu
  exact r.one u hr
theorem flS_app (a b : List St) : flS (a ++ b) = flS a ++ flS b := by simp [flS]
theorem flS_at {l : List St} {i : Nat} {r : St} (h : l[i]? = some r) {j : Nat} {v : Value} (hv : r.cells[j]? = some v) : (flS l)[i * 4 + j]? = some v := by
  have hj : j < 4 := (List.getElem?_eq_some_iff.1 hv).1
  unfold flS
  rw [flat_get St.cells l (fun r _ => r.len) i r h j hj, hv]
/-- A slice of states that may be read. -/
structure SG (w : World) (ao : Option Addr) (len cap : Nat) (l : List St) : Prop where
  leq : l.length = len
  row : l = [] ∨ ∃ b o, ao = some ⟨b, o, none⟩ ∧ w.rangeAt b o (flS l)
  cap1 : len ≤ cap
  cap2 : cap ≤ 9223372036854775807
  nil : ao = none → len = 0 ∧ cap = 0
section
variable {w w' : World} {ao : Option Addr} {len cap : Nat} {l : List St}
theorem SG.none (w : World) : SG w Option.none 0 0 [] := ⟨rfl, .inl rfl, by omega, by omega, fun _ => ⟨rfl, rfl⟩⟩
theorem flS_pos (h : l ≠ []) : ∃ v, (flS l)[0]? = some v := by
  cases l with
  | nil => exact absurd rfl h
  | cons r l => exact ⟨_, by simp [flS, St.cells]; rfl⟩
theorem SG.lt (h : SG w ao len cap l) (hl : l ≠ []) : ∀ a, ao = some a → a.block < w.heap.size := by
  intro a e
  rcases h.row with h0 | ⟨b, o, e2, hr⟩
  · exact absurd h0 hl
  · rw [e2] at e; cases e
    obtain ⟨v, hv⟩ := flS_pos hl
    exact World.block_lt_of_cell? w ⟨b, o + 0, Option.none⟩ (hr 0 v hv)
/-- The block of the row, where it has one, is as it was. -/
theorem SG.keep (h : SG w ao len cap l) (k : ∀ b, (∃ o, ao = some ⟨b, o, Option.none⟩) → b < w.heap.size → w'.heap[b]? = w.heap[b]?) : SG w' ao len cap l := by
  refine ⟨h.leq, ?_, h.cap1, h.cap2, h.nil⟩
  by_cases h0 : l = []
  · exact .inl h0
  rcases h.row with e | ⟨b, o, e, hr⟩
  · exact .inl e
  · exact .inr ⟨b, o, e, range_kept hr (k b ⟨o, e⟩ (h.lt h0 _ e))⟩
theorem SG.below (h : SG w ao len cap l) (k : Below w.heap.size w w') : SG w' ao len cap l := h.keep fun b _ hb => k.block b hb
theorem SG.at (h : SG w ao len cap l) {i : Nat} {r : St} (hi : l[i]? = some r) : ∃ b o, ao = some ⟨b, o, Option.none⟩ ∧ w.rangeAt b (o + i * 4) r.cells := by
  rcases h.row with e | ⟨b, o, e, hr⟩
  · subst e; simp at hi
  · refine ⟨b, o, e, fun j v hv => ?_⟩
    rw [Nat.add_assoc]; exact hr _ _ (flS_at hi hv)
theorem SG.some (h : SG w ao len cap l) (hl : 0 < len) : ∃ b o, ao = some ⟨b, o, Option.none⟩ ∧ ∀ (i : Nat) (r : St), l[i]? = some r → w.rangeAt b (o + i * 4) r.cells := by
  rcases h.row with e | ⟨b, o, e, hr⟩
  · have := h.leq; subst e; simp at this; omega
  · refine ⟨b, o, e, fun i r hi j v hv => ?_⟩
    rw [Nat.add_assoc]; exact hr _ _ (flS_at hi hv)
end
theorem info34 : (Try.prog.info? 34).map (fun i => (i.zero, i.size, i.bytes)) = some (some St.zero.val, 4, 32) := by kernel_rfl
/-- A row of states of the call's own. -/
def RowS (B : Nat) (w : World) (v : Value) (n : Nat) (l : List St) : Prop := w.ownsRow B 34 4 v n (flS l)
def MkS (W0 w : World) (v : Value) (n : Nat) (l : List St) : Prop := RowS W0.heap.size w v n l ∧ Below W0.heap.size W0 w
section
variable {B : Nat} {W0 w w' : World} {v : Value} {n : Nat} {l : List St}
theorem RowS.len (h : RowS B w v n l) : l.length = n := by
  have := h.1; rw [flS_len] at this; omega
theorem RowS.below (h : RowS B w v n l) (hb : Below w.heap.size w w') : RowS B w' v n l := own_kept h fun k e => hb.block k (World.ownsRow.lt h k e).2
theorem RowS.form (h : RowS B w v n l) : ∃ ao cap, v = .slice ao n cap ∧ (ao = none → n = 0 ∧ cap = 0) ∧ n ≤ cap ∧ cap ≤ 9223372036854775807 := by
  rcases h.2 with ⟨rfl, h0⟩ | ⟨g, cap, cur, rfl, _, _, h1, h2, _⟩
  · exact ⟨none, 0, by rw [h0], fun _ => ⟨h0, rfl⟩, by omega, by omega⟩
  · exact ⟨_, _, rfl, (fun e => by cases e), h1, by unfold maxLen at h2; omega⟩
theorem RowS.given {ao : Option Addr} {cap : Nat} (h : RowS B w (.slice ao n cap) n l) : SG w ao n cap l := by
  have hlen := h.len
  obtain ⟨ao', cap', e, h1, h2, h3⟩ := h.form
  cases e
  refine ⟨hlen, ?_, h2, h3, h1⟩
  rcases h.2 with ⟨e, h0⟩ | ⟨g, cap, cur, e, _, hc, _⟩
  · left; exact List.length_eq_zero_iff.1 (by omega)
  · cases e
    refine .inr ⟨g, 0, rfl, fun j u hu => ?_⟩
    have := World.ownsRow.cells h rfl j u hu
    rw [Addr.add_mid] at this; exact this
theorem MkS.nil (W0 : World) : MkS W0 W0 (.slice none 0 0) 0 [] := ⟨World.ownsRow_nil _ _ 34 4, Below.refl _ _⟩
theorem MkS.bel (h : MkS W0 w v n l) : Below W0.heap.size W0 w := h.2
theorem MkS.more (h : MkS W0 w v n l) (hb : Below w.heap.size w w') : MkS W0 w' v n l := ⟨h.1.below hb, sq h.2 hb⟩
theorem MkS.given {ao : Option Addr} {cap : Nat} (h : MkS W0 w (.slice ao n cap) n l) : SG w ao n cap l := h.1.given
end
section
variable {ops : Array Oper} {rest : List Oper} {op : Oper} {a : Act} {w : World} {Q : Exit → Act → World → Prop}
/-- A state of a row is read. -/
theorem ldS {b o : Nat} {r : St} (hr : w.rangeAt b o r.cells) (hgd : op.guard = none) (y : Operand) (ho : op.op = .load 34 y) (hx : a.eval y = .pointer (some ⟨b, o, none⟩))
    (h : wpList Try.prog ops Q rest (a.put op.dst r.val) w) : wpList Try.prog ops Q (op :: rest) a w := by
  obtain ⟨d, hu, hd⟩ := row34
  exact wpList_load_mid hgd 34 y ho b o hx r.cells d hr hu hd n34 h
theorem new_sg (w : World) (l : List St) (n : Nat) (hn : l.length = n) (hs : n ≤ 1000000) : SG (w.alloc (.cells (flS l).toArray 34)) (some ⟨w.heap.size, 0, none⟩) n n l := by
  refine ⟨hn, .inr ⟨_, _, rfl, ?_⟩, Nat.le_refl _, by omega, fun e => by cases e⟩
  have := range_new w (flS l).toArray 34
  simpa using this
/-- A slice of one state. -/
theorem bsS {r : St} (hgd : op.guard = none) (x : Operand) (ho : op.op = .buildSlice 22 1 #[(0, x)]) (hx : a.eval x = r.val)
    (h : ∀ ao w', SG w' ao 1 1 [r] → Below w.heap.size w w' → wpList Try.prog ops Q rest (a.put op.dst (.slice ao 1 1)) w') : wpList Try.prog ops Q (op :: rest) a w :=
  wpList_plain hgd fun K hK => by
    obtain ⟨i, hi, hz0, hz1, hz2⟩ := info_parts info34
    refine wp_buildSlice 22 34 1 _ ho (flS [r]).toArray i _ Try.underlying22 hi hz0 (by rw [hz1]; decide) (by rw [hz1]; decide) ?_ (hK _ _ (h _ _ (new_sg w [r] 1 rfl (by omega)) (bel1 _ _)))
    have := Great.fill_whole (s := 4) (by decide) [r.val] ((Array.range (1 * i.size)).map (St.zero.val.cells[· % St.zero.val.cells.size]!))
      (by intro v hv; simp at hv; subst hv; simp [St.val, Value.cells, St.len]) (by simp [hz1])
    rw [hz1] at this ⊢
    simpa [hx, Value.cells, St.val, flS] using this
theorem news_at {ad : Addr} {n c : Nat} {l : List St} (h : SG w (some ad) n c l) : ∀ j u, (flS l)[j]? = some u → w.cell? (ad.add j) = some u := by
  intro j u hj
  rcases h.row with e | ⟨b, o, e, hr⟩
  · subst e; simp [flS] at hj
  · cases e; rw [Addr.add_mid]; exact hr j u hj
/-- A row of states is appended to one of the call's own. -/
theorem app_sts {W0 : World} {n1 c1 n2 c2 m : Nat} {ao1 ao2 : Option Addr} {l1 l2 : List St}
    (h1 : MkS W0 w (.slice ao1 n1 c1) n1 l1) (h2 : SG w ao2 n2 c2 l2) (hm : n1 + n2 = m) (hsmall : m ≤ 1000000) (hgd : op.guard = none) (s y : Operand) (ho : op.op = .call { callee := .builtin .append, args := #[s, y], argTypes := #[22, 22] })
    (hs : a.eval s = .slice ao1 n1 c1) (hx : a.eval y = .slice ao2 n2 c2)
    (h : ∀ ao cap w', MkS W0 w' (.slice ao m cap) m (l1 ++ l2) → wpList Try.prog ops Q rest (a.put op.dst (.slice ao m cap)) w') :
    wpList Try.prog ops Q (op :: rest) a w := by
  subst hm
  obtain ⟨i0, hi, hz0, hz1, hz2⟩ := info_parts info34
  cases ao2 with
  | none =>
    obtain ⟨rfl, rfl⟩ := h2.nil rfl
    have e2 : l2 = [] := List.length_eq_zero_iff.1 h2.leq
    subst e2
    refine wpList_append_own_none hgd s y 22 ho W0.heap.size 34 i0 4 Try.underlying22 hi _ n1 (flS l1) hs h1.1 hx ?_
    exact h ao1 c1 w (by rw [List.append_nil]; exact h1)
  | some ad =>
    refine wpList_append_own w hgd s y 22 ho W0.heap.size 34 i0 St.zero.val 4 32 Try.underlying22 hi hz0 hz1 hz2 rfl (by decide) _ n1 (flS l1) hs h1.1
      ad n2 c2 (flS l2) hx (by rw [flS_len, h2.leq]) (news_at h2) (oneS l2) (by unfold maxLen; omega) (by omega) h1.2.size ?_
    intro v' w' hown' hgrow _
    have hR : RowS W0.heap.size w' v' (n1 + n2) (l1 ++ l2) := by unfold RowS; rw [flS_app]; exact hown'
    obtain ⟨ao, cap, rfl, _⟩ := hR.form
    refine h ao cap w' ⟨hR, h1.2.grown hgrow h1.2.size ?_⟩
    intro k e
    rcases h1.1.2 with ⟨e2, h0⟩ | ⟨g, cap, cur, e2, hg, _⟩
    · rw [e2] at e; cases e
    · rw [e2] at e; cases e; exact hg
end
end Go.Proofs.Ytnahbfnchopghaa
