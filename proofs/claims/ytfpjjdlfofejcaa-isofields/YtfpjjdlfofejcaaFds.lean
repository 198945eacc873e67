/- Fields of messages in memory: rows of them, read, appended, cut. No function is walked. -/
import Derived.Test.YtfpjjdlfofejcaaBase
import Derived.ArgAppend
import Derived.Deep.Upon
namespace Go.Proofs.Ytfpjjdlfofejcaa
open Go.ChangeShapes Go.WideShapes Go.ChangeAt Go.RowKit

section
variable {α β : Type}
theorem flat_len {c : Nat} (f : α → List β) : ∀ (l : List α), (∀ x ∈ l, (f x).length = c) → (l.flatMap f).length = l.length * c
  | [], _ => by simp
  | a :: r, h => by
    rw [List.flatMap_cons, List.length_append, h a (by simp), flat_len f r (fun x hx => h x (by simp [hx])), List.length_cons, Nat.add_mul]; omega
theorem flat_get {c : Nat} (f : α → List β) : ∀ (l : List α), (∀ x ∈ l, (f x).length = c) → ∀ (i : Nat) (x : α), l[i]? = some x → ∀ j, j < c → (l.flatMap f)[i * c + j]? = (f x)[j]?
  | [], _, i, x, hx, _, _ => by simp at hx
  | a :: r, h, 0, x, hx, j, hj => by
    simp at hx; subst hx
    rw [List.flatMap_cons, Nat.zero_mul, Nat.zero_add, List.getElem?_append_left (by rw [h a (by simp)]; exact hj)]
  | a :: r, h, i + 1, x, hx, j, hj => by
    have ha := h a (by simp)
    have ih := flat_get f r (fun x hx => h x (by simp [hx])) i x (by simpa using hx) j hj
    rw [List.flatMap_cons, List.getElem?_append_right (by rw [ha, Nat.add_mul]; omega), ha]
    have e : (i + 1) * c + j - c = i * c + j := by rw [Nat.add_mul]; omega
    rw [e, ih]
end
/-- A field: its number, its value. -/
structure Fd where
  N : Int
  V : ByteArray
def Fd.cells (r : Fd) : List Value := [.int .i64 r.N, .string r.V]
def Fd.val (r : Fd) : Value := .agg #[.int .i64 r.N, .string r.V]
theorem Fd.len (r : Fd) : r.cells.length = 2 := rfl
theorem Fd.one (r : Fd) : ∀ u ∈ r.cells, u.oneCell' = true := by
  intro u hu; simp [Fd.cells] at hu; rcases hu with rfl | rfl <;> rfl
def Fd.ok (r : Fd) : Prop := -9223372036854775808 ≤ r.N ∧ r.N ≤ 9223372036854775807 ∧ r.V.size ≤ 9223372036854775807
def FOk (l : List Fd) : Prop := ∀ r ∈ l, r.ok
theorem FOk.app {a b : List Fd} (ha : FOk a) (hb : FOk b) : FOk (a ++ b) := fun r hr => (List.mem_append.1 hr).elim (ha r) (hb r)
theorem FOk.take {a : List Fd} (h : FOk a) (k : Nat) : FOk (a.take k) := fun r hr => h r (List.mem_of_mem_take hr)
theorem FOk.drop {a : List Fd} (h : FOk a) (k : Nat) : FOk (a.drop k) := fun r hr => h r (List.mem_of_mem_drop hr)
theorem FOk.one {r : Fd} (h : r.ok) : FOk [r] := fun x hx => by simp at hx; subst hx; exact h
def flF (l : List Fd) : List Value := l.flatMap Fd.cells
theorem flF_len (l : List Fd) : (flF l).length = l.length * 2 := flat_len Fd.cells l (fun r _ => r.len)
theorem oneF (l : List Fd) : ∀ u ∈ flF l, u.oneCell' = true := by
  intro u hu
  obtain ⟨r, _, hr⟩ := List.mem_flatMap.1 hu
  exact r.one u hr
theorem flF_app (a b : List Fd) : flF (a ++ b) = flF a ++ flF b := by simp [flF]
theorem flF_at {l : List Fd} {i : Nat} {r : Fd} (h : l[i]? = some r) {j : Nat} {v : Value} (hv : r.cells[j]? = some v) : (flF l)[i * 2 + j]? = some v := by
  have hj : j < 2 := (List.getElem?_eq_some_iff.1 hv).1
  unfold flF
  rw [flat_get Fd.cells l (fun r _ => r.len) i r h j hj, hv]
theorem flF_take (l : List Fd) (m : Nat) (hm : m ≤ l.length) : flF (l.take m) = (flF l).take (m * 2) := by
  have e : flF l = flF (l.take m) ++ flF (l.drop m) := by rw [← flF_app, List.take_append_drop]
  have hl : (flF (l.take m)).length = m * 2 := by rw [flF_len, List.length_take]; congr 1; omega
  rw [e, ← hl, List.take_left]
theorem flF_drop (l : List Fd) (m : Nat) (hm : m ≤ l.length) : flF (l.drop m) = (flF l).drop (m * 2) := by
  have e : flF l = flF (l.take m) ++ flF (l.drop m) := by rw [← flF_app, List.take_append_drop]
  have hl : (flF (l.take m)).length = m * 2 := by rw [flF_len, List.length_take]; congr 1; omega
  rw [e, ← hl, List.drop_left]
theorem range_sub {w : World} {b o : Nat} {cs : List Value} (h : w.rangeAt b o cs) (k : Nat) : w.rangeAt b (o + k) (cs.drop k) := fun j v hv => by
  rw [List.getElem?_drop] at hv
  rw [Nat.add_assoc]; exact h (k + j) v hv
theorem range_cut {w : World} {b o : Nat} {cs : List Value} (h : w.rangeAt b o cs) (k : Nat) : w.rangeAt b o (cs.take k) := fun j v hv => by
  rw [List.getElem?_take] at hv
  split at hv
  · exact h j v hv
  · cases hv
theorem range_below {w w' : World} {b o : Nat} {cs : List Value} (h : w.rangeAt b o cs) (hb : Below w.heap.size w w') : w'.rangeAt b o cs := fun j v hv => by
  have := h j v hv
  rw [hb.cell (p := ⟨b, o + j, none⟩) (World.block_lt_of_cell? w _ this)]; exact this
/-- A slice of fields that may be read. -/
structure FG (w : World) (ao : Option Addr) (len cap : Nat) (l : List Fd) : Prop where
  leq : l.length = len
  ok : FOk l
  row : l = [] ∨ ∃ b o, ao = some ⟨b, o, none⟩ ∧ w.rangeAt b o (flF l)
  cap1 : len ≤ cap
  cap2 : cap ≤ 9223372036854775807
  nil : ao = none → len = 0 ∧ cap = 0
section
variable {w w' : World} {ao : Option Addr} {len cap : Nat} {l : List Fd}
theorem FG.none (w : World) : FG w Option.none 0 0 [] := ⟨rfl, fun _ h => by simp at h, .inl rfl, by omega, by omega, fun _ => ⟨rfl, rfl⟩⟩
theorem FG.below (h : FG w ao len cap l) (k : Below w.heap.size w w') : FG w' ao len cap l := by
  refine ⟨h.leq, h.ok, ?_, h.cap1, h.cap2, h.nil⟩
  rcases h.row with e | ⟨b, o, e, hr⟩
  · exact .inl e
  · exact .inr ⟨b, o, e, range_below hr k⟩
theorem FG.lt (h : FG w ao len cap l) : len ≤ 9223372036854775807 := Nat.le_trans h.cap1 h.cap2
theorem FG.at (h : FG w ao len cap l) {i : Nat} {r : Fd} (hi : l[i]? = some r) : ∃ b o, ao = some ⟨b, o, Option.none⟩ ∧ w.cell? ⟨b, o + i * 2, Option.none⟩ = some (.int .i64 r.N) ∧ w.cell? ⟨b, o + i * 2 + 1, Option.none⟩ = some (.string r.V) := by
  rcases h.row with e | ⟨b, o, e, hr⟩
  · subst e; simp at hi
  · exact ⟨b, o, e, hr _ _ (flF_at (j := 0) hi rfl), by rw [Nat.add_assoc]; exact hr _ _ (flF_at (j := 1) hi rfl)⟩
theorem FG.get (h : FG w ao len cap l) {i : Nat} (hi : i < len) : ∃ r : Fd, l[i]? = some r ∧ r.ok ∧ ∃ b o, ao = some ⟨b, o, Option.none⟩ ∧ w.cell? ⟨b, o + i * 2, Option.none⟩ = some (.int .i64 r.N) ∧ w.cell? ⟨b, o + i * 2 + 1, Option.none⟩ = some (.string r.V) := by
  have h1 := h.leq
  have e : l[i]? = some (l[i]'(by omega)) := List.getElem?_eq_getElem _
  exact ⟨_, e, h.ok _ (List.getElem_mem _), h.at e⟩
theorem FG.take (h : FG w ao len cap l) (m : Nat) (hm : m ≤ len) : FG w ao m cap (l.take m) := by
  have h1 := h.leq
  have h2 := h.cap1
  refine ⟨by rw [List.length_take]; omega, h.ok.take m, ?_, by omega, h.cap2, fun e => by have := h.nil e; omega⟩
  rcases h.row with e | ⟨b, o, e, hr⟩
  · left; rw [e]; simp
  · refine .inr ⟨b, o, e, ?_⟩
    rw [flF_take l m (by omega)]; exact range_cut hr _
end
theorem info51 : (Try.prog.info? 51).map (fun i => (i.zero, i.size, i.bytes)) = some (some (Fd.val ⟨0, ⟨#[]⟩⟩), 2, 24) := by kernel_rfl
/-- A row of fields of the call's own. -/
def RowF (B : Nat) (w : World) (v : Value) (n : Nat) (l : List Fd) : Prop := w.ownsRow B 51 2 v n (flF l) ∧ FOk l
def MkF (W0 w : World) (v : Value) (n : Nat) (l : List Fd) : Prop := RowF W0.heap.size w v n l ∧ Below W0.heap.size W0 w
section
variable {B : Nat} {W0 w w' : World} {v : Value} {n : Nat} {l : List Fd}
theorem RowF.len (h : RowF B w v n l) : l.length = n := by
  have := h.1.1; rw [flF_len] at this; omega
theorem RowF.below (h : RowF B w v n l) (hb : Below w.heap.size w w') : RowF B w' v n l := ⟨own_kept h.1 fun k e => hb.block k (World.ownsRow.lt h.1 k e).2, h.2⟩
theorem RowF.form (h : RowF B w v n l) : ∃ ao cap, v = .slice ao n cap ∧ (ao = none → n = 0 ∧ cap = 0) ∧ n ≤ cap ∧ cap ≤ 9223372036854775807 := by
  rcases h.1.2 with ⟨rfl, h0⟩ | ⟨g, cap, cur, rfl, _, _, h1, h2, _⟩
  · exact ⟨none, 0, by rw [h0], fun _ => ⟨h0, rfl⟩, by omega, by omega⟩
  · exact ⟨_, _, rfl, (fun e => by cases e), h1, by unfold maxLen at h2; omega⟩
theorem RowF.given {ao : Option Addr} {cap : Nat} (h : RowF B w (.slice ao n cap) n l) : FG w ao n cap l := by
  have hlen := h.len
  obtain ⟨ao', cap', e, h1, h2, h3⟩ := h.form
  cases e
  refine ⟨hlen, h.2, ?_, h2, h3, h1⟩
  rcases h.1.2 with ⟨e, h0⟩ | ⟨g, cap, cur, e, _, hc, _⟩
  · left; exact List.length_eq_zero_iff.1 (by omega)
  · cases e
    refine .inr ⟨g, 0, rfl, fun j u hu => ?_⟩
    have := World.ownsRow.cells h.1 rfl j u hu
    rw [Addr.add_mid] at this; exact this
theorem MkF.nil (W0 : World) : MkF W0 W0 (.slice none 0 0) 0 [] := ⟨⟨World.ownsRow_nil _ _ 51 2, fun _ h => by simp at h⟩, Below.refl _ _⟩
theorem MkF.bel (h : MkF W0 w v n l) : Below W0.heap.size W0 w := h.2
theorem MkF.more (h : MkF W0 w v n l) (hb : Below w.heap.size w w') : MkF W0 w' v n l := ⟨h.1.below hb, sq h.2 hb⟩
theorem MkF.given {ao : Option Addr} {cap : Nat} (h : MkF W0 w (.slice ao n cap) n l) : FG w ao n cap l := h.1.given
end
theorem new_fg (w : World) (l : List Fd) (n : Nat) (hn : l.length = n) (hs : n ≤ 1000000) (hk : FOk l) : FG (w.alloc (.cells (flF l).toArray 51)) (some ⟨w.heap.size, 0, none⟩) n n l := by
  refine ⟨hn, hk, .inr ⟨_, _, rfl, ?_⟩, Nat.le_refl _, by omega, fun e => by cases e⟩
  intro j v hv
  have := heap_alloc_new w (.cells (flF l).toArray 51)
  rw [Nat.zero_add, cell_of_head this]
  simpa using hv
section
variable {ops : Array Oper} {rest : List Oper} {op : Oper} {a : Act} {w : World} {Q : Exit → Act → World → Prop}
theorem news_at {ad : Addr} {n c : Nat} {l : List Fd} (h : FG w (some ad) n c l) : ∀ j u, (flF l)[j]? = some u → w.cell? (ad.add j) = some u := by
  intro j u hj
  rcases h.row with e | ⟨b, o, e, hr⟩
  · subst e; simp [flF] at hj
  · cases e; rw [Addr.add_mid]; exact hr j u hj
/-- A row of fields is appended to one of the call's own. -/
theorem app_flds {W0 : World} {n1 c1 n2 c2 m : Nat} {ao1 ao2 : Option Addr} {l1 l2 : List Fd}
    (h1 : MkF W0 w (.slice ao1 n1 c1) n1 l1) (h2 : FG w ao2 n2 c2 l2) (hm : n1 + n2 = m) (hsmall : m ≤ 1000000) (hgd : op.guard = none) (s y : Operand) (ho : op.op = .call { callee := .builtin .append, args := #[s, y], argTypes := #[22, 22] })
    (hs : a.eval s = .slice ao1 n1 c1) (hx : a.eval y = .slice ao2 n2 c2)
    (h : ∀ ao cap w', MkF W0 w' (.slice ao m cap) m (l1 ++ l2) → Turned (fun k => (Value.slice ao1 n1 c1).ownBlock = some k) w w' → wpList Try.prog ops Q rest (a.put op.dst (.slice ao m cap)) w') :
    wpList Try.prog ops Q (op :: rest) a w := by
  subst hm
  obtain ⟨i0, hi, hz0, hz1, hz2⟩ := info_parts info51
  cases ao2 with
  | none =>
    obtain ⟨rfl, rfl⟩ := h2.nil rfl
    have e2 : l2 = [] := List.length_eq_zero_iff.1 h2.leq
    subst e2
    refine wpList_append_own_none hgd s y 22 ho W0.heap.size 51 i0 2 Try.underlying22 hi _ n1 (flF l1) hs h1.1.1 hx ?_
    exact h ao1 c1 w (by rw [List.append_nil]; exact h1) (Turned.refl _ _)
  | some ad =>
    refine wpList_append_own w hgd s y 22 ho W0.heap.size 51 i0 (Fd.val ⟨0, ⟨#[]⟩⟩) 2 24 Try.underlying22 hi hz0 hz1 hz2 rfl (by decide) _ n1 (flF l1) hs h1.1.1
      ad n2 c2 (flF l2) hx (by rw [flF_len, h2.leq]) (news_at h2) (oneF l2) (by unfold maxLen; omega) (by omega) h1.2.size ?_
    intro v' w' hown' hgrow _
    have hR : RowF W0.heap.size w' v' (n1 + n2) (l1 ++ l2) := ⟨by rw [flF_app]; exact hown', h1.1.2.app h2.ok⟩
    obtain ⟨ao, cap, rfl, _⟩ := hR.form
    have ht := Turned.grown (F := fun k => (Value.slice ao1 n1 c1).ownBlock = some k) hgrow (fun k e => e)
    refine h ao cap w' ⟨hR, h1.2.trans (ht.below ?_ h1.2.size)⟩ ht
    intro k e
    rcases h1.1.1.2 with ⟨e2, h0⟩ | ⟨g, cap, cur, e2, hg, _⟩
    · rw [e2] at e; cases e
    · rw [e2] at e; cases e; exact hg
end
end Go.Proofs.Ytfpjjdlfofejcaa
