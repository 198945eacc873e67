/- Rows of texts in memory. No function is walked. -/
import Derived.Test.YtnahbfnchopghaaPure
import Derived.Deep.Strs
namespace Go.Proofs.Ytnahbfnchopghaa
open Go.ChangeShapes Go.WideShapes Go.ChangeAt Go.RowKit

/-- Each is a text that a machine may hold. -/
def Txt (l : List ByteArray) : Prop := ∀ s ∈ l, s.size ≤ 9223372036854775807
theorem Try.info9 : (Try.prog.info? 9).map (fun i => (i.zero, i.size, i.bytes)) = some (some (.string ⟨#[]⟩), 1, 16) := by kernel_rfl
namespace T
def cellsOf (l : List ByteArray) : Array Value := (l.map (Value.string)).toArray
theorem cells_size (l : List ByteArray) : (cellsOf l).size = l.length := by simp [cellsOf]
abbrev by8 (s : List ByteArray) : List Value := s.map (Value.string)
theorem one8 (s : List ByteArray) : ∀ u ∈ by8 s, u.oneCell' = true := by
  intro u hu; simp at hu; obtain ⟨z, _, rfl⟩ := hu; rfl
theorem cells_toList (l : List ByteArray) : (cellsOf l).toList = by8 l := by simp [cellsOf]
/-- In this world the address leads to the bytes 'zs' (or there are none). -/
def RowAt (w : World) (ao : Option Addr) (zs : List ByteArray) : Prop :=
  zs = [] ∨ ∃ b off, ao = some ⟨b, off, none⟩ ∧ ∀ i, i < zs.length → w.cell? ⟨b, off + i, none⟩ = some (.string (zs.getD i ⟨#[]⟩))
theorem RowAt.nil (w : World) (ao : Option Addr) : RowAt w ao [] := .inl rfl
theorem RowAt.lt {w : World} {ao : Option Addr} {l : List ByteArray} (h : RowAt w ao l) (hl : l ≠ []) : ∀ a, ao = some a → a.block < w.heap.size := by
  rcases h with h | ⟨b, off, rfl, hc⟩
  · exact absurd h hl
  · intro a e; cases e
    have : 0 < l.length := List.length_pos_iff.2 hl
    exact World.block_lt_of_cell? w ⟨b, off + 0, none⟩ (hc 0 this)
theorem RowAt.keep {w w' : World} {ao : Option Addr} {l : List ByteArray} {B : Nat} (h : RowAt w ao l) (hb : l ≠ [] → ∀ a, ao = some a → a.block < B) (hk : Below B w w') : RowAt w' ao l := by
  by_cases h0 : l = []
  · exact .inl h0
  have hb := hb h0
  rcases h with h | ⟨b, o, rfl, h⟩
  · exact .inl h
  · refine .inr ⟨b, o, rfl, fun i hi => ?_⟩
    rw [hk.cell (p := ⟨b, o + i, none⟩) (hb ⟨b, o, none⟩ rfl)]; exact h i hi
theorem row_mono {w w' : World} {ao : Option Addr} {l : List ByteArray} (hb : Below w.heap.size w w') (h : RowAt w ao l) : RowAt w' ao l := h.keep h.lt hb
theorem RowAt.tail {w : World} {b off : Nat} {l : List ByteArray} (h : RowAt w (some ⟨b, off, none⟩) l) (i : Nat) : RowAt w (some ⟨b, off + i, none⟩) (l.drop i) := by
  rcases h with h | ⟨b', o', e, hc⟩
  · left; subst h; simp
  · cases e
    refine .inr ⟨_, _, rfl, fun j hj => ?_⟩
    rw [List.length_drop] at hj
    rw [Nat.add_assoc, hc (i + j) (by omega)]
    congr 2
    simp [List.getElem?_drop]
theorem RowAt.some {w : World} {ao : Option Addr} {l : List ByteArray} (h : RowAt w ao l) (hl : 0 < l.length) : ∃ b off, ao = some ⟨b, off, none⟩ := by
  rcases h with h | ⟨b, off, e, _⟩
  · subst h; simp at hl
  · exact ⟨b, off, e⟩
/-- A slice of bytes of the call's own, made since block B. -/
def Row (B : Nat) (w : World) (v : Value) (n : Nat) (l : List ByteArray) : Prop := w.ownsRow B 9 1 v n (by8 l)
theorem Row.len {B : Nat} {w : World} {v : Value} {n : Nat} {l : List ByteArray} (h : Row B w v n l) : l.length = n := by have := h.1; simpa using this
theorem Row.nil (B : Nat) (w : World) : Row B w (.slice none 0 0) 0 [] := World.ownsRow_nil w B 9 1
theorem Row.below {B : Nat} {w w' : World} {v : Value} {n : Nat} {l : List ByteArray} (h : Row B w v n l) (hb : Below w.heap.size w w') : Row B w' v n l := own_kept h fun k e => hb.block k (World.ownsRow.lt h k e).2
theorem Row.mono {B B' : Nat} {w : World} {v : Value} {n : Nat} {l : List ByteArray} (h : Row B w v n l) (hb : B' ≤ B) : Row B' w v n l := by
  refine ⟨h.1, ?_⟩
  rcases h.2 with h0 | ⟨g, cap, cur, hv, hg, r⟩
  · exact .inl h0
  · exact .inr ⟨g, cap, cur, hv, Nat.le_trans hb hg, r⟩
theorem Row.form {B : Nat} {w : World} {v : Value} {n : Nat} {l : List ByteArray} (h : Row B w v n l) : ∃ ao cap, v = .slice ao n cap ∧ (ao = none → n = 0 ∧ cap = 0) ∧ n ≤ cap ∧ cap ≤ 9223372036854775807 := by
  rcases h.2 with ⟨rfl, h0⟩ | ⟨g, cap, cur, rfl, _, _, h1, h2, _⟩
  · exact ⟨none, 0, by rw [h0], fun _ => ⟨h0, rfl⟩, by omega, by omega⟩
  · exact ⟨_, _, rfl, (fun e => by cases e), h1, by unfold maxLen at h2; omega⟩
theorem Row.caps {B : Nat} {w : World} {ao : Option Addr} {n cap : Nat} {l : List ByteArray} (h : Row B w (.slice ao n cap) n l) : (ao = none → n = 0 ∧ cap = 0) ∧ n ≤ cap ∧ cap ≤ 9223372036854775807 := by
  obtain ⟨ao', cap', e, h1, h2, h3⟩ := h.form
  cases e; exact ⟨h1, h2, h3⟩
theorem Row.at {B : Nat} {w : World} {ao : Option Addr} {n m cap : Nat} {l : List ByteArray} (h : Row B w (.slice ao m cap) n l) : RowAt w ao l := by
  have hlen := h.len
  rcases h.2 with ⟨e, h0⟩ | ⟨g, cap, cur, e, _, hc, _, _, _, h3⟩
  · left; exact List.length_eq_zero_iff.1 (by omega)
  · cases e
    refine .inr ⟨_, _, rfl, fun i hi => ?_⟩
    rw [Nat.zero_add, cell_of_head hc]
    have : cur.toList[i]? = some (.string (l.getD i ⟨#[]⟩)) := by
      have h4 : (cur.toList.take (n * 1))[i]? = (by8 l)[i]? := by rw [h3]
      rw [List.getElem?_take, if_pos (by omega)] at h4
      rw [h4]; simp [hi]
    simpa using this
theorem Row.blk {B : Nat} {w : World} {v : Value} {n : Nat} {l : List ByteArray} (h : Row B w v n l) : ∀ k, v.ownBlock = some k → B ≤ k := by
  intro k e
  rcases h.2 with ⟨rfl, h0⟩ | ⟨g, cap, cur, rfl, hb, _⟩
  · cases e
  · cases e; exact hb
/-- What append of one row to another makes. -/
theorem app_row {ops : Array Oper} {rest : List Oper} {o : Oper} {a : Act} {w : World} {Q : Exit → Act → World → Prop} {B n1 c1 n2 c2 : Nat} {ao1 ao2 : Option Addr} {l1 l2 : List ByteArray}
    (h1 : Row B w (.slice ao1 n1 c1) n1 l1) (hrow : RowAt w ao2 l2) (hn2 : l2.length = n2) (hnil : ao2 = none → n2 = 0 ∧ c2 = 0) (hBw : B ≤ w.heap.size) (hsmall : n1 + n2 ≤ 1000000)
    (hgd : o.guard = none) (s x : Operand) (ho : o.op = .call { callee := .builtin .append, args := #[s, x], argTypes := #[26, 26] })
    (hs : a.eval s = .slice ao1 n1 c1) (hx : a.eval x = .slice ao2 n2 c2)
    (h : ∀ ao cap w', Row B w' (.slice ao (n1 + n2) cap) (n1 + n2) (l1 ++ l2) → Turned (fun k => (Value.slice ao1 n1 c1).ownBlock = some k) w w' → wpList Try.prog ops Q rest (a.put o.dst (.slice ao (n1 + n2) cap)) w') :
    wpList Try.prog ops Q (o :: rest) a w := by
  obtain ⟨i0, hi, hz0, hz1, hz2⟩ := info_parts Try.info9
  cases ao2 with
  | none =>
    obtain ⟨rfl, rfl⟩ := hnil rfl
    have e2 : l2 = [] := List.length_eq_zero_iff.1 hn2
    subst e2
    refine wpList_append_own_none hgd s x 26 ho B 9 i0 1 Try.underlying26 hi _ n1 (by8 l1) hs h1 hx ?_
    exact h ao1 c1 w (by rw [List.append_nil]; exact h1) (Turned.refl _ _)
  | some ad =>
    have hnews : ∀ j u, (by8 l2)[j]? = some u → w.cell? (ad.add j) = some u := by
      intro j u hj
      rcases hrow with h0 | ⟨b, off, he, hc⟩
      · subst h0; simp at hj
      · simp only [Option.some.injEq] at he
        subst he
        have hlt : j < l2.length := by
          have := (List.getElem?_eq_some_iff.1 hj).1
          simpa using this
        rw [Addr.add_mid, hc j hlt]
        simp [List.getElem?_eq_getElem hlt] at hj
        rw [← hj]
        simp [hlt]
    refine wpList_append_own w hgd s x 26 ho B 9 i0 (.string ⟨#[]⟩) 1 16 Try.underlying26 hi hz0 hz1 hz2 rfl (by decide) _ n1 (by8 l1) hs h1
      ad n2 c2 (by8 l2) hx (by simp [hn2]) hnews (one8 l2) (by unfold maxLen; omega) (by omega) hBw ?_
    intro v' w' hown' hgrow _
    have hR : Row B w' v' (n1 + n2) (l1 ++ l2) := by unfold Row; rw [by8, List.map_append]; exact hown'
    obtain ⟨ao, cap, rfl, _⟩ := hR.form
    exact h ao cap w' hR (Turned.grown hgrow (fun k e => e))
/-- A new block of bytes. -/
theorem row_new (w : World) (l : List ByteArray) (n : Nat) (hn : l.length = n) (hm : n ≤ 1000000) : Row w.heap.size (w.alloc (.cells (cellsOf l) 9)) (.slice (some ⟨w.heap.size, 0, none⟩) n n) n l :=
  ⟨by simp [hn], .inr ⟨w.heap.size, n, cellsOf l, rfl, Nat.le_refl _, heap_alloc_new _ _, Nat.le_refl _, by unfold maxLen; omega, by rw [cells_size]; omega, by rw [cells_toList]; exact List.take_of_length_le (by simp [hn])⟩⟩
theorem app_row_step {ops : Array Oper} {o : Oper} {a : Act} {w : World} {K : Act → World → Prop} {Q : Exit → Act → World → Prop} {E : Prop} {B n1 c1 n2 c2 : Nat} {ao1 : Option Addr} {ad : Addr} {l1 l2 : List ByteArray}
    (h1 : Row B w (.slice ao1 n1 c1) n1 l1) (hrow : RowAt w (some ad) l2) (hn2 : l2.length = n2) (hBw : B ≤ w.heap.size) (hsmall : n1 + n2 ≤ 1000000)
    (hgd : o.guard = none) (s x : Operand) (ho : o.op = .call { callee := .builtin .append, args := #[s, x], argTypes := #[26, 26] })
    (hs : a.eval s = .slice ao1 n1 c1) (hx : a.eval x = .slice (some ad) n2 c2)
    (h : ∀ ao cap w', Row B w' (.slice ao (n1 + n2) cap) (n1 + n2) (l1 ++ l2) → Turned (fun k => (Value.slice ao1 n1 c1).ownBlock = some k) w w' → K (a.put o.dst (.slice ao (n1 + n2) cap)) w') :
    if Region.wanted o (yielded ops a.tmps) = true then Oper.wp Try.prog o a w K Q else E := by
  rw [if_pos (wanted_none hgd)]
  obtain ⟨i0, hi, hz0, hz1, hz2⟩ := info_parts Try.info9
  have hnews : ∀ j u, (by8 l2)[j]? = some u → w.cell? (ad.add j) = some u := by
    intro j u hj
    rcases hrow with h0 | ⟨b, off, he, hc⟩
    · subst h0; simp at hj
    · simp only [Option.some.injEq] at he
      subst he
      have hlt : j < l2.length := by
        have := (List.getElem?_eq_some_iff.1 hj).1
        simpa using this
      rw [Addr.add_mid, hc j hlt]
      simp [List.getElem?_eq_getElem hlt] at hj
      rw [← hj]
      simp [hlt]
  refine wp_append_own w s x 26 ho B 9 i0 (.string ⟨#[]⟩) 1 16 Try.underlying26 hi hz0 hz1 hz2 rfl (by decide) _ n1 (by8 l1) hs h1
    ad n2 c2 (by8 l2) hx (by simp [hn2]) hnews (one8 l2) (by unfold maxLen; omega) (by omega) hBw ?_
  intro v' w' hown' hgrow _
  have hR : Row B w' v' (n1 + n2) (l1 ++ l2) := by unfold Row; rw [by8, List.map_append]; exact hown'
  obtain ⟨ao, cap, rfl, _⟩ := hR.form
  exact h ao cap w' hR (Turned.grown hgrow (fun k e => e))
/-- Since W0 the row v was made; all else that was there is as it was. -/
def Mk (W0 w : World) (v : Value) (n : Nat) (l : List ByteArray) : Prop := Row W0.heap.size w v n l ∧ Below W0.heap.size W0 w
theorem Mk.nil (W0 : World) : Mk W0 W0 (.slice none 0 0) 0 [] := ⟨Row.nil _ _, Below.refl _ _⟩
theorem Mk.bel {W0 w : World} {v : Value} {n : Nat} {l : List ByteArray} (h : Mk W0 w v n l) : Below W0.heap.size W0 w := h.2
theorem Mk.more {W0 w w' : World} {v : Value} {n : Nat} {l : List ByteArray} (h : Mk W0 w v n l) (hb : Below w.heap.size w w') : Mk W0 w' v n l := ⟨h.1.below hb, sq h.2 hb⟩
theorem Mk.next {W0 w w' : World} {ao1 ao : Option Addr} {n1 c1 n cap : Nat} {l1 l : List ByteArray} (h : Mk W0 w (.slice ao1 n1 c1) n1 l1) (hr : Row W0.heap.size w' (.slice ao n cap) n l) (ht : Turned (fun k => (Value.slice ao1 n1 c1).ownBlock = some k) w w') : Mk W0 w' (.slice ao n cap) n l :=
  ⟨hr, h.2.trans (ht.below (fun k e => h.1.blk k e) h.2.size)⟩
theorem Mk.new (w : World) (l : List ByteArray) (n : Nat) (hn : l.length = n) (hm : n ≤ 1000000) : Mk w (w.alloc (.cells (cellsOf l) 9)) (.slice (some ⟨w.heap.size, 0, none⟩) n n) n l := ⟨row_new w l n hn hm, bel1 _ _⟩
/-- A slice of bytes that is handed to a call. -/
structure Given (w : World) (ao : Option Addr) (len cap : Nat) (zs : List ByteArray) : Prop where
  leq : zs.length = len
  byt : Txt zs
  row : RowAt w ao zs
  cap1 : len ≤ cap
  cap2 : cap ≤ 9223372036854775807
theorem Given.below {w w' : World} {ao : Option Addr} {len cap : Nat} {zs : List ByteArray} (h : Given w ao len cap zs) (hb : Below w.heap.size w w') : Given w' ao len cap zs := ⟨h.leq, h.byt, row_mono hb h.row, h.cap1, h.cap2⟩
theorem Mk.given {W0 w : World} {ao : Option Addr} {n cap : Nat} {l : List ByteArray} (h : Mk W0 w (.slice ao n cap) n l) (hb : Txt l) : Given w ao n cap l :=
  ⟨h.1.len, hb, h.1.at, h.1.caps.2.1, h.1.caps.2.2⟩
theorem Given.new (w : World) (l : List ByteArray) (n : Nat) (hn : l.length = n) (hm : n ≤ 1000000) (hb : Txt l) : Given (w.alloc (.cells (cellsOf l) 9)) (some ⟨w.heap.size, 0, none⟩) n n l := (Mk.new w l n hn hm).given hb
/-- A slice of texts that came in. -/
structure InT (W : World) (a : Option Addr) (len cap : Nat) (l : List ByteArray) : Prop where
  giv : Given W a len cap l
  nil : a = none → len = 0 ∧ cap = 0
section
variable {H : Type} {enc : TypeId × Value → H} {W : World} {n : Nat} {v : Value} {d : DataW H} {p : List MemPlace}
theorem open_inT (h : DataW.trod enc Try.prog W 0 (fun _ => true) true n 26 [v] = some (d, p)) : ∃ a len cap l, v = .slice a len cap ∧ InT W a len cap l := by
  rcases Deep.open_strs Try.underlying26 Try.underlying9 (by kernel_rfl) h with ⟨hcs, _⟩ | ⟨a, len, cap, m, Sx, hcs, _, hl, hm, hmm, _, hel⟩
  · simp at hcs; subst hcs
    exact ⟨none, 0, 0, [], rfl, ⟨rfl, fun z hz => by simp at hz, .inl rfl, by omega, by omega⟩, fun _ => ⟨rfl, rfl⟩⟩
  · simp at hcs; subst hcs
    have hmc : m = cap := by simpa using hmm
    have hlen : ((List.range len).map Sx).length = len := by simp
    refine ⟨some a, len, cap, (List.range len).map Sx, rfl, ⟨hlen, fun s hs => ?_, ?_, hl, by unfold maxLen at hm; omega⟩, fun e => by cases e⟩
    · simp at hs
      obtain ⟨i, hi, rfl⟩ := hs
      have := (hel i (by omega)).2
      unfold maxLen at this; omega
    · by_cases h0 : len = 0
      · subst h0; exact .inl (by simp)
      · obtain ⟨b, off, spot⟩ := a
        have hc := (hel 0 (by omega)).1
        have hspot : spot = none := by simpa [Addr.add] using World.cell?_spot hc
        subst hspot
        refine .inr ⟨b, off, rfl, fun i hi => ?_⟩
        have := (hel i (by omega)).1
        rw [Addr.add_mid] at this
        rw [this]
        have h1 : i < len := by simpa using hi
        simp [h1]
end
end T
end Go.Proofs.Ytnahbfnchopghaa
