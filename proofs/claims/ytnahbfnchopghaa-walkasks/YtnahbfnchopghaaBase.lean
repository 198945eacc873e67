/- Rows of bytes and texts in memory; what append makes of them. No function is walked. -/
import Derived.Test.YtnahbfnchopghaaRows
import Derived.Laws.BytesArg
import Derived.Laws.BitsLemmas
import Derived.Laws.Bits64
import Derived.Deep.OwnRows
import Derived.WalkKit
import Derived.ProofKit
import Derived.OpenShut
import Derived.ChangeMaps5
import Derived.WalkSpells
import Derived.WalkLawsBesides
import Derived.Below
import Derived.Laws.Externs
import Derived.Laws.DeepStrings4
import Derived.Deep.RegionHeld3
import Derived.Deep.RegionWith
import Derived.BigRegion
import Derived.RegionTactic
import Derived.Deep.AppendLies
import Derived.Deep.MidRow
import Derived.Laws.MakeOwn
import Derived.Laws.OwnMore
import Derived.Laws.AppendOwnNone
import Derived.Lib.AppendStr
import Derived.Lib.SlBytesConst
import Derived.Laws.IdiomStrings
import Derived.ShutString
import Derived.Deep.Cut
namespace Go.Proofs.Ytnahbfnchopghaa
open Go.ChangeShapes Go.WideShapes Go.ChangeAt Go.RowKit

theorem two_pow_pos (n : Nat) : (0 : Int) < 2 ^ n := by
  have := Nat.two_pow_pos n
  exact_mod_cast this
/-- Each is a byte. -/
def Byt (l : List Int) : Prop := ∀ x ∈ l, 0 ≤ x ∧ x < 256
theorem take_snocI (zs : List Int) (k : Nat) (h : k < zs.length) : zs.take (k + 1) = zs.take k ++ [zs.getD k 0] := by
  rw [List.take_succ_eq_append_getElem h]; simp [h]
theorem byt_take {zs : List Int} (h : Byt zs) (k : Nat) : Byt (zs.take k) := fun x hx => h x (List.mem_of_mem_take hx)
theorem byt_drop {zs : List Int} (h : Byt zs) (k : Nat) : Byt (zs.drop k) := fun x hx => h x (List.mem_of_mem_drop hx)
theorem byt_getD {zs : List Int} (h : Byt zs) (k : Nat) : 0 ≤ zs.getD k 0 ∧ zs.getD k 0 < 256 := by
  by_cases hk : k < zs.length
  · have : zs.getD k 0 = zs[k] := by simp [hk]
    rw [this]; exact h _ (List.getElem_mem hk)
  · simp [hk]
def cellsOf (l : List Int) : Array Value := (l.map (Value.int .u8)).toArray
theorem cells_size (l : List Int) : (cellsOf l).size = l.length := by simp [cellsOf]
def digB (l : List UInt8) : Bool := l.all fun c => decide (48 ≤ (c.toNat : Int) ∧ (c.toNat : Int) ≤ 57)
def panL (s : ByteArray) : List Int := s.data.toList.map fun b => (b.toNat : Int)
theorem panL_len (s : ByteArray) : (panL s).length = s.size := by simp [panL]
theorem panL_byt (s : ByteArray) : Byt (panL s) := by
  intro x hx; simp [panL] at hx; obtain ⟨b, _, rfl⟩ := hx
  have := b.toNat_lt; omega
theorem str_panL (s : ByteArray) : strOfNums (panL s) = s := by
  simp [strOfNums, panL, Function.comp_def]
theorem byt_app {a b : List Int} (ha : Byt a) (hb : Byt b) : Byt (a ++ b) := by
  intro x hx; rcases List.mem_append.1 hx with h | h
  · exact ha x h
  · exact hb x h
def pc (x : List Int) (i m : Nat) : List Int := (x.drop i).take m
theorem hid {p : Prop} (h : p) : Hid p := h
theorem ret_int {k : IntKind} {a b : Int} (h : a = b) : Ending.returned (.int k a) = .returned (.int k b) := by rw [h]
theorem ret_bool {a b : Bool} (h : a = b) : Ending.returned (.bool a) = .returned (.bool b) := by rw [h]
theorem ret_int_bool {k : IntKind} {a b : Int} {c d : Bool} (h : a = b) (g : c = d) : Ending.returned (.tuple #[.int k a, .bool c]) = .returned (.tuple #[.int k b, .bool d]) := by rw [h, g]
theorem Try.info5 : (Try.prog.info? 5).map (fun i => (i.zero, i.size, i.bytes)) = some (some (.int .u8 0), 1, 1) := by kernel_rfl
theorem sq {w w1 w2 : World} (h : Below w.heap.size w w1) (k : Below w1.heap.size w1 w2) : Below w.heap.size w w2 := h.trans (k.mono h.size)
theorem bel1 (w : World) (o : Obj) : Below w.heap.size w (w.alloc o) := (Below.refl _ _).alloc (Nat.le_refl _) o
abbrev by8 (s : List Int) : List Value := s.map (Value.int .u8)
theorem one8 (s : List Int) : ∀ u ∈ by8 s, u.oneCell' = true := by
  intro u hu; simp at hu; obtain ⟨z, _, rfl⟩ := hu; rfl
theorem cells_toList (l : List Int) : (cellsOf l).toList = by8 l := by simp [cellsOf]
/-- In this world the address leads to the bytes 'zs' (or there are none). -/
def RowAt (w : World) (ao : Option Addr) (zs : List Int) : Prop :=
  zs = [] ∨ ∃ b off, ao = some ⟨b, off, none⟩ ∧ ∀ i, i < zs.length → w.cell? ⟨b, off + i, none⟩ = some (.int .u8 (zs.getD i 0))
/-- .. in memory that was there. -/
def Lo (w : World) (B : Nat) (ao : Option Addr) (zs : List Int) : Prop := RowAt w ao zs ∧ (zs ≠ [] → ∀ a, ao = some a → a.block < B)
theorem RowAt.nil (w : World) (ao : Option Addr) : RowAt w ao [] := .inl rfl
theorem RowAt.lt {w : World} {ao : Option Addr} {l : List Int} (h : RowAt w ao l) (hl : l ≠ []) : ∀ a, ao = some a → a.block < w.heap.size := by
  rcases h with h | ⟨b, off, rfl, hc⟩
  · exact absurd h hl
  · intro a e; cases e
    have : 0 < l.length := List.length_pos_iff.2 hl
    exact World.block_lt_of_cell? w ⟨b, off + 0, none⟩ (hc 0 this)
theorem RowAt.keep {w w' : World} {ao : Option Addr} {l : List Int} {B : Nat} (h : RowAt w ao l) (hb : l ≠ [] → ∀ a, ao = some a → a.block < B) (hk : Below B w w') : RowAt w' ao l := by
  by_cases h0 : l = []
  · exact .inl h0
  have hb := hb h0
  rcases h with h | ⟨b, o, rfl, h⟩
  · exact .inl h
  · refine .inr ⟨b, o, rfl, fun i hi => ?_⟩
    rw [hk.cell (p := ⟨b, o + i, none⟩) (hb ⟨b, o, none⟩ rfl)]; exact h i hi
theorem row_mono {w w' : World} {ao : Option Addr} {l : List Int} (hb : Below w.heap.size w w') (h : RowAt w ao l) : RowAt w' ao l := h.keep h.lt hb
/-- A piece of a row. -/
theorem RowAt.piece {w : World} {b off : Nat} {l : List Int} (h : RowAt w (some ⟨b, off, none⟩) l) (i m : Nat) (hi : i + m ≤ l.length) : RowAt w (some ⟨b, off + i, none⟩) (pc l i m) := by
  rcases h with h | ⟨b', o', e, hc⟩
  · left; subst h; simp [pc]
  · cases e
    refine .inr ⟨_, _, rfl, fun j hj => ?_⟩
    have hj' : j < m := by simp [pc] at hj; omega
    rw [Nat.add_assoc, hc (i + j) (by omega)]
    congr 2
    simp [pc, hj', List.getElem?_drop]
theorem RowAt.tail {w : World} {b off : Nat} {l : List Int} (h : RowAt w (some ⟨b, off, none⟩) l) (i : Nat) : RowAt w (some ⟨b, off + i, none⟩) (l.drop i) := by
  rcases h with h | ⟨b', o', e, hc⟩
  · left; subst h; simp
  · cases e
    refine .inr ⟨_, _, rfl, fun j hj => ?_⟩
    rw [List.length_drop] at hj
    rw [Nat.add_assoc, hc (i + j) (by omega)]
    congr 2
    simp [List.getElem?_drop]
theorem RowAt.some {w : World} {ao : Option Addr} {l : List Int} (h : RowAt w ao l) (hl : 0 < l.length) : ∃ b off, ao = some ⟨b, off, none⟩ := by
  rcases h with h | ⟨b, off, e, _⟩
  · subst h; simp at hl
  · exact ⟨b, off, e⟩
/-- Of what was there, only blocks in F have turned. -/
structure Turned (F : Nat → Prop) (w w' : World) : Prop where
  os : w'.os = w.os
  tape : w'.tape = w.tape
  output : w'.output = w.output
  size : w.heap.size ≤ w'.heap.size
  block : ∀ k, k < w.heap.size → ¬ F k → w'.heap[k]? = w.heap[k]?
theorem Turned.refl (F : Nat → Prop) (w : World) : Turned F w w := ⟨rfl, rfl, rfl, Nat.le_refl _, fun _ _ _ => rfl⟩
theorem Turned.below {B : Nat} {F : Nat → Prop} {w w' : World} (h : Turned F w w') (hF : ∀ k, F k → B ≤ k) (hB : B ≤ w.heap.size) : Below B w w' :=
  ⟨h.os, h.tape, h.output, h.size, fun k hk => h.block k (by omega) (fun f => by have := hF k f; omega)⟩
theorem Turned.of_below {F : Nat → Prop} {w w' : World} (h : Below w.heap.size w w') : Turned F w w' := ⟨h.os, h.tape, h.output, h.size, fun k hk _ => h.block k hk⟩
theorem Turned.grown {F : Nat → Prop} {w w' : World} {row : Option Nat} (h : w.grownBy w' row) (hr : ∀ k, row = some k → F k) : Turned F w w' :=
  ⟨h.os, h.tape, h.output, h.size, fun k hk hn => h.block k hk (fun e => hn (hr k e.symm))⟩
theorem own_kept {w w' : World} {b : Nat} {e : TypeId} {size : Nat} {v : Value} {n : Nat} {xs : List Value} (h : w.ownsRow b e size v n xs)
    (hk : ∀ k, v.ownBlock = some k → w'.heap[k]? = w.heap[k]?) : w'.ownsRow b e size v n xs := by
  refine ⟨h.1, ?_⟩
  rcases h.2 with h0 | ⟨g, cap, cur, rfl, hg, hc, r⟩
  · exact .inl h0
  · exact .inr ⟨g, cap, cur, rfl, hg, (hk g rfl).trans hc, r⟩
theorem cell_of_head {w : World} {p : Nat} {c : Array Value} {t : TypeId} (h : w.heap[p]? = some (.cells c t (0, 0))) (i : Nat) : w.cell? ⟨p, i, none⟩ = c[i]? := by
  simp [World.cell?, h]
theorem froz_of_head {w : World} {p : Nat} {c : Array Value} {t : TypeId} (h : w.heap[p]? = some (.cells c t (0, 0))) (i : Nat) : w.frozen? ⟨p, i, none⟩ = false := by
  simp [World.frozen?, h]
/-- A slice of bytes of the call's own, made since block B. -/
def Row (B : Nat) (w : World) (v : Value) (n : Nat) (l : List Int) : Prop := w.ownsRow B 5 1 v n (by8 l)
theorem Row.len {B : Nat} {w : World} {v : Value} {n : Nat} {l : List Int} (h : Row B w v n l) : l.length = n := by have := h.1; simpa using this
theorem Row.nil (B : Nat) (w : World) : Row B w (.slice none 0 0) 0 [] := World.ownsRow_nil w B 5 1
theorem Row.below {B : Nat} {w w' : World} {v : Value} {n : Nat} {l : List Int} (h : Row B w v n l) (hb : Below w.heap.size w w') : Row B w' v n l := own_kept h fun k e => hb.block k (World.ownsRow.lt h k e).2
theorem Row.mono {B B' : Nat} {w : World} {v : Value} {n : Nat} {l : List Int} (h : Row B w v n l) (hb : B' ≤ B) : Row B' w v n l := by
  refine ⟨h.1, ?_⟩
  rcases h.2 with h0 | ⟨g, cap, cur, hv, hg, r⟩
  · exact .inl h0
  · exact .inr ⟨g, cap, cur, hv, Nat.le_trans hb hg, r⟩
theorem Row.form {B : Nat} {w : World} {v : Value} {n : Nat} {l : List Int} (h : Row B w v n l) : ∃ ao cap, v = .slice ao n cap ∧ (ao = none → n = 0 ∧ cap = 0) ∧ n ≤ cap ∧ cap ≤ 9223372036854775807 := by
  rcases h.2 with ⟨rfl, h0⟩ | ⟨g, cap, cur, rfl, _, _, h1, h2, _⟩
  · exact ⟨none, 0, by rw [h0], fun _ => ⟨h0, rfl⟩, by omega, by omega⟩
  · exact ⟨_, _, rfl, (fun e => by cases e), h1, by unfold maxLen at h2; omega⟩
theorem Row.caps {B : Nat} {w : World} {ao : Option Addr} {n cap : Nat} {l : List Int} (h : Row B w (.slice ao n cap) n l) : (ao = none → n = 0 ∧ cap = 0) ∧ n ≤ cap ∧ cap ≤ 9223372036854775807 := by
  obtain ⟨ao', cap', e, h1, h2, h3⟩ := h.form
  cases e; exact ⟨h1, h2, h3⟩
theorem Row.at {B : Nat} {w : World} {ao : Option Addr} {n m cap : Nat} {l : List Int} (h : Row B w (.slice ao m cap) n l) : RowAt w ao l := by
  have hlen := h.len
  rcases h.2 with ⟨e, h0⟩ | ⟨g, cap, cur, e, _, hc, _, _, _, h3⟩
  · left; exact List.length_eq_zero_iff.1 (by omega)
  · cases e
    refine .inr ⟨_, _, rfl, fun i hi => ?_⟩
    rw [Nat.zero_add, cell_of_head hc]
    have : cur.toList[i]? = some (.int .u8 (l.getD i 0)) := by
      have h4 : (cur.toList.take (n * 1))[i]? = (by8 l)[i]? := by rw [h3]
      rw [List.getElem?_take, if_pos (by omega)] at h4
      rw [h4]; simp [hi]
    simpa using this
theorem Row.blk {B : Nat} {w : World} {v : Value} {n : Nat} {l : List Int} (h : Row B w v n l) : ∀ k, v.ownBlock = some k → B ≤ k := by
  intro k e
  rcases h.2 with ⟨rfl, h0⟩ | ⟨g, cap, cur, rfl, hb, _⟩
  · cases e
  · cases e; exact hb
/-- What append of one row to another makes. -/
theorem app_row {ops : Array Oper} {rest : List Oper} {o : Oper} {a : Act} {w : World} {Q : Exit → Act → World → Prop} {B n1 c1 n2 c2 : Nat} {ao1 ao2 : Option Addr} {l1 l2 : List Int}
    (h1 : Row B w (.slice ao1 n1 c1) n1 l1) (hrow : RowAt w ao2 l2) (hn2 : l2.length = n2) (hnil : ao2 = none → n2 = 0 ∧ c2 = 0) (hBw : B ≤ w.heap.size) (hsmall : n1 + n2 ≤ 1000000)
    (hgd : o.guard = none) (s x : Operand) (ho : o.op = .call { callee := .builtin .append, args := #[s, x], argTypes := #[24, 24] })
    (hs : a.eval s = .slice ao1 n1 c1) (hx : a.eval x = .slice ao2 n2 c2)
    (h : ∀ ao cap w', Row B w' (.slice ao (n1 + n2) cap) (n1 + n2) (l1 ++ l2) → Turned (fun k => (Value.slice ao1 n1 c1).ownBlock = some k) w w' → wpList Try.prog ops Q rest (a.put o.dst (.slice ao (n1 + n2) cap)) w') :
    wpList Try.prog ops Q (o :: rest) a w := by
  obtain ⟨i0, hi, hz0, hz1, hz2⟩ := info_parts Try.info5
  cases ao2 with
  | none =>
    obtain ⟨rfl, rfl⟩ := hnil rfl
    have e2 : l2 = [] := List.length_eq_zero_iff.1 hn2
    subst e2
    refine wpList_append_own_none hgd s x 24 ho B 5 i0 1 Try.underlying24 hi _ n1 (by8 l1) hs h1 hx ?_
    exact h ao1 c1 w (by rw [List.append_nil]; exact h1) (Turned.refl _ _)
  | some ad =>
    have hnews : ∀ j u, (by8 l2)[j]? = some u → w.cell? (ad.add j) = some u := by
      intro j u hj
      rcases hrow with h0 | ⟨b, off, he, hc⟩
      · subst h0; simp at hj
      · simp only [Option.some.injEq] at he
        subst he
        have hlt : j < l2.length := by
          have := (List.getElem?_eq_some_iff.1 hj).1
          simpa using this
        rw [Addr.add_mid, hc j hlt]
        simp [List.getElem?_eq_getElem hlt] at hj
        rw [← hj]
        simp [hlt]
    refine wpList_append_own w hgd s x 24 ho B 5 i0 (.int .u8 0) 1 1 Try.underlying24 hi hz0 hz1 hz2 rfl (by decide) _ n1 (by8 l1) hs h1
      ad n2 c2 (by8 l2) hx (by simp [hn2]) hnews (one8 l2) (by unfold maxLen; omega) (by omega) hBw ?_
    intro v' w' hown' hgrow _
    have hR : Row B w' v' (n1 + n2) (l1 ++ l2) := by unfold Row; rw [by8, List.map_append]; exact hown'
    obtain ⟨ao, cap, rfl, _⟩ := hR.form
    exact h ao cap w' hR (Turned.grown hgrow (fun k e => e))
theorem strCells_by8 (s : ByteArray) : Go.Lib.strCells s = by8 (panL s) := by
  simp [Go.Lib.strCells, panL, Function.comp_def]
/-- .. of a string. -/
theorem app_text {ops : Array Oper} {rest : List Oper} {o : Oper} {a : Act} {w : World} {Q : Exit → Act → World → Prop} {B n1 c1 : Nat} {ao1 : Option Addr} {l1 : List Int} {t : ByteArray}
    (h1 : Row B w (.slice ao1 n1 c1) n1 l1) (hBw : B ≤ w.heap.size) (hsmall : n1 + t.size ≤ 1000000)
    (hgd : o.guard = none) (s x : Operand) (ho : o.op = .call { callee := .builtin .append, args := #[s, x], argTypes := #[24, 9] })
    (hs : a.eval s = .slice ao1 n1 c1) (hx : a.eval x = .string t)
    (h : ∀ ao cap w', Row B w' (.slice ao (n1 + t.size) cap) (n1 + t.size) (l1 ++ panL t) → Turned (fun k => (Value.slice ao1 n1 c1).ownBlock = some k) w w' → wpList Try.prog ops Q rest (a.put o.dst (.slice ao (n1 + t.size) cap)) w') :
    wpList Try.prog ops Q (o :: rest) a w := by
  obtain ⟨i0, hi, hz0, hz1, hz2⟩ := info_parts Try.info5
  refine Go.Lib.wpList_append_own_string w hgd s x 24 9 ho B 5 i0 Try.underlying24 Try.underlying9 hi hz0 hz1 hz2 _ n1 (by8 l1) hs h1 t hx (by unfold maxLen; omega) (by omega) hBw ?_
  intro v' w' hown' hgrow _
  have hR : Row B w' v' (n1 + t.size) (l1 ++ panL t) := by unfold Row; rw [by8, List.map_append, ← by8, ← by8, ← strCells_by8]; exact hown'
  obtain ⟨ao, cap, rfl, _⟩ := hR.form
  exact h ao cap w' hR (Turned.grown hgrow (fun k e => e))
/-- A new block of bytes. -/
theorem row_new (w : World) (l : List Int) (n : Nat) (hn : l.length = n) (hm : n ≤ 1000000) : Row w.heap.size (w.alloc (.cells (cellsOf l) 5)) (.slice (some ⟨w.heap.size, 0, none⟩) n n) n l :=
  ⟨by simp [hn], .inr ⟨w.heap.size, n, cellsOf l, rfl, Nat.le_refl _, heap_alloc_new _ _, Nat.le_refl _, by unfold maxLen; omega, by rw [cells_size]; omega, by rw [cells_toList]; exact List.take_of_length_le (by simp [hn])⟩⟩
/-- string(b) of a row of bytes. -/
theorem run_str (w : World) (ao : Option Addr) (zs : List Int) (len cap : Nat) (hl : zs.length = len) (hr : RowAt w ao zs) :
    (convert 24 9 (.slice ao len cap)).run Try.prog w = .ok (.string (strOfNums zs)) w := by
  subst hl
  rcases hr with rfl | ⟨b, off, rfl, hc⟩
  · cases ao with
    | none => exact run_convert_bytes_nil w 24 5 Try.underlying24 Try.underlying5 _ _ 9 Try.underlying9
    | some a => exact run_convert_bytes_back w 24 9 5 a cap [] Try.underlying24 Try.underlying5 Try.underlying9 (fun j hj => by simp at hj)
  · exact run_convert_bytes_arg w 24 5 Try.underlying24 Try.underlying5 b off zs.length cap zs rfl hc 9 Try.underlying9
theorem wanted_none {o : Oper} {ops : Array Oper} {t : Array Value} (h : o.guard = none) : Region.wanted o (yielded ops t) = true := by simp [Region.wanted, h]
theorem app_row_step {ops : Array Oper} {o : Oper} {a : Act} {w : World} {K : Act → World → Prop} {Q : Exit → Act → World → Prop} {E : Prop} {B n1 c1 n2 c2 : Nat} {ao1 : Option Addr} {ad : Addr} {l1 l2 : List Int}
    (h1 : Row B w (.slice ao1 n1 c1) n1 l1) (hrow : RowAt w (some ad) l2) (hn2 : l2.length = n2) (hBw : B ≤ w.heap.size) (hsmall : n1 + n2 ≤ 1000000)
    (hgd : o.guard = none) (s x : Operand) (ho : o.op = .call { callee := .builtin .append, args := #[s, x], argTypes := #[24, 24] })
    (hs : a.eval s = .slice ao1 n1 c1) (hx : a.eval x = .slice (some ad) n2 c2)
    (h : ∀ ao cap w', Row B w' (.slice ao (n1 + n2) cap) (n1 + n2) (l1 ++ l2) → Turned (fun k => (Value.slice ao1 n1 c1).ownBlock = some k) w w' → K (a.put o.dst (.slice ao (n1 + n2) cap)) w') :
    if Region.wanted o (yielded ops a.tmps) = true then Oper.wp Try.prog o a w K Q else E := by
  rw [if_pos (wanted_none hgd)]
  obtain ⟨i0, hi, hz0, hz1, hz2⟩ := info_parts Try.info5
  have hnews : ∀ j u, (by8 l2)[j]? = some u → w.cell? (ad.add j) = some u := by
    intro j u hj
    rcases hrow with h0 | ⟨b, off, he, hc⟩
    · subst h0; simp at hj
    · simp only [Option.some.injEq] at he
      subst he
      have hlt : j < l2.length := by
        have := (List.getElem?_eq_some_iff.1 hj).1
        simpa using this
      rw [Addr.add_mid, hc j hlt]
      simp [List.getElem?_eq_getElem hlt] at hj
      rw [← hj]
      simp [hlt]
  refine wp_append_own w s x 24 ho B 5 i0 (.int .u8 0) 1 1 Try.underlying24 hi hz0 hz1 hz2 rfl (by decide) _ n1 (by8 l1) hs h1
    ad n2 c2 (by8 l2) hx (by simp [hn2]) hnews (one8 l2) (by unfold maxLen; omega) (by omega) hBw ?_
  intro v' w' hown' hgrow _
  have hR : Row B w' v' (n1 + n2) (l1 ++ l2) := by unfold Row; rw [by8, List.map_append]; exact hown'
  obtain ⟨ao, cap, rfl, _⟩ := hR.form
  exact h ao cap w' hR (Turned.grown hgrow (fun k e => e))
theorem app_text_step {ops : Array Oper} {o : Oper} {a : Act} {w : World} {K : Act → World → Prop} {Q : Exit → Act → World → Prop} {E : Prop} {B n1 c1 : Nat} {ao1 : Option Addr} {l1 : List Int} {t : ByteArray}
    (h1 : Row B w (.slice ao1 n1 c1) n1 l1) (hBw : B ≤ w.heap.size) (hsmall : n1 + t.size ≤ 1000000)
    (hgd : o.guard = none) (s x : Operand) (ho : o.op = .call { callee := .builtin .append, args := #[s, x], argTypes := #[24, 9] })
    (hs : a.eval s = .slice ao1 n1 c1) (hx : a.eval x = .string t)
    (h : ∀ ao cap w', Row B w' (.slice ao (n1 + t.size) cap) (n1 + t.size) (l1 ++ panL t) → Turned (fun k => (Value.slice ao1 n1 c1).ownBlock = some k) w w' → K (a.put o.dst (.slice ao (n1 + t.size) cap)) w') :
    if Region.wanted o (yielded ops a.tmps) = true then Oper.wp Try.prog o a w K Q else E := by
  rw [if_pos (wanted_none hgd)]
  obtain ⟨i0, hi, hz0, hz1, hz2⟩ := info_parts Try.info5
  obtain ⟨v', w', hr, h2, h3, _⟩ := Go.Lib.run_append_own_string (P := Try.prog) w B 24 9 o.type 5 i0 Try.underlying24 Try.underlying9 hi hz0 hz1 hz2 _ n1 (by8 l1) h1 t (by unfold maxLen; omega) (by omega) hBw
  have hR : Row B w' v' (n1 + t.size) (l1 ++ panL t) := by unfold Row; rw [by8, List.map_append, ← by8, ← by8, ← strCells_by8]; exact h2
  obtain ⟨ao, cap, rfl, _⟩ := hR.form
  unfold Oper.wp execOp
  simp only [ho, resolve, invoke, builtin, Sem.run_bind, Sem.run_pure, Result.andThen_ok, List.map_toArray, List.map_cons, List.map_nil, hs, hx, hr]
  exact h ao cap w' hR (Turned.grown h3 (fun k e => e))
/-- Since W0 the row v was made; all else that was there is as it was. -/
def Mk (W0 w : World) (v : Value) (n : Nat) (l : List Int) : Prop := Row W0.heap.size w v n l ∧ Below W0.heap.size W0 w
theorem Mk.nil (W0 : World) : Mk W0 W0 (.slice none 0 0) 0 [] := ⟨Row.nil _ _, Below.refl _ _⟩
theorem Mk.bel {W0 w : World} {v : Value} {n : Nat} {l : List Int} (h : Mk W0 w v n l) : Below W0.heap.size W0 w := h.2
theorem Mk.more {W0 w w' : World} {v : Value} {n : Nat} {l : List Int} (h : Mk W0 w v n l) (hb : Below w.heap.size w w') : Mk W0 w' v n l := ⟨h.1.below hb, sq h.2 hb⟩
theorem Mk.next {W0 w w' : World} {ao1 ao : Option Addr} {n1 c1 n cap : Nat} {l1 l : List Int} (h : Mk W0 w (.slice ao1 n1 c1) n1 l1) (hr : Row W0.heap.size w' (.slice ao n cap) n l) (ht : Turned (fun k => (Value.slice ao1 n1 c1).ownBlock = some k) w w') : Mk W0 w' (.slice ao n cap) n l :=
  ⟨hr, h.2.trans (ht.below (fun k e => h.1.blk k e) h.2.size)⟩
theorem Mk.new (w : World) (l : List Int) (n : Nat) (hn : l.length = n) (hm : n ≤ 1000000) : Mk w (w.alloc (.cells (cellsOf l) 5)) (.slice (some ⟨w.heap.size, 0, none⟩) n n) n l := ⟨row_new w l n hn hm, bel1 _ _⟩
/-- A slice of bytes that is handed to a call. -/
structure Given (w : World) (ao : Option Addr) (len cap : Nat) (zs : List Int) : Prop where
  leq : zs.length = len
  byt : Byt zs
  row : RowAt w ao zs
  cap1 : len ≤ cap
  cap2 : cap ≤ 9223372036854775807
theorem Given.below {w w' : World} {ao : Option Addr} {len cap : Nat} {zs : List Int} (h : Given w ao len cap zs) (hb : Below w.heap.size w w') : Given w' ao len cap zs := ⟨h.leq, h.byt, row_mono hb h.row, h.cap1, h.cap2⟩
theorem Mk.given {W0 w : World} {ao : Option Addr} {n cap : Nat} {l : List Int} (h : Mk W0 w (.slice ao n cap) n l) (hb : Byt l) : Given w ao n cap l :=
  ⟨h.1.len, hb, h.1.at, h.1.caps.2.1, h.1.caps.2.2⟩
theorem Given.new (w : World) (l : List Int) (n : Nat) (hn : l.length = n) (hm : n ≤ 1000000) (hb : Byt l) : Given (w.alloc (.cells (cellsOf l) 5)) (some ⟨w.heap.size, 0, none⟩) n n l := (Mk.new w l n hn hm).given hb
theorem Given.newF (w : World) (l : List Int) (n : Nat) (fr : Nat × Nat) (hn : l.length = n) (hm : n ≤ 1000000) (hb : Byt l) : Given (w.alloc (.cells (cellsOf l) 5 fr)) (some ⟨w.heap.size, 0, none⟩) n n l :=
  ⟨hn, hb, .inr ⟨_, _, rfl, fun i hi => by
    have := heap_alloc_new w (.cells (cellsOf l) 5 fr)
    rw [Nat.zero_add, World.cell?]
    simp only [this]
    simp [cellsOf, hi]⟩, Nat.le_refl _, by omega⟩
theorem take_snocU (s : ByteArray) (k : Nat) (h : k < s.size) : s.data.toList.take (k + 1) = s.data.toList.take k ++ [s[k]] := by
  rw [List.take_succ_eq_append_getElem (by simpa using h)]; rfl
theorem dig_snoc (l : List UInt8) (c : UInt8) : digB (l ++ [c]) = (digB l && decide (48 ≤ (c.toNat : Int) ∧ (c.toNat : Int) ≤ 57)) := by simp [digB]
theorem dig_more {s : ByteArray} {k : Nat} (h : digB (s.data.toList.take k) = false) : digB s.data.toList = false := by
  rw [← List.take_append_drop k s.data.toList]
  unfold digB at *
  rw [List.all_append, h]; rfl
theorem dig_all {s : ByteArray} {k : Nat} (h : digB (s.data.toList.take k) = true) (hk : s.size ≤ k) : digB s.data.toList = true := by
  rwa [List.take_of_length_le (by simpa using hk)] at h
theorem size_app (a b : ByteArray) : (a ++ b).size = a.size + b.size := by simp
theorem dig_app (a b : ByteArray) (ha : digB a.data.toList = true) (hb : digB b.data.toList = true) : digB (a ++ b).data.toList = true := by
  simp [digB] at *
  exact ⟨ha, hb⟩
theorem pc_len {zs : List Int} {i m : Nat} (h : i + m ≤ zs.length) : (pc zs i m).length = m := by simp [pc]; omega
/-- A slice of bytes that came in. -/
structure InB (W : World) (a : Option Addr) (len cap : Nat) (l : List Int) : Prop where
  giv : Given W a len cap l
  nil : a = none → len = 0 ∧ cap = 0
/-- An operation of a drawn region that yields its value may be taken first; its slot written out. -/
theorem tk_yes {P : Program} {ops : Array Oper} {Q : Exit → Act → World → Prop} {md : Region.Mode} {S : World → Prop} {oi : Oper} {v : Value} {fuel : Nat} {listed : Array Bool} {a : Act} {w : World} (i : Nat) (d : Option Tmp)
    (hi : ops[i]? = some oi) (hd : oi.dst = d) (hs : Region.noSelect ops = true) (hf : Region.free md ops listed i = true) (hr : (Region.ready md ops listed).contains i = true)
    (hQ : ∀ c a w, Q (.panic c) (a.put d v) w → Q (.panic c) a w) (hw : Region.wanted oi (yielded ops a.tmps) = true) (hv : ∀ w, S w → (execOp a.eval oi).run P w = .ok (.value v) w) (hS : S w)
    (h : wpAnyH P md ops Q S fuel (listed.setIfInBounds i true) (a.put d v) w) : wpAnyH P md ops Q S (fuel + 1) listed a w := by
  subst hd; exact wpAnyH_take hi hs hf hr hQ (Or.inl ⟨hw, hv⟩) hS h

/-- One that its guard passes over. -/
theorem tk_no {P : Program} {ops : Array Oper} {Q : Exit → Act → World → Prop} {md : Region.Mode} {S : World → Prop} {oi : Oper} {fuel : Nat} {listed : Array Bool} {a : Act} {w : World} (i : Nat) (d : Option Tmp)
    (hi : ops[i]? = some oi) (hd : oi.dst = d) (hs : Region.noSelect ops = true) (hf : Region.free md ops listed i = true) (hr : (Region.ready md ops listed).contains i = true)
    (hQ : ∀ c a w, Q (.panic c) (a.put d undef) w → Q (.panic c) a w) (hw : Region.wanted oi (yielded ops a.tmps) = false) (hS : S w)
    (h : wpAnyH P md ops Q S fuel (listed.setIfInBounds i true) (a.put d undef) w) : wpAnyH P md ops Q S (fuel + 1) listed a w := by
  subst hd; exact wpAnyH_take hi hs hf hr hQ (Or.inr ⟨hw, rfl⟩) hS h
section
variable {H : Type} {enc : TypeId × Value → H} {W : World} {n : Nat} {v : Value} {d : DataW H} {p : List MemPlace}
theorem open_inB (h : DataW.trod enc Try.prog W 0 (fun _ => true) true n 24 [v] = some (d, p)) : ∃ a len cap l, v = .slice a len cap ∧ InB W a len cap l := by
  rcases open_ints Try.underlying24 Try.underlying5 (by kernel_rfl) h with ⟨hcs, _⟩ | ⟨x, l, c, zs, hcs, _, hl, hm, hz, hx, hcell, hwz⟩
  · simp at hcs; subst hcs
    exact ⟨none, 0, 0, [], rfl, ⟨rfl, fun z hz => by simp at hz, .inl rfl, by omega, by omega⟩, fun _ => ⟨rfl, rfl⟩⟩
  · simp at hcs; subst hcs
    have hz' : zs.length = c := by simpa using hz
    have hlen : (zs.take l).length = l := by rw [List.length_take]; omega
    refine ⟨some x, l, c, zs.take l, rfl, ⟨hlen, fun z hz => by have := bounds_u8 (hwz z (List.mem_of_mem_take hz)); omega, ?_, by omega, by unfold maxLen at hm; omega⟩, fun e => by cases e⟩
    by_cases h0 : l = 0
    · subst h0; exact .inl (by simp)
    · obtain ⟨b, off, spot⟩ := x
      have hc := hcell 0 (by omega)
      have hspot : spot = none := by simpa [Addr.add] using World.cell?_spot hc
      subst hspot
      refine .inr ⟨b, off, rfl, fun i hi => ?_⟩
      have := hcell i (by omega)
      rw [Addr.add_mid] at this
      rw [this]
      have h1 : i < l := by omega
      have h2 : i < zs.length := by omega
      simp [h1, h2]
end
end Go.Proofs.Ytnahbfnchopghaa
