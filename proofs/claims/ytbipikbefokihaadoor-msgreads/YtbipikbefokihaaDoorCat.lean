/- Appends that begin with nothing; rows that lie anywhere. -/
import Derived.Test.YtbipikbefokihaaDoorSame
import Derived.ArgAppend
import Derived.Lib.SlBytesConst
namespace Go.Proofs.YtbipikbefokihaaDoor
open Go.ChangeShapes Go.WideShapes Go.ChangeAt Go.RowKit

theorem T.Given.of_mk {W0 w : World} {ao : Option Addr} {n cap : Nat} {l : List ByteArray} (h : T.Mk W0 w (.slice ao n cap) n l) (hb : Txt l) : T.Given w ao n cap l := h.given hb
theorem T.nil_given (w : World) : T.Given w none 0 0 [] := ⟨rfl, fun s hs => by simp at hs, .inl rfl, by omega, by omega⟩
theorem row_news {w : World} {ad : Addr} {l : List Int} (hrow : RowAt w (some ad) l) : ∀ j u, (by8 l)[j]? = some u → w.cell? (ad.add j) = some u := by
  intro j u hj
  rcases hrow with h0 | ⟨b, off, he, hc⟩
  · subst h0; simp at hj
  · simp only [Option.some.injEq] at he
    subst he
    have hlt : j < l.length := by
      have := (List.getElem?_eq_some_iff.1 hj).1
      simpa using this
    rw [Addr.add_mid, hc j hlt]
    simp [List.getElem?_eq_getElem hlt] at hj
    rw [← hj]
    simp [hlt]
theorem app_grow {ops : Array Oper} {rest : List Oper} {o : Oper} {a : Act} {w : World} {Q : Exit → Act → World → Prop} {n1 c1 n2 c2 : Nat} {ad1 ad2 : Addr} {l1 l2 : List Int}
    (h1 : RowAt w (some ad1) l1) (hn1 : l1.length = n1) (h2 : RowAt w (some ad2) l2) (hn2 : l2.length = n2) (hfull : c1 < n1 + n2) (hsmall : n1 + n2 ≤ 1000000)
    (hgd : o.guard = none) (s x : Operand) (ho : o.op = .call { callee := .builtin .append, args := #[s, x], argTypes := #[31, 31] })
    (hs : a.eval s = .slice (some ad1) n1 c1) (hx : a.eval x = .slice (some ad2) n2 c2)
    (h : ∀ ao cap w', Mk w w' (.slice ao (n1 + n2) cap) (n1 + n2) (l1 ++ l2) → wpList Tryd.prog ops Q rest (a.put o.dst (.slice ao (n1 + n2) cap)) w') :
    wpList Tryd.prog ops Q (o :: rest) a w := by
  obtain ⟨i0, hi, hz0, hz1, hz2⟩ := info_parts Tryd.info5
  refine wpList_append_grows w hgd s x 31 ho 5 i0 (.int .u8 0) 1 1 Tryd.underlying31 hi hz0 hz1 hz2 rfl (by decide) (some ad1) n1 c1 (by8 l1) hs (fun e => by cases e) (by simp [hn1]) (fun b e => by cases e; exact row_news h1)
    ad2 n2 c2 (by8 l2) hx (by simp [hn2]) (row_news h2) (one8 l2) hfull (by unfold maxLen; omega) (by omega) ?_
  intro v' w' hown hgrow
  have hR : Row w.heap.size w' v' (n1 + n2) (l1 ++ l2) := by unfold Row; rw [by8, List.map_append]; exact hown
  obtain ⟨ao, cap, rfl, _⟩ := hR.form
  have ht : Turned (fun _ => False) w w' := Turned.grown hgrow (fun k e => by cases e)
  exact h ao cap w' ⟨hR, ht.below (fun k f => f.elim) (Nat.le_refl _)⟩
theorem app_none {ops : Array Oper} {rest : List Oper} {o : Oper} {a : Act} {w : World} {Q : Exit → Act → World → Prop} {n2 c2 : Nat} {ao2 : Option Addr} {l2 : List Int}
    (hrow : RowAt w ao2 l2) (hn2 : l2.length = n2) (hnil : ao2 = none → n2 = 0 ∧ c2 = 0) (hsmall : n2 ≤ 1000000)
    (hgd : o.guard = none) (s x : Operand) (ho : o.op = .call { callee := .builtin .append, args := #[s, x], argTypes := #[31, 31] })
    (hs : a.eval s = .slice none 0 0) (hx : a.eval x = .slice ao2 n2 c2)
    (h : ∀ ao cap w', Mk w w' (.slice ao n2 cap) n2 l2 → wpList Tryd.prog ops Q rest (a.put o.dst (.slice ao n2 cap)) w') :
    wpList Tryd.prog ops Q (o :: rest) a w := by
  refine app_row (Row.nil w.heap.size w) hrow hn2 hnil (Nat.le_refl _) (by omega) hgd s x ho hs hx ?_
  intro ao cap w' hr ht
  have hm := (Mk.nil w).next hr ht
  rw [Nat.zero_add] at hm ⊢
  exact h ao cap w' hm
theorem nil_given (w : World) : Given w none 0 0 [] := ⟨rfl, fun s hs => by simp at hs, .inl rfl, by omega, by omega⟩
theorem jn_len {m : Nat} (l : List (List Int)) (h : ∀ p ∈ l, p.length ≤ m) : (jn l).length ≤ l.length * (m + 1) := by
  induction l with
  | nil => simp [jn]
  | cons p r ih =>
    have h1 := h p (by simp)
    have h2 := ih (fun q hq => h q (by simp [hq]))
    by_cases h0 : r = []
    · subst h0; simp [jn]; omega
    · rw [jn_cons _ _ h0, List.length_append, List.length_cons, List.length_cons, Nat.add_mul]; omega
theorem jn_byt (l : List (List Int)) (h : ∀ p ∈ l, Byt p) : Byt (jn l) := by
  induction l with
  | nil => intro x hx; simp [jn] at hx
  | cons p r ih =>
    have h1 := h p (by simp)
    have h2 := ih (fun q hq => h q (by simp [hq]))
    by_cases h0 : r = []
    · subst h0; exact h1
    · rw [jn_cons _ _ h0]
      refine byt_app h1 (fun x hx => ?_)
      rcases List.mem_cons.1 hx with rfl | hx
      · omega
      · exact h2 x hx
theorem jX_byt (L : List ByteArray) : Byt (jX (pans L)) := by
  unfold jX
  split
  · exact jn_byt _ (fun p hp => by simp at hp; obtain ⟨s, hs, rfl⟩ := hp; exact panL_byt s)
  · intro x hx; simp at hx
theorem txts_size {l : List (List Int)} {m : Nat} (h : ∀ p ∈ l, p.length ≤ m) : ∀ s ∈ txts l, s.size ≤ m := by
  intro s hs
  simp at hs
  obtain ⟨p, hp, rfl⟩ := hs
  have := h p hp
  show (List.map (fun n => UInt8.ofNat n.toNat) p).toArray.size ≤ m
  simpa using this
theorem txt_of {L : List ByteArray} {m : Nat} (h : ∀ s ∈ L, s.size ≤ m) (hm : m ≤ 1000) : Txt L := fun s hs => by have := h s hs; omega
end Go.Proofs.YtbipikbefokihaaDoor
