/- Bytes and Put for whatever width, by one contract each; rows of bytes in later worlds; appending a slice that came in to a row of one's own. -/
import Derived.Test.YtlgphfchjcpimaaApp
import Derived.Laws.AppendOwnNone
namespace Go.Proofs.Ytlgphfchjcpimaa
open Go.ChangeShapes Go.WideShapes Go.ChangeAt Go.RowKit

/-- How many bytes are made. -/
def clampN (n : Int) : Nat := (min (max n 0) 64).toNat
theorem clampN_le (n : Int) : clampN n ≤ 64 := by unfold clampN; omega

theorem row_mono {w w' : World} {ao : Option Addr} {l : List Int} (hb : Below w.heap.size w w') (h : RowAt w ao l) : RowAt w' ao l := by
  rcases h with h | ⟨b, off, rfl, hc⟩
  · exact .inl h
  · cases l with
    | nil => exact .inl rfl
    | cons x l =>
      have hlt : b < w.heap.size := World.block_lt_of_cell? w ⟨b, off + 0, none⟩ (hc 0 (by simp))
      exact .inr ⟨b, off, rfl, fun i hi => by rw [hb.cell (p := ⟨b, off + i, none⟩) hlt]; exact hc i hi⟩

theorem run_str_at (w : World) (ao : Option Addr) (zs : List Int) (len cap : Nat) (hl : zs.length = len) (hr : RowAt w ao zs) :
    (convert 36 9 (.slice ao len cap)).run Try.prog w = .ok (.string (strOfNums zs)) w := by
  subst hl; exact run_str w ao zs cap hr

/-- An operation of a drawn region that yields its value may be taken first; its slot written out. -/
theorem tk_yes {P : Program} {ops : Array Oper} {Q : Exit → Act → World → Prop} {md : Region.Mode} {S : World → Prop} {oi : Oper} {v : Value} {fuel : Nat} {listed : Array Bool} {a : Act} {w : World} (i : Nat) (d : Option Tmp)
    (hi : ops[i]? = some oi) (hd : oi.dst = d) (hs : Region.noSelect ops = true) (hf : Region.free md ops listed i = true) (hr : (Region.ready md ops listed).contains i = true)
    (hQ : ∀ c a w, Q (.panic c) (a.put d v) w → Q (.panic c) a w) (hw : Region.wanted oi (yielded ops a.tmps) = true) (hv : ∀ w, S w → (execOp a.eval oi).run P w = .ok (.value v) w) (hS : S w)
    (h : wpAnyH P md ops Q S fuel (listed.setIfInBounds i true) (a.put d v) w) : wpAnyH P md ops Q S (fuel + 1) listed a w := by
  subst hd; exact wpAnyH_take hi hs hf hr hQ (Or.inl ⟨hw, hv⟩) hS h

/-- One that its guard passes over. -/
theorem tk_no {P : Program} {ops : Array Oper} {Q : Exit → Act → World → Prop} {md : Region.Mode} {S : World → Prop} {oi : Oper} {fuel : Nat} {listed : Array Bool} {a : Act} {w : World} (i : Nat) (d : Option Tmp)
    (hi : ops[i]? = some oi) (hd : oi.dst = d) (hs : Region.noSelect ops = true) (hf : Region.free md ops listed i = true) (hr : (Region.ready md ops listed).contains i = true)
    (hQ : ∀ c a w, Q (.panic c) (a.put d undef) w → Q (.panic c) a w) (hw : Region.wanted oi (yielded ops a.tmps) = false) (hS : S w)
    (h : wpAnyH P md ops Q S fuel (listed.setIfInBounds i true) (a.put d undef) w) : wpAnyH P md ops Q S (fuel + 1) listed a w := by
  subst hd; exact wpAnyH_take hi hs hf hr hQ (Or.inr ⟨hw, rfl⟩) hS h

theorem row_drew {w : World} {ao : Option Addr} {l : List Int} (h : RowAt w ao l) : RowAt w.drew ao l := h

theorem bytes_any (v n : Int) (w : World) (hv : 0 ≤ v) (hv' : v < 18446744073709551616) :
    Calls Try.prog 19 #[.int .u64 v, .int .i64 n] w fun e w' => ∃ ao, e = .returned (.slice ao (clampN n) (clampN n)) ∧ RowAt w' ao (bytesL v (clampN n)) ∧ Below w.heap.size w w' := by
  rcases (show n < 1 ∨ (1 ≤ n ∧ n ≤ 64) ∨ 64 < n by omega) with h | h | h
  · have e : clampN n = 0 := by unfold clampN; omega
    rw [e]
    exact (bytes_none v n w h).mono fun _ _ ⟨h1, h2⟩ => ⟨none, h1, .inl rfl, h2 ▸ Below.refl _ _⟩
  · obtain ⟨m, rfl⟩ : ∃ m : Nat, n = m := ⟨n.toNat, by omega⟩
    have e : clampN m = m := by unfold clampN; omega
    rw [e]
    exact (bytes_fit v m w (by omega) (by omega) hv hv').mono fun _ _ ⟨h1, h2⟩ => ⟨_, h1, h2 ▸ row_new w _, h2 ▸ (Below.refl _ _).alloc (Nat.le_refl _) _⟩
  · have e : clampN n = 64 := by unfold clampN; omega
    rw [e]
    exact (bytes_over v n w h hv hv').mono fun _ _ ⟨h1, h2⟩ => ⟨_, h1, h2 ▸ row_new w _, h2 ▸ (Below.refl _ _).alloc (Nat.le_refl _) _⟩

theorem put_any (v n : Int) (w : World) (hv : 0 ≤ v) (hv' : v < 18446744073709551616) :
    Calls Try.prog 20 #[.int .u64 v, .int .i64 n] w fun e w' => ∃ ao, e = .returned (.slice ao (clampN n) (clampN n)) ∧ RowAt w' ao (bytesL v (clampN n)) ∧ Below w.heap.size w w' := by
  rcases (show n ≤ 0 ∨ (1 ≤ n ∧ n ≤ 64) ∨ 64 < n by omega) with h | h | h
  · have e : clampN n = 0 := by unfold clampN; omega
    rw [e]
    exact (put_none v n w h).mono fun _ _ ⟨h1, h2⟩ => ⟨_, h1, .inl rfl, h2 ▸ (Below.refl _ _).alloc (Nat.le_refl _) _⟩
  · obtain ⟨m, rfl⟩ : ∃ m : Nat, n = m := ⟨n.toNat, by omega⟩
    have e : clampN m = m := by unfold clampN; omega
    rw [e]
    exact (put_fit v m w (by omega) (by omega) hv hv').mono fun _ _ ⟨h1, h2⟩ => ⟨_, h1, h2 ▸ row_new w _, h2 ▸ (Below.refl _ _).alloc (Nat.le_refl _) _⟩
  · have e : clampN n = 64 := by unfold clampN; omega
    rw [e]
    exact (put_over v n w h hv hv').mono fun _ _ ⟨h1, h2⟩ => ⟨_, h1, h2 ▸ row_new w _, h2 ▸ (Below.refl _ _).alloc (Nat.le_refl _) _⟩

/-- Appending a slice of whatever make to a new row. -/
theorem app_src {ops : Array Oper} {rest : List Oper} {o : Oper} {a : Act} {w : World} {Q : Exit → Act → World → Prop} (hgd : o.guard = none) (s x : Operand)
    (ho : o.op = .call { callee := .builtin .append, args := #[s, x], argTypes := #[36, 36] })
    (B g1 n1 : Nat) (ao : Option Addr) (n2 c2 : Nat) (l1 l2 : List Int) (hs : a.eval s = .slice (some ⟨g1, 0, none⟩) n1 n1) (hx : a.eval x = .slice ao n2 c2)
    (h1 : w.heap[g1]? = some (.cells (cellsOf l1) 5 (0, 0))) (hn1 : l1.length = n1) (hn2 : l2.length = n2) (hrow : RowAt w ao l2) (hnil : ao = none → n2 = 0 ∧ c2 = 0) (hB : B ≤ g1) (hBw : B ≤ w.heap.size)
    (hsmall : n1 + n2 ≤ 1000)
    (h : ∀ g cap w', RowAt w' (some ⟨g, 0, none⟩) (l1 ++ l2) → Below B w w' → wpList Try.prog ops Q rest (a.put o.dst (.slice (some ⟨g, 0, none⟩) (n1 + n2) cap)) w') :
    wpList Try.prog ops Q (o :: rest) a w := by
  obtain ⟨i0, hi, hz0, hz1, hz2⟩ := info_parts Try.info5
  have hown := owns_block hB hn1 (by unfold maxLen; omega) h1
  cases ao with
  | none =>
    obtain ⟨rfl, rfl⟩ := hnil rfl
    have e2 : l2 = [] := List.length_eq_zero_iff.1 hn2
    subst e2
    refine wpList_append_own_none hgd s x 36 ho B 5 i0 1 Try.underlying36 hi _ n1 (l1.map (Value.int .u8)) hs hown hx ?_
    have hr := rowAt_of_owns hn1 hown
    rw [show l1 = l1 ++ [] by simp] at hr
    exact h g1 n1 w hr (Below.refl _ _)
  | some ad =>
    have hnews : ∀ j u, (l2.map (Value.int .u8))[j]? = some u → w.cell? (ad.add j) = some u := by
      intro j u hj
      rcases hrow with h0 | ⟨b, off, he, hc⟩
      · subst h0; simp at hj
      · simp only [Option.some.injEq] at he
        subst he
        have hlt : j < l2.length := by
          have := (List.getElem?_eq_some_iff.1 hj).1
          simpa using this
        have hadd : (⟨b, off, none⟩ : Addr).add j = ⟨b, off + j, none⟩ := by simp [Addr.add]
        rw [hadd, hc j hlt]
        simp [List.getElem?_eq_getElem hlt] at hj
        rw [← hj]
        simp [hlt]
    refine wpList_append_own w hgd s x 36 ho B 5 i0 (.int .u8 0) 1 1 Try.underlying36 hi hz0 hz1 hz2 rfl (by decide) _ n1 (l1.map (Value.int .u8)) hs hown
      ad n2 c2 (l2.map (Value.int .u8)) hx (by simp [hn2]) hnews (oneCell_bytes l2) (by unfold maxLen; omega) (by omega) hBw ?_
    intro v' w' hown' hgrow hne
    rw [← List.map_append] at hown'
    rcases hown'.2 with ⟨h', _⟩ | ⟨g, cap, cur, h', _⟩
    · exact absurd (hne.1 h').1 (by simp)
    · subst h'
      exact h g cap w' (rowAt_of_owns (by simp [hn1, hn2]) hown') ((Below.refl _ _).grown hgrow hBw (fun k hk => by simp [Value.ownBlock] at hk; omega))
end Go.Proofs.Ytlgphfchjcpimaa
