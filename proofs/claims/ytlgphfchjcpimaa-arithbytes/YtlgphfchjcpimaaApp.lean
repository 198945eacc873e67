/- Appending one new row of bytes to another, as a law for the walk: what comes out is both rows, in memory of its own. -/
import Derived.Test.YtlgphfchjcpimaaKnown
import Derived.Deep.AppendLies
import Derived.Deep.RegionHeld3
namespace Go.Proofs.Ytlgphfchjcpimaa
open Go.ChangeShapes Go.WideShapes Go.ChangeAt Go.RowKit

theorem cells_toList (l : List Int) : (cellsOf l).toList = l.map (Value.int .u8) := by simp [cellsOf]

theorem rowAt_of_owns {w : World} {base g n cap : Nat} {l : List Int} (hn : l.length = n) (h : w.ownsRow base 5 1 (.slice (some ⟨g, 0, none⟩) n cap) n (l.map (Value.int .u8))) :
    RowAt w (some ⟨g, 0, none⟩) l := by
  refine .inr ⟨_, _, rfl, fun i hi => ?_⟩
  rw [Nat.zero_add, h.cellAt i (by omega)]
  simp [hi]

theorem cap_of_owns {w : World} {base g n cap : Nat} {xs : List Value} (h : w.ownsRow base 5 1 (.slice (some ⟨g, 0, none⟩) n cap) n xs) : n ≤ cap ∧ cap ≤ maxLen := by
  rcases h.2 with ⟨h', _⟩ | ⟨g', cap', cur, h', _, _, h3, h4, _⟩
  · simp at h'
  · simp only [Value.slice.injEq] at h'
    obtain ⟨_, _, rfl⟩ := h'
    exact ⟨h3, h4⟩

theorem owns_block {w : World} {base g n : Nat} {l : List Int} (hb : base ≤ g) (hn : l.length = n) (hm : n ≤ maxLen) (h : w.heap[g]? = some (.cells (cellsOf l) 5 (0, 0))) :
    w.ownsRow base 5 1 (.slice (some ⟨g, 0, none⟩) n n) n (l.map (Value.int .u8)) :=
  ⟨by simp [hn], .inr ⟨g, n, cellsOf l, rfl, hb, h, Nat.le_refl _, hm, by rw [cells_size]; omega, by rw [cells_toList]; exact List.take_of_length_le (by simp [hn])⟩⟩

theorem oneCell_bytes (l : List Int) : ∀ u ∈ l.map (Value.int .u8), u.oneCell' = true := by
  intro u hu; simp at hu; obtain ⟨x, _, rfl⟩ := hu; rfl

/-- The law, at a plain region's list. -/
theorem app_list {ops : Array Oper} {rest : List Oper} {o : Oper} {a : Act} {w : World} {Q : Exit → Act → World → Prop} (hgd : o.guard = none) (s x : Operand)
    (ho : o.op = .call { callee := .builtin .append, args := #[s, x], argTypes := #[36, 36] })
    (B g1 n1 g2 n2 : Nat) (l1 l2 : List Int) (hs : a.eval s = .slice (some ⟨g1, 0, none⟩) n1 n1) (hx : a.eval x = .slice (some ⟨g2, 0, none⟩) n2 n2)
    (h1 : w.heap[g1]? = some (.cells (cellsOf l1) 5 (0, 0))) (h2 : w.heap[g2]? = some (.cells (cellsOf l2) 5 (0, 0))) (hn1 : l1.length = n1) (hn2 : l2.length = n2) (hB : B ≤ g1) (hBw : B ≤ w.heap.size)
    (hpos : 0 < n2) (hsmall : n1 + n2 ≤ 1000)
    (h : ∀ g cap w', RowAt w' (some ⟨g, 0, none⟩) (l1 ++ l2) → Below B w w' → g < w'.heap.size → n1 + n2 ≤ cap → cap ≤ 9223372036854775807 → wpList Try.prog ops Q rest (a.put o.dst (.slice (some ⟨g, 0, none⟩) (n1 + n2) cap)) w') :
    wpList Try.prog ops Q (o :: rest) a w := by
  obtain ⟨i0, hi, hz0, hz1, hz2⟩ := info_parts Try.info5
  have hnews := World.news_of_block h2
  rw [cells_toList] at hnews
  refine wpList_append_lies w hgd s x 36 ho B 5 i0 (.int .u8 0) 1 1 Try.underlying36 hi hz0 hz1 hz2 rfl (by decide) _ n1 (l1.map (Value.int .u8)) hs (owns_block hB hn1 (by unfold maxLen; omega) h1)
    ⟨g2, 0, none⟩ n2 n2 (l2.map (Value.int .u8)) hx (by simp [hn2]) hnews (oneCell_bytes l2) hpos (by unfold maxLen; omega) (by omega) hBw w.heap.size rfl ?_
  intro g cap w' hown hgrow _ hlt
  rw [← List.map_append] at hown
  have hc := cap_of_owns hown
  exact h g cap w' (rowAt_of_owns (by simp [hn1, hn2]) hown) ((Below.refl _ _).grown hgrow hBw (fun k hk => by simp [Value.ownBlock] at hk; omega)) hlt hc.1 (by have := hc.2; unfold maxLen at this; omega)

/-- The law, at a step of a region that draws its order. -/
theorem app_step {ops : Array Oper} {o : Oper} {a : Act} {w : World} {K : Act → World → Prop} {Q : Exit → Act → World → Prop} {E : Prop} (hgd : o.guard = none) (s x : Operand)
    (ho : o.op = .call { callee := .builtin .append, args := #[s, x], argTypes := #[36, 36] })
    (B g1 n1 g2 n2 : Nat) (l1 l2 : List Int) (hs : a.eval s = .slice (some ⟨g1, 0, none⟩) n1 n1) (hx : a.eval x = .slice (some ⟨g2, 0, none⟩) n2 n2)
    (h1 : w.heap[g1]? = some (.cells (cellsOf l1) 5 (0, 0))) (h2 : w.heap[g2]? = some (.cells (cellsOf l2) 5 (0, 0))) (hn1 : l1.length = n1) (hn2 : l2.length = n2) (hB : B ≤ g1) (hBw : B ≤ w.heap.size)
    (hpos : 0 < n2) (hsmall : n1 + n2 ≤ 1000)
    (h : ∀ g cap w', RowAt w' (some ⟨g, 0, none⟩) (l1 ++ l2) → Below B w w' → g < w'.heap.size → n1 + n2 ≤ cap → cap ≤ 9223372036854775807 → K (a.put o.dst (.slice (some ⟨g, 0, none⟩) (n1 + n2) cap)) w') :
    if Region.wanted o (yielded ops a.tmps) = true then Oper.wp Try.prog o a w K Q else E := by
  obtain ⟨i0, hi, hz0, hz1, hz2⟩ := info_parts Try.info5
  have hnews := World.news_of_block h2
  rw [cells_toList] at hnews
  refine step_append_lies w hgd s x 36 ho B 5 i0 (.int .u8 0) 1 1 Try.underlying36 hi hz0 hz1 hz2 rfl (by decide) _ n1 (l1.map (Value.int .u8)) hs (owns_block hB hn1 (by unfold maxLen; omega) h1)
    ⟨g2, 0, none⟩ n2 n2 (l2.map (Value.int .u8)) hx (by simp [hn2]) hnews (oneCell_bytes l2) hpos (by unfold maxLen; omega) (by omega) hBw w.heap.size rfl ?_
  intro g cap w' hown hgrow _ hlt
  rw [← List.map_append] at hown
  have hc := cap_of_owns hown
  exact h g cap w' (rowAt_of_owns (by simp [hn1, hn2]) hown) ((Below.refl _ _).grown hgrow hBw (fun k hk => by simp [Value.ownBlock] at hk; omega)) hlt hc.1 (by have := hc.2; unfold maxLen at this; omega)

theorem number_at (ao : Option Addr) (len cap : Nat) (zs : List Int) (w : World) (hlen : zs.length = len) (hr : RowAt w ao zs) (hb : Byt zs) (hl : len ≤ maxLen) :
    Calls Try.prog 21 #[.slice ao len cap] w fun e w' => e = .returned (.tuple #[.int .u64 (numZ zs), .bool (numB zs)]) ∧ w = w' := by
  subst hlen; exact (number_any ao cap zs w hr hb hl).mono fun _ _ h => ⟨h.1, h.2.symm⟩

theorem num_zeros (z : Nat) (l : List Int) : num (List.replicate z 0 ++ l) = num l := by
  induction z with
  | zero => simp
  | succ z ih => rw [List.replicate_succ]; simpa [num] using ih

theorem num_first (x : Int) (l : List Int) : num (x :: l) = x * 2 ^ (8 * l.length) + num l := by
  have key : ∀ (l : List Int) (v : Int), l.foldl (fun v x => v * 256 + x) v = v * 2 ^ (8 * l.length) + num l := by
    intro l
    induction l with
    | nil => intro v; simp [num]
    | cons y l ih =>
      intro v
      have e : 8 * (y :: l).length = 8 + 8 * l.length := by simp; omega
      rw [List.foldl_cons, ih, e, Int.pow_add, show (2 : Int) ^ 8 = 256 from rfl]
      have e2 : num (y :: l) = l.foldl (fun v x => v * 256 + x) (0 * 256 + y) := rfl
      rw [e2, ih, Int.add_mul, Int.add_mul, Int.mul_assoc]
      omega
  rw [show num (x :: l) = l.foldl (fun v x => v * 256 + x) (0 * 256 + x) from rfl, key, Int.zero_mul, Int.zero_add]

theorem byt_zeros (z : Nat) (l : List Int) (h : Byt l) : Byt (List.replicate z 0 ++ l) := by
  intro x hx; simp at hx; rcases hx with ⟨_, rfl⟩ | hx
  · omega
  · exact h x hx
end Go.Proofs.Ytlgphfchjcpimaa
