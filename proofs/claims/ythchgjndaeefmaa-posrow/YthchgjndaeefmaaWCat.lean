/- append onto nothing; small facts for the laws. -/
import Derived.Test.YthchgjndaeefmaaWFr
namespace Go.Proofs.Ythchgjndaeefmaa
open Go.ChangeShapes Go.WideShapes Go.ChangeAt Go.RowKit

theorem app_none {ops : Array Oper} {rest : List Oper} {o : Oper} {a : Act} {w : World} {Q : Exit → Act → World → Prop} {n2 c2 : Nat} {ao2 : Option Addr} {l2 : List Int}
    (hrow : RowAt w ao2 l2) (hn2 : l2.length = n2) (hnil : ao2 = none → n2 = 0 ∧ c2 = 0) (hsmall : n2 ≤ 1000000)
    (hgd : o.guard = none) (s x : Operand) (ho : o.op = .call { callee := .builtin .append, args := #[s, x], argTypes := #[26, 26] })
    (hs : a.eval s = .slice none 0 0) (hx : a.eval x = .slice ao2 n2 c2)
    (h : ∀ ao cap w', Mk w w' (.slice ao n2 cap) n2 l2 → wpList Try.prog ops Q rest (a.put o.dst (.slice ao n2 cap)) w') :
    wpList Try.prog ops Q (o :: rest) a w := by
  refine app_row (Row.nil w.heap.size w) hrow hn2 hnil (Nat.le_refl _) (by omega) hgd s x ho hs hx ?_
  intro ao cap w' hr ht
  have hm := (Mk.nil w).next hr ht
  rw [Nat.zero_add] at hm ⊢
  exact h ao cap w' hm
theorem nil_given (w : World) : Given w none 0 0 [] := ⟨rfl, fun s hs => by simp at hs, .inl rfl, by omega, by omega⟩
theorem frX_yes {b : List Int} (h : frOk b = true) : frX b = frL b := by unfold frX; rw [if_pos h]
theorem frX_no {b : List Int} (h : frOk b = false) : frX b = [] := by unfold frX; rw [h]; rfl
theorem fr_at0 (b : List Int) : (frL b).getD 0 0 = 2 := rfl
theorem fr_at3 (b : List Int) : (frL b).getD (b.length + 1) 0 = 3 := by simp [frL]
theorem fr_at4 (b : List Int) : (frL b).getD (b.length + 2) 0 = sumL b := by simp [frL]
theorem lrc_nil : lrcL [] = 0 := rfl
theorem frX_len {b : List Int} : (frX b).length ≤ b.length + 3 := by
  cases h : frOk b
  · rw [frX_no h]; simp
  · rw [frX_yes h, fr_len]; omega
theorem frX_byt {b : List Int} (hb : Byt b) : Byt (frX b) := by
  cases h : frOk b
  · rw [frX_no h]; intro x hx; simp at hx
  · rw [frX_yes h]; exact fr_byt hb
end Go.Proofs.Ythchgjndaeefmaa
