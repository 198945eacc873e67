/- More for the statements: numbers, rows of records appended behind a guard. -/
import Derived.Test.YthhgnflkplpklaaJKnown
namespace Go.Proofs.Ythhgnflkplpklaa
set_option maxRecDepth 20000
open Go.ChangeShapes Go.WideShapes Go.ChangeAt Go.RowKit
open Dsc (Dk Sec Dat Feet tc hid sq bel1 newD reopD cutD)
open Frm (Rc putL rightB bytesL num Given Mk Row RowAt RV al29 st29 ld29 seatR)
theorem tmod_nat {a : Int} (h : 0 ≤ a) (m : Int) (hm : 0 < m) : a.tmod m = ((a % m).toNat : Int) := by
  rw [Int.tmod_eq_emod_of_nonneg h]
  have := Int.emod_nonneg a (show m ≠ 0 by omega)
  omega
theorem made_fit {k : Int} {n : Nat} (k0 : 0 ≤ k) (k1 : k < 256) (hn : n ≤ 256) : (frs (madeL k n)).length ≤ 61 * n := by
  have := frs_many (made_good k0 k1 hn)
  rwa [made_len] at this
theorem RG.take' {w : World} {ao : Option Addr} {len cap : Nat} {l : List Rc} (h : RG w ao len cap l) (m : Nat) (hm : len = m) : RG w ao m m l := by
  subst hm
  have := h.take len len (Nat.le_refl _) (Nat.le_refl _) h.cap1
  rwa [List.take_of_length_le (by rw [h.leq]; exact Nat.le_refl _)] at this
theorem app_full_run {w : World} {n n2 c2 m : Nat} {ao1 ao2 : Option Addr} {l1 l2 : List Rc} (ty : TypeId) (h1 : RG w ao1 n n l1) (h2 : RG w ao2 n2 c2 l2) (hm : n + n2 = m) (hsmall : m ≤ 1000000) :
    ∃ ao cap w', (Builtin.append_ #[28, 28] ty #[.slice ao1 n n, .slice ao2 n2 c2]).run Try.prog w = .ok (.slice ao m cap) w' ∧ RG w' ao m cap (l1 ++ l2) ∧ Below w.heap.size w w' := by
  subst hm
  obtain ⟨i0, hi, hz0, hz1, hz2⟩ := info_parts info50
  by_cases h0 : n2 = 0
  · subst h0
    have e2 : l2 = [] := List.length_eq_zero_iff.1 h2.leq
    subst e2
    refine ⟨ao1, n, w, ?_, by rw [List.append_nil]; exact h1, Below.refl _ _⟩
    cases ao1 <;> cases ao2 <;> simp [Builtin.append_, run_underlying Try.underlying28, sizeOf, typeInfo, hi, Builtin.lenOf, Builtin.firstCells, storeCells, loadCells, loadCellsFrom]
  · cases ao2 with
    | none => exact absurd (h2.nil rfl).1 h0
    | some ad =>
      cases ao1 with
      | some b =>
        obtain ⟨v', w', hrun, r1, r2⟩ := run_append_arg_grows (P := Try.prog) w 28 ty 50 i0 Rc.zero.val 17 136 Try.underlying28 hi hz0 hz1 hz2 rfl (by decide) b n n (flR l1) (by rw [flR_len, h1.leq]) (news_at h1) ad n2 c2 (flR l2) (by rw [flR_len, h2.leq]) (news_at h2) (by omega) (by unfold maxLen; omega) (by omega)
        have hR : RowR w.heap.size w' v' (n + n2) (l1 ++ l2) := by unfold RowR; rw [flR_app]; exact r1
        obtain ⟨ao, cap, rfl, _⟩ := hR.form
        exact ⟨ao, cap, w', hrun, hR.given, (Below.refl _ _).grown r2 (Nat.le_refl _) (fun k e => by cases e)⟩
      | none =>
        obtain ⟨rfl, _⟩ := h1.nil rfl
        have e1 : l1 = [] := List.length_eq_zero_iff.1 h1.leq
        subst e1
        obtain ⟨v', w', hrun, r1, r2, _⟩ := run_append_own (P := Try.prog) w w.heap.size 28 ty 50 i0 Rc.zero.val 17 136 Try.underlying28 hi hz0 hz1 hz2 rfl (by decide) (.slice none 0 0) 0 [] (World.ownsRow_nil w _ 50 17) ad n2 c2 (flR l2) (by rw [flR_len, h2.leq]) (news_at h2) (oneR l2) (by unfold maxLen; omega) (by omega) (Nat.le_refl _)
        have hR : RowR w.heap.size w' v' (0 + n2) ([] ++ l2) := by unfold RowR; rw [flR_app]; exact r1
        obtain ⟨ao, cap, rfl, _⟩ := hR.form
        exact ⟨ao, cap, w', hrun, hR.given, (Below.refl _ _).grown r2 (Nat.le_refl _) (fun k e => by cases e)⟩
theorem app_fullw {ops : Array Oper} {rest : List Oper} {op : Oper} {a : Act} {w : World} {Q : Exit → Act → World → Prop} {n n2 c2 m : Nat} {ao1 ao2 : Option Addr} {l1 l2 : List Rc}
    (h1 : RG w ao1 n n l1) (h2 : RG w ao2 n2 c2 l2) (hm : n + n2 = m) (hsmall : m ≤ 1000000) (s y : Operand) (ho : op.op = .call { callee := .builtin .append, args := #[s, y], argTypes := #[28, 28] }) (hw : Region.wanted op (yielded ops a.tmps) = true)
    (hs : a.eval s = .slice ao1 n n) (hx : a.eval y = .slice ao2 n2 c2)
    (h : ∀ ao cap w', RG w' ao m cap (l1 ++ l2) → Below w.heap.size w w' → wpList Try.prog ops Q rest (a.put op.dst (.slice ao m cap)) w') :
    wpList Try.prog ops Q (op :: rest) a w := by
  obtain ⟨ao, cap, w', hrun, hR, hB⟩ := app_full_run op.type h1 h2 hm hsmall
  refine Frm.wpList_want hw fun K hK => ?_
  unfold Oper.wp
  simp [execOp, ho, resolve, invoke, builtin, hs, hx, hrun, Result.andThen]
  exact hK _ _ (h ao cap w' hR hB)
end Go.Proofs.Ythhgnflkplpklaa
