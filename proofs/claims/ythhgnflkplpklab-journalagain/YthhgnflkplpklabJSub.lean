/- A part of a row of records, wherever it lies; a flag row that came in. -/
import Derived.Test.YthhgnflkplpklabJKnown
import Derived.Deep.Cut
namespace Go.Proofs.Ythhgnflkplpklab
set_option maxRecDepth 20000
open Go.ChangeShapes Go.WideShapes Go.ChangeAt Go.RowKit
open Dsc (Dk Sec Dat Feet tc hid sq bel1 newD reopD cutD)
open Frm (Rc putL rightB bytesL num Given Mk Row RowAt RV al29 st29 ld29 seatR)
theorem sl_run {w : World} {ao : Option Addr} {n cap : Nat} {l : List Rc} (h : RG w ao n cap l) (k : Nat) (hk : k ≤ n) :
    ∃ ao', (Instr.sliceAt 28 (.slice ao n cap) (some (.int .i64 (k : Int))) none none).run Try.prog w = .ok (.slice ao' (n - k) (cap - k)) w ∧ RG w ao' (n - k) (cap - k) (l.drop k) := by
  have h1 := h.leq
  have h2 := h.cap1
  have h3 := h.cap2
  have hz := Try.sizeOf39
  refine ⟨if cap = k then ao else ao.map (·.add (k * 17)), ?_, ?_⟩
  · simp [Instr.sliceAt, Instr.slice, Instr.sliceBounds, Instr.sliceBound, run_underlying Try.underlying28, asIntOf, hk, hz]
  · refine ⟨by rw [List.length_drop]; omega, ?_, by omega, by omega, fun e => ?_⟩
    · by_cases hc : cap = k
      · left; exact List.drop_of_length_le (by omega)
      · rw [if_neg hc]
        rcases h.row with e | ⟨b, o, e, hr, hb⟩
        · left; rw [e]; simp
        · right
          subst e
          refine ⟨b, o + k * 17, by simp [Addr.add_mid], ?_, hb⟩
          rw [flR_drop l k (by omega)]; exact range_sub hr _
    · by_cases hc : cap = k
      · rw [if_pos hc] at e
        have := h.nil e
        omega
      · rw [if_neg hc] at e
        cases ao with
        | none => have := h.nil rfl; omega
        | some x => simp at e
theorem slRw {ops : Array Oper} {rest : List Oper} {op : Oper} {a : Act} {w : World} {Q : Exit → Act → World → Prop} {ao : Option Addr} {n cap m : Nat} {l : List Rc} (h : RG w ao n cap l) (k : Nat) (hk : k ≤ n) (hm : n - k = m) (x y : Operand) (ho : op.op = .slice 28 x (some y) none none) (hw : Region.wanted op (yielded ops a.tmps) = true)
    (hx : a.eval x = .slice ao n cap) (hy : a.eval y = .int .i64 (k : Int)) (hh : ∀ ao' cap', RG w ao' m cap' (l.drop k) → wpList Try.prog ops Q rest (a.put op.dst (.slice ao' m cap')) w) : wpList Try.prog ops Q (op :: rest) a w := by
  subst hm
  obtain ⟨ao', hr, hg⟩ := sl_run h k hk
  refine Frm.wpList_want hw fun K hK => ?_
  unfold Oper.wp execOp
  simp only [ho, hx, hy, Option.map_some, Option.map_none, Sem.run_bind, hr, Result.andThen_ok]
  exact hK _ _ (hh ao' _ hg)
/-- Flags that came in. -/
def InF (W : World) (a : Option Addr) (len _cap : Nat) (l : List Bool) : Prop := Dsc.InF W a len l
theorem open_inF {H : Type} {enc : TypeId × Value → H} {W : World} {n : Nat} {v : Value} {d : DataW H} {p : List MemPlace} (h : DataW.trod enc Try.prog W 0 (fun _ => true) true n 23 [v] = some (d, p)) : ∃ a len cap l, v = .slice a len cap ∧ InF W a len cap l := Dsc.open_inF h
/-- Add, whatever the power does: the old ones or the new ones are there behind a crash; if it answered, the new ones. -/
theorem add_cut {w0 w : World} {p q : Nat} {d : Dk} {h : Hd} {l : List Rc} (j : JS w0 w p q d h l) {ao : Option Addr} {len cap : Nat} {rs : List Rc} (R : RG w ao len cap rs) (hg : Good rs) (hs : l.length + len ≤ 100000000) (N : Nat) (hN : d.secs.length = N) (hfit : (frs (l ++ rs)).length ≤ (N - 1) / 2 * 64) :
    Calls Try.prog 9 #[.pointer (some ⟨q, 0, none⟩), .slice ao len cap] w fun e w' => ∃ z, e = .returned (.int .i64 z) ∧ Kin w w' ∧ ∃ d' lo, JD w0 w' p d' ∧ d'.secs.length = N ∧ Cut2 d' lo (l ++ rs) ∧ ((z = 0 ∧ lo = l ++ rs) ∨ (z = 22 ∧ lo = l)) := by
  subst hN
  refine (add_any j R hg hs).mono ?_
  rintro e w' ⟨z, rfl, k, ⟨rfl, _, d', h', j', e1, _⟩ | ⟨rfl, f, _⟩ | ⟨rfl, f, d', j', e1, c⟩⟩
  · exact ⟨0, rfl, k, d', l ++ rs, j'.log.disk, e1, j'.cut2, .inl ⟨rfl, rfl⟩⟩
  · unfold arS at f; omega
  · exact ⟨22, rfl, k, d', l, j', e1, c, .inr ⟨rfl, rfl⟩⟩
theorem open_up {w0 w : World} {p : Nat} {d : Dk} {l : List Rc} (j : JD w0 w p d) (hd : d.down = false) (hw : d.waits = []) (H : ∃ c a b, Holds d.secs c a b l) (n : Nat) (hn : l.length = n) :
    Calls Try.prog 6 #[.pointer (some ⟨p, 0, none⟩)] w fun e w' => ∃ q ao cap h, e = .returned (.tuple #[.pointer (some ⟨q, 0, none⟩), .slice ao n cap, .int .i64 0]) ∧ JS w0 w' p q d h l ∧ RG w' ao n cap l ∧ Below w.heap.size w w' := by
  subst hn
  obtain ⟨c, a, b, H⟩ := H
  exact open_any j hd hw H
end Go.Proofs.Ythhgnflkplpklab
