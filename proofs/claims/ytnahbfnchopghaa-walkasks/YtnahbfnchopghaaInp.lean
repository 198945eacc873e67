/- Parts of a row of texts; the code's input. -/
import Derived.Test.YtnahbfnchopghaaMove
namespace Go.Proofs.Ytnahbfnchopghaa
open Go.ChangeShapes Go.WideShapes Go.ChangeAt Go.RowKit

theorem T.RowAt.piece {w : World} {b off : Nat} {l : List ByteArray} (h : T.RowAt w (Option.some ⟨b, off, Option.none⟩) l) (m : Nat) : T.RowAt w (Option.some ⟨b, off, Option.none⟩) (l.take m) := by
  rcases h with h | ⟨b', o', e, hc⟩
  · left; subst h; simp
  · cases e
    refine .inr ⟨_, _, rfl, fun j hj => ?_⟩
    rw [List.length_take] at hj
    rw [hc j (by omega)]
    congr 2
    have h1 : j < m := by omega
    simp [h1]
theorem txt_take {l : List ByteArray} (h : Txt l) (k : Nat) : Txt (l.take k) := fun s hs => h s (List.mem_of_mem_take hs)
theorem txt_drop {l : List ByteArray} (h : Txt l) (k : Nat) : Txt (l.drop k) := fun s hs => h s (List.mem_of_mem_drop hs)
theorem T.sub_h {ao : Option Addr} {len cap : Nat} (j : Nat) (t : Int) (ht : t = j) (hj : j ≤ len) (hc : len ≤ cap) :
    ∃ ao', (∀ w, (Instr.sliceAt 26 (.slice ao len cap) none (some (.int .i64 t)) none).run Try.prog w = .ok (.slice ao' j cap) w) ∧ (∀ w zs, T.Given w ao len cap zs → T.Given w ao' j cap (zs.take j)) := by
  subst ht
  refine ⟨if cap = 0 then ao else ao.map (·.add (0 * 1)), fun w => ?_, fun w zs h => ?_⟩
  · have h2 : (j : Int) ≤ cap := by omega
    by_cases hc0 : cap = 0
    · obtain rfl : j = 0 := by omega
      simp [Instr.sliceAt, Instr.slice, Instr.sliceBounds, Instr.sliceBound, run_underlying Try.underlying26, asIntOf, hc0]
    · simp [Instr.sliceAt, Instr.slice, Instr.sliceBounds, Instr.sliceBound, run_underlying Try.underlying26, asIntOf, hc0]
      intro hj'; omega
  · have h1 := h.leq
    have h2 := h.cap2
    refine ⟨by simp; omega, txt_take h.byt _, ?_, by omega, by omega⟩
    by_cases h0 : cap = 0
    · left; rw [show j = 0 by omega]; rfl
    · rw [if_neg h0]
      rcases h.row with e | ⟨b, o, e, hr⟩
      · left; rw [e]; simp
      · subst e
        have := (h.row).piece j
        simpa [Addr.add_mid] using this
theorem T.sub_l {ao : Option Addr} {len cap : Nat} (i : Nat) (t : Int) (ht : t = i) (hi : i ≤ len) (hc : len ≤ cap) :
    ∃ ao', (∀ w, (Instr.sliceAt 26 (.slice ao len cap) (some (.int .i64 t)) none none).run Try.prog w = .ok (.slice ao' (len - i) (cap - i)) w) ∧ (∀ w zs, T.Given w ao len cap zs → T.Given w ao' (len - i) (cap - i) (zs.drop i)) := by
  subst ht
  refine ⟨if cap = i then ao else ao.map (·.add (i * 1)), fun w => ?_, fun w zs h => ?_⟩
  · have h1 : (i : Int) ≤ len := by omega
    have h2 : (len : Int) ≤ cap := by omega
    simp [Instr.sliceAt, Instr.slice, Instr.sliceBounds, Instr.sliceBound, run_underlying Try.underlying26, asIntOf]
    intro hj; omega
  · have h1 := h.leq
    have h2 := h.cap2
    refine ⟨by rw [List.length_drop]; omega, txt_drop h.byt _, ?_, by omega, by omega⟩
    by_cases hc : cap = i
    · left; rw [List.drop_of_length_le (by omega)]
    · rw [if_neg hc]
      rcases h.row with e | ⟨b, o, e, hr⟩
      · left; rw [e]; simp
      · subst e
        have := (h.row).tail i
        simpa [Addr.add_mid] using this

set_option maxHeartbeats 1000000 in
theorem input22_no (b : Nat) (k : Wk) (ao : Option Addr) (len cap : Nat) (w : World) (h : WV w b k ao len cap) (g : T.Given w ao len cap k.ins) (e : k.ins = []) :
    Calls Try.prog 22 #[.pointer (some ⟨b, 0, none⟩)] w fun e w' => e = .returned (.tuple #[.string ⟨#[]⟩, .bool false]) ∧ w = w' := by
  have hl : len = 0 := by have := g.leq; rw [e] at this; exact this.symm
  subst hl
  have c7 := h.cell 7 (v := .slice ao 0 cap) rfl
  clear h g e
  go_enter Try.func22, Try.ntmps22
  go_wp2
  go_ret2
  exact ⟨rfl, rfl⟩
set_option maxHeartbeats 1000000 in
theorem input22_yes (b : Nat) (k : Wk) (ao : Option Addr) (len cap : Nat) (x : ByteArray) (t : List ByteArray) (w : World) (h : WV w b k ao len cap) (g : T.Given w ao len cap k.ins) (e : k.ins = x :: t) :
    Calls Try.prog 22 #[.pointer (some ⟨b, 0, none⟩)] w fun e w' => e = .returned (.tuple #[.string x, .bool true]) ∧ ∃ ao' len' cap', WV w' b { k with ins := t } ao' len' cap' ∧ (∀ W, T.Given W ao len cap k.ins → T.Given W ao' len' cap' t) ∧ One b w w' := by
  have hl := g.leq
  rw [e] at hl
  obtain ⟨m, rfl⟩ : ∃ m, len = m + 1 := ⟨t.length, by simpa using hl.symm⟩
  have c7 := h.cell 7 (v := .slice ao (m + 1) cap) rfl
  have hm : m + 1 ≤ 9223372036854775807 := Nat.le_trans g.cap1 g.cap2
  obtain ⟨ao', hr, hg, _⟩ : ∃ ao', (∀ w, (Instr.sliceAt 26 (.slice ao (m + 1) cap) (some (.int .i64 1)) none none).run Try.prog w = .ok (.slice ao' m (cap - 1)) w) ∧ (∀ w zs, T.Given w ao (m + 1) cap zs → T.Given w ao' m (cap - 1) (zs.drop 1)) ∧ True := by
    obtain ⟨ao', h1, h2⟩ := T.sub_l (ao := ao) (len := m + 1) (cap := cap) 1 1 rfl (by omega) g.cap1
    exact ⟨ao', h1, h2, trivial⟩
  have HG : Hid (∀ W, T.Given W ao (m + 1) cap k.ins → T.Given W ao' m (cap - 1) t) := fun W hW => by have := hg W _ hW; rw [e] at this; exact this
  rcases g.row with h0 | ⟨q, o, rfl, hc⟩
  · rw [e] at h0; cases h0
  have hq := hc 0 (by rw [e]; simp)
  rw [e] at hq
  have hq' : w.cell? ⟨q, o, none⟩ = some (.string x) := by simpa using hq
  have H := hid h
  clear h g e hl hc hq hg
  go_enter Try.func22, Try.ntmps22
  go_wp2_with (have kill := H.out; refine sIns (t := t) H.out rfl _ _ rfl rfl rfl ?_; intro w1 v1 l1; have X1 := hid v1; have L1 := hid l1; clear v1 l1 kill H)
  go_ret2
  exact ⟨rfl, _, _, _, X1.out, HG.out, L1.out⟩
end Go.Proofs.Ytnahbfnchopghaa
