/- What a law's arguments are: rows of bytes and of flags that came in; bytes as a string. -/
import Derived.Test.YthhgnflkplpklabDKnown
import Derived.Laws.BytesArg
import Derived.Laws.IdiomStrings
import Derived.Deep.Grids
namespace Go.Proofs.Ythhgnflkplpklab.Dsc
open Go.ChangeShapes Go.WideShapes Go.ChangeAt Go.RowKit

/-- string(b) of a row of bytes. -/
theorem run_str (w : World) (ao : Option Addr) (zs : List Int) (len cap : Nat) (hl : zs.length = len) (hr : RowOf (Value.int .u8) w ao zs) :
    (convert 22 9 (.slice ao len cap)).run Try.prog w = .ok (.string (strOfNums zs)) w := by
  subst hl
  rcases hr with rfl | ⟨b, off, rfl, hc⟩
  · cases ao with
    | none => exact run_convert_bytes_nil w 22 5 Try.underlying22 Try.underlying5 _ _ 9 Try.underlying9
    | some a => exact run_convert_bytes_back w 22 9 5 a cap [] Try.underlying22 Try.underlying5 Try.underlying9 (fun j hj => by simp at hj)
  · exact run_convert_bytes_arg w 22 5 Try.underlying22 Try.underlying5 b off zs.length cap zs rfl (fun i hi => by rw [hc i zs[i] (by simp [hi])]; simp [hi]) 9 Try.underlying9
theorem str_list {ops : Array Oper} {rest : List Oper} {op : Oper} {a : Act} {w : World} {Q : Exit → Act → World → Prop} {ao : Option Addr} {zs : List Int} {len cap : Nat} (hl : zs.length = len) (hr : RowOf (Value.int .u8) w ao zs)
    (hg : Region.wanted op (yielded ops a.tmps) = true) (x : Operand) (ho : op.op = .convert 22 9 x) (hx : a.eval x = .slice ao len cap)
    (h : wpList Try.prog ops Q rest (a.put op.dst (.string (strOfNums zs))) w) : wpList Try.prog ops Q (op :: rest) a w :=
  wpList_step fun K hK => by
    rw [if_pos hg]
    unfold Oper.wp execOp
    simp only [ho, hx, Sem.run_bind, run_str w ao zs len cap hl hr, Result.andThen_ok]
    exact hK _ _ h

theorem Bys.cap64 {w : World} {v : Value} {s : List Int} (h : Bys w v s) (hs : s.length = 64) : ∃ g cap, v = .slice (some ⟨g, 0, none⟩) 64 cap ∧ w.rangeAt g 0 (by8 s) ∧ g < w.heap.size ∧ 64 ≤ cap := by
  obtain ⟨g, cap, rfl, h1, h2⟩ := h.form64 hs
  refine ⟨g, cap, rfl, h1, h2, ?_⟩
  rcases h.2 with ⟨e, _⟩ | ⟨g', cap', cur, e, _, _, h3, _⟩
  · cases e
  · simp only [Value.slice.injEq] at e
    omega
/-- A slice of bytes that came in: its bytes, in memory that was there. -/
def InB (w : World) (a : Option Addr) (len : Nat) (l : List Int) : Prop := l.length = len ∧ (∀ z ∈ l, Byt z) ∧ RowOf (Value.int .u8) w a l ∧ (l ≠ [] → ∀ x, a = some x → x.block < w.heap.size)
/-- A slice of flags that came in. -/
def InF (w : World) (a : Option Addr) (len : Nat) (l : List Bool) : Prop := l.length = len ∧ RowOf Value.bool w a l ∧ (l ≠ [] → ∀ x, a = some x → x.block < w.heap.size)
section
variable {H : Type} {enc : TypeId × Value → H} {W : World} {n : Nat} {v : Value} {d : DataW H} {p : List MemPlace}
theorem open_inB (h : DataW.trod enc Try.prog W 0 (fun _ => true) true n 22 [v] = some (d, p)) : ∃ a len cap l, v = .slice a len cap ∧ InB W a len l := by
  rcases open_ints Try.underlying22 Try.underlying5 (by kernel_rfl) h with ⟨hcs, _⟩ | ⟨x, l, c, zs, hcs, _, hl, hm, hz, hx, hcell, hwz⟩
  · simp at hcs; subst hcs
    exact ⟨none, 0, 0, [], rfl, rfl, fun z hz => by simp at hz, .inl rfl, fun _ x e => by cases e⟩
  · simp at hcs; subst hcs
    have hz' : zs.length = c := by simpa using hz
    have hlen : (zs.take l).length = l := by rw [List.length_take]; omega
    refine ⟨some x, l, c, zs.take l, rfl, hlen, fun z hz => bounds_u8 (hwz z (List.mem_of_mem_take hz)), ?_, fun hne y e => ?_⟩
    · by_cases h0 : l = 0
      · subst h0; exact .inl (by simp)
      · obtain ⟨b, off, spot⟩ := x
        have hc := hcell 0 (by omega)
        have hspot : spot = none := by simpa [Addr.add] using World.cell?_spot hc
        subst hspot
        refine .inr ⟨b, off, rfl, fun i u hu => ?_⟩
        rw [List.getElem?_take] at hu
        split at hu
        · have hi : i < zs.length := (List.getElem?_eq_some_iff.1 hu).1
          have := hcell i hi
          rw [Addr.add_mid] at this
          rw [this]; simp [hu]
        · cases hu
    · cases e
      have h0 : 0 < zs.length := by
        rcases Nat.eq_zero_or_pos zs.length with h | h
        · rw [List.length_eq_zero_iff.1 h] at hne; simp at hne
        · exact h
      have := World.block_lt_of_cell? W _ (hcell 0 h0)
      obtain ⟨b, off, spot⟩ := x
      simpa [Addr.add] using this
theorem open_inF (h : DataW.trod enc Try.prog W 0 (fun _ => true) true n 23 [v] = some (d, p)) : ∃ a len cap l, v = .slice a len cap ∧ InF W a len l := by
  rcases Deep.open_bools Try.underlying23 Try.underlying4 (by kernel_rfl) h with ⟨hcs, _⟩ | ⟨x, l, c, B, hcs, _, hl, hm, hx, hcell⟩
  · simp at hcs; subst hcs
    exact ⟨none, 0, 0, [], rfl, rfl, .inl rfl, fun _ x e => by cases e⟩
  · simp at hcs; subst hcs
    refine ⟨some x, l, c, (List.range l).map B, rfl, by simp, ?_, fun hne y e => ?_⟩
    · by_cases h0 : l = 0
      · subst h0; exact .inl (by simp)
      · obtain ⟨b, off, spot⟩ := x
        have hc := hcell 0 (by omega)
        have hspot : spot = none := by simpa [Addr.add] using World.cell?_spot hc
        subst hspot
        refine .inr ⟨b, off, rfl, fun i u hu => ?_⟩
        simp only [List.getElem?_map] at hu
        by_cases hi : i < l
        · have := hcell i (by omega)
          rw [Addr.add_mid] at this
          rw [List.getElem?_range hi] at hu
          cases hu
          exact this
        · rw [List.getElem?_eq_none (by simp; omega)] at hu; cases hu
    · cases e
      have h0 : 0 < l := by
        rcases Nat.eq_zero_or_pos l with h | h
        · subst h; simp at hne
        · exact h
      have := World.block_lt_of_cell? W _ (hcell 0 (by omega))
      obtain ⟨b, off, spot⟩ := x
      simpa [Addr.add] using this
end
end Go.Proofs.Ythhgnflkplpklab.Dsc
