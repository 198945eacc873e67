/- The library's builder of texts, at this program's own numbers: what is written into it, what it says. -/
import Derived.Test.YthhgochnlbiaaaaSts
import Derived.Shelf.Strings.Builder1
namespace Go.Proofs.Ythhgochnlbiaaaa
open Go.Shelf

def Try.lays169_ren : Go.Shelf.Ren := ⟨fun | 169 => 23 | n => n, fun | 70 => 59 | 9 => 9 | 0 => 0 | 72 => 61 | 37 => 40 | 127 => 74 | 3 => 3 | 5 => 5 | n => n, fun | n => n⟩
theorem Try.lays169 : Go.Proofs.Lays.n169 Try.prog Try.lays169_ren := {
  mixed := by kernel_rfl
  f169 := Try.func23.trans (congrArg some (by kernel_rfl))
  t0 := Try.underlying0
  a0 := Try.isAgg0
  z0 := Try.sizeOf0
  v0 := Try.zeroValue0
  t3 := Try.underlying3
  a3 := Try.isAgg3
  z3 := Try.sizeOf3
  v3 := Try.zeroValue3
  t9 := Try.underlying9
  a9 := Try.isAgg9
  z9 := Try.sizeOf9
  v9 := Try.zeroValue9
  t37 := Try.underlying40
  a37 := Try.isAgg40
  z37 := Try.sizeOf40
  v37 := Try.zeroValue40
  t70 := Try.underlying59
  a70 := Try.isAgg59
  z70 := Try.sizeOf59
  v70 := Try.zeroValue59
  t72 := Try.underlying61
  a72 := Try.isAgg61
  z72 := Try.sizeOf61
  v72 := Try.zeroValue61
  t127 := Try.underlying74
  a127 := Try.isAgg74
  z127 := Try.sizeOf74
  v127 := Try.zeroValue74 }
theorem Try.Builder_Extra_169 : Builder.Extra Try.prog Try.lays169_ren := {
  sizeBuilder := by kernel_rfl
  liesBuilder := by kernel_rfl
  t5 := Try.underlying5
  a5 := Try.isAgg5
  z5 := Try.sizeOf5
  v5 := Try.zeroValue5
  infoByte := by kernel_rfl
  cellsByte := by kernel_rfl
  sizeByte := by kernel_rfl
  neB5 := by decide }
end Go.Proofs.Ythhgochnlbiaaaa
namespace Go.Proofs.Ythhgochnlbiaaaa
open Go.ChangeShapes Go.WideShapes Go.ChangeAt Go.RowKit

/-- A builder at block b that holds these bytes. -/
def HB (B b : Nat) (l : List Int) (w : World) : Prop := Lib.IsBuilder 61 5 B b (by8 l) w
theorem info61 : ∃ j, Try.prog.info? 61 = some j ∧ j.size = 2 := by
  obtain ⟨j, hj, h⟩ := Option.map_eq_some_iff.1 Try.Builder_Extra_169.sizeBuilder
  exact ⟨j, hj, h⟩
theorem hb_cell {B b : Nat} {p : Value} {bs : List Value} {w : World} (h : Lib.BuilderAt 61 5 B b p bs w) : ∃ v, w.heap[b]? = some (.cells #[p, v] 61 (0, 0)) ∧ w.cell? ⟨b, 0, none⟩ = some p ∧ w.cell? ⟨b, 1, none⟩ = some v ∧ w.frozen? ⟨b, 1, none⟩ = false ∧ w.ownsRow B 5 1 v bs.length bs ∧ v.ownBlock ≠ some b ∧ B ≤ b := by
  have h0 := h.cell0
  obtain ⟨hB, v, hbk, hown, hne⟩ := h
  exact ⟨v, hbk, h0, by rw [Lib.cell_of_heap hbk]; rfl, Lib.frozen_of_heap hbk 1, hown, hne, hB⟩
set_option maxHeartbeats 1000000 in
set_option maxRecDepth 100000 in
theorem check31 (B b : Nat) (bs : List Value) (w : World) (h : Lib.IsBuilder 61 5 B b bs w) :
    Calls Try.prog 31 #[.pointer (some ⟨b, 0, none⟩)] w fun e w' => e = .returned (.tuple #[]) ∧ Lib.BuilderAt 61 5 B b (.pointer (some ⟨b, 0, none⟩)) bs w' ∧ Below B w w' := by
  obtain ⟨j, hj, hjs⟩ := info61
  rcases h with h | h
  · have c0 := h.cell0
    have f0 := h.frozen0
    have hsh := h.shape
    have HE : Hid ((.tuple #[] : Value) = .tuple #[] ∧ Lib.BuilderAt 61 5 B b (.pointer (some ⟨b, 0, none⟩)) bs (w.setCell ⟨b, 0, none⟩ (.pointer (some ⟨b, 0, none⟩))) ∧ Below B w (w.setCell ⟨b, 0, none⟩ (.pointer (some ⟨b, 0, none⟩)))) :=
      ⟨rfl, h.used _, (Below.refl B w).setCell (p := ⟨b, 0, none⟩) h.1 _⟩
    clear h
    go_enter Try.func31, Try.ntmps31
    go_wp2
    rw [Lib.run_to_unsafe w ⟨b, 0, none⟩ Try.underlying59 Try.underlying79 hj (by rw [hjs]; decide) hsh (Nat.zero_lt_succ 1)]
    simp only [Result.andThen]
    rw [Oper.upon_value]
    go_wp2
    rw [run_callFunc_extern Try.func35 (by kernel_rfl) (by kernel_rfl) (by kernel_rfl) (e := Extern.AbiNoEscape.same) (by kernel_rfl), Lib.run_noEscape]
    simp only [Result.andThen]
    rw [Oper.upon_value]
    go_wp2
    rw [Lib.run_from_unsafe w ⟨b, 0, none⟩ Try.underlying79 Try.underlying59 hj hsh Try.Builder_Extra_169.liesBuilder]
    simp only [Result.andThen]
    rw [Oper.upon_value]
    go_wp2
    go_end0
    exact ⟨rfl, HE.out.2⟩
  · have c0 := h.cell0
    have HE := hid h
    clear h
    go_enter Try.func31, Try.ntmps31
    go_wp2
    rw [Lib.run_neq_ptr_same w _ Try.underlying59 hj]
    go_wp2
    go_end0
    exact ⟨rfl, HE.out, Below.refl B _⟩
set_option maxHeartbeats 2000000 in
set_option maxRecDepth 100000 in
/-- What is written is behind what was there. -/
theorem write22 (B b : Nat) (l : List Int) (s : ByteArray) (w : World) (h : HB B b l w) (hlen : l.length + s.size ≤ 1000000) (hBw : B ≤ w.heap.size) :
    Calls Try.prog 22 #[.pointer (some ⟨b, 0, none⟩), .string s] w fun e w' => e = .returned (.tuple #[.int .i64 s.size, .nilIface]) ∧ HB B b (l ++ panL s) w' ∧ Below B w w' := by
  obtain ⟨i0, hi, hz0, hz1, hz2⟩ := info_parts Try.info5
  have H := hid h
  clear h
  go_enter Try.func22, Try.ntmps22
  go_wp2_with (go_at_call 31; refine (check31 B b (by8 l) _ H.out).mono ?_)
  rintro e w1 ⟨rfl, h1, hb1⟩
  obtain ⟨v, hbk, c0, c1, f1, hown, hne, hB⟩ := hb_cell h1
  have L1 := hid hb1
  have HK := hid hbk
  have HW := hid hown
  have HN := hid hne
  have hsz := hb1.size
  clear h1 hb1 hbk hown hne
  go_wp2_with (at_builtin; refine Lib.wpList_append_own_string _ rfl _ _ 40 9 rfl B 5 i0 Try.underlying40 Try.underlying9 hi hz0 hz1 hz2 _ _ (by8 l) rfl HW.out s rfl (by unfold maxLen; simp; omega) (by simp; omega) (by omega) ?_)
  intro v' w2 hown' hgrow _
  have hlt : b < w1.heap.size := by
    rcases Nat.lt_or_ge b w1.heap.size with h | h
    · exact h
    · have := HK.out; simp [Array.getElem?_eq_none h] at this
  have hb2 : w2.heap[b]? = some (.cells #[.pointer (some ⟨b, 0, none⟩), v] 61 (0, 0)) := (hgrow.block b hlt (fun e => HN.out e.symm)).trans HK.out
  have d0 : w2.cell? ⟨b, 0, none⟩ = some (.pointer (some ⟨b, 0, none⟩)) := by rw [Lib.cell_of_heap hb2]; rfl
  have d1 : w2.cell? ⟨b, 1, none⟩ = some v := by rw [Lib.cell_of_heap hb2]; rfl
  have g1 : w2.frozen? ⟨b, 1, none⟩ = false := Lib.frozen_of_heap hb2 1
  have HP : Hid (∀ u, v' = u → HB B b (l ++ panL s) (w2.setCell ⟨b, 1, none⟩ u) ∧ Below B w (w2.setCell ⟨b, 1, none⟩ u)) := by
    rintro u rfl
    refine ⟨.inr ?_, (L1.out.grown hgrow (by omega) (fun k hk => (HW.out.lt k hk).1)).setCell (p := ⟨b, 1, none⟩) hB _⟩
    have hl : (by8 (l ++ panL s)).length = l.length + s.size := by simp [panL_len]
    have := Lib.BuilderAt.put (T := 61) (e := 5) hB hb2 (bs' := by8 (l ++ panL s)) (by rw [hl, show by8 (l ++ panL s) = by8 l ++ Lib.strCells s by rw [strCells_by8, by8, by8, by8, List.map_append]]; exact hown') Try.Builder_Extra_169.neB5
    exact this
  obtain ⟨ao, n', cap, hv⟩ : ∃ ao n' cap, v' = .slice ao n' cap := by
    rcases hown'.2 with ⟨hv, _⟩ | ⟨g, cap, cur, hv, _⟩
    · exact ⟨_, _, _, hv⟩
    · exact ⟨_, _, _, hv⟩
  have HR := hid (HP.out _ hv)
  subst hv
  clear HP hown' hgrow c0 c1 f1 hb2
  go_wp2
  go_ret2
  exact ⟨rfl, HR.out⟩
theorem ofNat_byte (x : Int) (h0 : 0 ≤ x) (h1 : x < 256) : ((UInt8.ofNat x.toNat).toNat : Int) = x := by
  rw [UInt8.toNat_ofNat']; omega
/-- What a builder says. -/
theorem string23 (B b : Nat) (l : List Int) (w : World) (h : HB B b l w) (hb : Byt l) (hBw : B ≤ w.heap.size) :
    Calls Try.prog 23 #[.pointer (some ⟨b, 0, none⟩)] w fun e w' => e = .returned (.string (strOfNums l)) ∧ Below B w w' := by
  have e : by8 l = Lib.byteCells (l.map fun x => UInt8.ofNat x.toNat) := by
    unfold Lib.byteCells
    rw [List.map_map]
    refine List.map_congr_left fun x hx => ?_
    have := hb x hx
    simp only [Function.comp, ofNat_byte x this.1 this.2]
  unfold HB at h
  rw [e] at h
  have := Any.Builder_String_any Try.lays169 Try.Builder_Extra_169 B b _ w h hBw
  exact this
theorem ba_below {B b : Nat} {p : Value} {bs : List Value} {w w' : World} (h : Lib.BuilderAt 61 5 B b p bs w) (hb : Below w.heap.size w w') : Lib.BuilderAt 61 5 B b p bs w' := by
  have hlt := h.lt
  obtain ⟨hB, v, hbk, hown, hne⟩ := h
  exact ⟨hB, v, (hb.block b hlt).trans hbk, own_kept hown fun k e => hb.block k (World.ownsRow.lt hown k e).2, hne⟩
theorem HB.below {B b : Nat} {l : List Int} {w w' : World} (h : HB B b l w) (hb : Below w.heap.size w w') : HB B b l w' := by
  rcases h with h | h
  · exact .inl (ba_below h hb)
  · exact .inr (ba_below h hb)
/-- A fresh builder. -/
theorem alB {ops : Array Oper} {rest : List Oper} {op : Oper} {a : Act} {w : World} {Q : Exit → Act → World → Prop} (hgd : op.guard = none) (ho : op.op = .alloc 61)
    (h : ∀ b w', HB w.heap.size b [] w' → Below w.heap.size w w' → wpList Try.prog ops Q rest (a.put op.dst (.pointer (some ⟨b, 0, none⟩))) w') : wpList Try.prog ops Q (op :: rest) a w :=
  wpList_plain hgd fun K hK => by
    have hz : (zeroValue 61).run Try.prog w = .ok (.agg #[.pointer none, .slice none 0 0]) w := (zero_of_info (n := 2) (by kernel_rfl : (Try.prog.info? 61).map (fun i => (i.zero, i.size)) = some (some (.agg #[.pointer none, .slice none 0 0]), 2))).1 w
    unfold Oper.wp execOp
    simp [ho, Instr.alloc, hz, newVar, newRow, go_sem, Value.cells]
    exact hK _ _ (h _ _ (Lib.fresh_isBuilder 61 5 w) (bel1 _ _))
end Go.Proofs.Ythhgochnlbiaaaa
