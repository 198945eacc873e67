/- Set: the field in its place. -/
import Derived.Test.YtfpjjdlfofejcaaRights
import Derived.Deep.Cut
import Derived.Great.BuildSlice
namespace Go.Proofs.Ytfpjjdlfofejcaa
open Go.ChangeShapes Go.WideShapes Go.ChangeAt Go.RowKit

theorem sl_front {ao : Option Addr} {len cap : Nat} (j : Nat) (hj : j ≤ len) (hc : len ≤ cap) :
    ∃ ao', (∀ w, (Instr.sliceAt 22 (.slice ao len cap) none (some (.int .i64 (j : Int))) none).run Try.prog w = .ok (.slice ao' j cap) w) ∧ ∀ w l, FG w ao len cap l → FG w ao' j cap (l.take j) := by
  have hz := Try.sizeOf51
  refine ⟨if cap = 0 then ao else ao.map (·.add (0 * 2)), fun w => ?_, fun w l h => ?_⟩
  · have h2 : (j : Int) ≤ cap := by omega
    by_cases hc0 : cap = 0
    · obtain rfl : j = 0 := by omega
      simp [Instr.sliceAt, Instr.slice, Instr.sliceBounds, Instr.sliceBound, run_underlying Try.underlying22, asIntOf, hc0, hz]
    · simp [Instr.sliceAt, Instr.slice, Instr.sliceBounds, Instr.sliceBound, run_underlying Try.underlying22, asIntOf, hc0, hz]
      intro hj'; omega
  · by_cases h0 : cap = 0
    · rw [if_pos h0]; exact h.take j hj
    · rw [if_neg h0]
      cases ao with
      | none => exact h.take j hj
      | some x =>
        have := h.take j hj
        rcases h.row with e | ⟨b, o, e, hr⟩
        · refine ⟨this.leq, this.ok, .inl (by rw [e]; simp), this.cap1, this.cap2, fun e => by simp at e⟩
        · cases e
          simpa [Addr.add_mid] using this
theorem sl_back {ao : Option Addr} {len cap : Nat} (k : Nat) (hk : k ≤ len) (hc : len ≤ cap) :
    ∃ ao', (∀ w, (Instr.sliceAt 22 (.slice ao len cap) (some (.int .i64 (k : Int))) none none).run Try.prog w = .ok (.slice ao' (len - k) (cap - k)) w) ∧ ∀ w l, FG w ao len cap l → FG w ao' (len - k) (cap - k) (l.drop k) := by
  have hz := Try.sizeOf51
  refine ⟨if cap = k then ao else ao.map (·.add (k * 2)), fun w => ?_, fun w l h => ?_⟩
  · simp [Instr.sliceAt, Instr.slice, Instr.sliceBounds, Instr.sliceBound, run_underlying Try.underlying22, asIntOf, hk, hz]
  · have h1 := h.leq
    have h3 := h.cap2
    refine ⟨by rw [List.length_drop]; omega, h.ok.drop k, ?_, by omega, by omega, fun e => ?_⟩
    · by_cases hc : cap = k
      · left; exact List.drop_of_length_le (by omega)
      · rw [if_neg hc]
        rcases h.row with e | ⟨b, o, e, hr⟩
        · left; rw [e]; simp
        · right
          subst e
          refine ⟨b, o + k * 2, by simp [Addr.add_mid], ?_⟩
          rw [flF_drop l k (by omega)]; exact range_sub hr _
    · by_cases hc : cap = k
      · rw [if_pos hc] at e
        have := h.nil e
        omega
      · rw [if_neg hc] at e
        cases ao with
        | none => have := h.nil rfl; omega
        | some x => simp at e
theorem f_far {n : Int} (h : 95 < n) : fK n = false := by
  have e : ∀ m : Int, (m ≤ 95 → n ≠ m) := fun m hm => by omega
  unfold fK fP
  simp only [e 2 (by decide), e 49 (by decide), e 70 (by decide), e 13 (by decide), e 3 (by decide), e 11 (by decide), e 12 (by decide), e 7 (by decide), e 4 (by decide), e 90 (by decide), e 39 (by decide), e 38 (by decide), e 41 (by decide), e 37 (by decide), e 42 (by decide), e 95 (by decide), e 54 (by decide), e 60 (by decide), if_false]
theorem right_95 {n : Int} {v : ByteArray} (h : rightB n v = true) : n ≤ 95 := by
  by_cases hn : 95 < n
  · simp [rightB, f_far hn] at h
  · omega
theorem rights_few : ∀ (l : List Fd) {a : Int}, a ≤ 95 → rightsL l a = true → (l.length : Int) ≤ 95 - a
  | [], a, ha, _ => by simp; omega
  | f :: r, a, ha, h => by
    have k := rights_cons h
    have h95 := right_95 k.2.1
    have := rights_few r h95 k.2.2
    simp only [List.length_cons]
    omega
theorem msg_few {m : Int} {l : List Fd} (h : rightM m l = true) : l.length ≤ 95 := by
  unfold rightM at h
  rw [Bool.and_eq_true] at h
  have := rights_few l (by decide) h.2
  omega
theorem right_ok {n : Int} {v : ByteArray} (h : rightB n v = true) : (⟨n, v⟩ : Fd).ok := by
  have h1 := right_two h
  have h2 := right_95 h
  have h3 : v.size ≤ 999 := (by
    unfold rightB at h
    simp only [Bool.and_eq_true] at h
    exact fit_small h.1.2)
  exact ⟨by show -9223372036854775808 ≤ n; omega, by show n ≤ 9223372036854775807; omega, by show v.size ≤ _; omega⟩
theorem behind_le (n : Int) (l : List Fd) : behindL n l ≤ l.length := by
  have h := place_le n l
  unfold behindL
  cases e : l[placeL n l]? with
  | none => exact h
  | some f =>
    have := (List.getElem?_eq_some_iff.1 e).1
    simp only
    split <;> omega
/-- A message in a variable of the call's own. -/
def VB (w : World) (b : Nat) (m : Int) (v : Value) : Prop := w.heap[b]? = some (.cells #[.int .i64 m, v] 24 (0, 0))
theorem VB.new (w : World) (m : Int) (v : Value) : VB (w.alloc (.cells #[.int .i64 m, v] 24)) w.heap.size m v := heap_alloc_new _ _
theorem VB.lt {w : World} {b : Nat} {m : Int} {v : Value} (h : VB w b m v) : b < w.heap.size := by
  unfold VB at h
  exact (Array.getElem?_eq_some_iff.1 h).1
theorem VB.more {w w' : World} {b : Nat} {m : Int} {v : Value} (h : VB w b m v) (hb : Below w.heap.size w w') : VB w' b m v := (hb.block b h.lt).trans h
theorem VB.facts {w : World} {b : Nat} {m : Int} {v : Value} (h : VB w b m v) : w.cell? ⟨b, 0, none⟩ = some (.int .i64 m) ∧ w.cell? ⟨b, 1, none⟩ = some v ∧ w.frozen? ⟨b, 0, none⟩ = false ∧ w.frozen? ⟨b, 1, none⟩ = false :=
  ⟨cell_of_head h 0, cell_of_head h 1, froz_of_head h 0, froz_of_head h 1⟩
theorem VB.ib {w : World} {b : Nat} {m : Int} {v : Value} (h : VB w b m v) : IB w b m v := ⟨h.facts.1, h.facts.2.1⟩
theorem VB.set {w : World} {b : Nat} {m : Int} {v : Value} (h : VB w b m v) (m' : Int) (v' : Value) : VB ((w.setCell ⟨b, 0, none⟩ (.int .i64 m')).setCell ⟨b, 1, none⟩ v') b m' v' := by
  unfold VB at *
  simp [World.setCell, Array.getElem?_modify, h]
theorem VB.set1 {w : World} {b : Nat} {m : Int} {v : Value} (h : VB w b m v) (v' : Value) : VB (w.setCell ⟨b, 1, none⟩ v') b m v' := by
  unfold VB at *
  simp [World.setCell, Array.getElem?_modify, h]
theorem set_below {B : Nat} {w0 w : World} {b : Nat} (h : Below B w0 w) (hb : B ≤ b) (u v : Value) : Below B w0 ((w.setCell ⟨b, 0, none⟩ u).setCell ⟨b, 1, none⟩ v) := (h.setCell hb u).setCell hb v
theorem load24 {w : World} {b : Nat} {m : Int} {v : Value} (h : IB w b m v) : (loadVar 24 ⟨b, 0, none⟩).run Try.prog w = .ok (.agg #[.int .i64 m, v]) w := by
  obtain ⟨c0, c1⟩ := h
  simp [loadVar, go_sem, c0, c1]
theorem VB.other {B : Nat} {w : World} {b : Nat} {m : Int} {v u : Value} {n : Nat} {l : List Fd} (h : VB w b m v) (hr : RowF B w u n l) : ¬ u.ownBlock = some b := by
  intro e
  unfold VB at h
  rcases hr.1.2 with ⟨rfl, h0⟩ | ⟨g, cap, cur, rfl, _, hc, _⟩
  · cases e
  · cases e
    rw [h] at hc
    cases hc
theorem VB.turned {B : Nat} {w w' : World} {b : Nat} {m : Int} {v u : Value} {n : Nat} {l : List Fd} (h : VB w b m v) (hr : RowF B w u n l) (t : Turned (fun k => u.ownBlock = some k) w w') : VB w' b m v :=
  (t.block b h.lt (h.other hr)).trans h
theorem MkF.set {W0 w : World} {b : Nat} {m : Int} {v u : Value} {n : Nat} {l : List Fd} (d : MkF W0 w u n l) (h : VB w b m v) (hb : W0.heap.size ≤ b) (x y : Value) : MkF W0 ((w.setCell ⟨b, 0, none⟩ x).setCell ⟨b, 1, none⟩ y) u n l := by
  refine ⟨⟨own_kept d.1.1 fun k e => ?_, d.1.2⟩, set_below d.2 hb x y⟩
  have hk : k ≠ b := fun e' => h.other d.1 (e' ▸ e)
  rw [Below.heap_setCell _ _ _ _ hk, Below.heap_setCell _ _ _ _ hk]
section
variable {ops : Array Oper} {rest : List Oper} {op : Oper} {a : Act} {w : World} {Q : Exit → Act → World → Prop}
/-- A slice of one field. -/
theorem bsF {n : Int} {v : ByteArray} (hok : (⟨n, v⟩ : Fd).ok) (hgd : op.guard = none) (x : Operand) (ho : op.op = .buildSlice 22 1 #[(0, x)]) (hx : a.eval x = .agg #[.int .i64 n, .string v])
    (h : ∀ ao w', FG w' ao 1 1 [⟨n, v⟩] → Below w.heap.size w w' → wpList Try.prog ops Q rest (a.put op.dst (.slice ao 1 1)) w') : wpList Try.prog ops Q (op :: rest) a w :=
  wpList_plain hgd fun K hK => by
    obtain ⟨i, hi, hz0, hz1, hz2⟩ := info_parts info51
    refine wp_buildSlice 22 51 1 _ ho (flF [⟨n, v⟩]).toArray i _ Try.underlying22 hi hz0 (by rw [hz1]; decide) (by rw [hz1]; decide) ?_ (hK _ _ (h _ _ (new_fg w [⟨n, v⟩] 1 rfl (by omega) (FOk.one hok)) (bel1 _ _)))
    have := Great.fill_whole (s := 2) (by decide) [Fd.val ⟨n, v⟩] ((Array.range (1 * i.size)).map ((Fd.val ⟨0, ⟨#[]⟩⟩).cells[· % (Fd.val ⟨0, ⟨#[]⟩⟩).cells.size]!))
      (by intro v hv; simp at hv; subst hv; simp [Fd.val, Value.cells]) (by simp [hz1])
    rw [hz1] at this ⊢
    simpa [hx, Value.cells, Fd.val, flF, Fd.cells] using this
end
/-- Set of what isn't right. -/
theorem set12_no (m : Int) (ao : Option Addr) (len cap : Nat) (l : List Fd) (n : Int) (v : ByteArray) (w : World) (h : FG w ao len cap l) (hv : v.size ≤ 9223372036854775807) (hr : (rightM m l && rightB n v) = false) :
    Calls Try.prog 12 #[.agg #[.int .i64 m, .slice ao len cap], .int .i64 n, .string v] w fun e w' => e = .returned (.tuple #[.agg #[.int .i64 0, .slice none 0 0], .int .i64 27]) ∧ Below w.heap.size w w' := by
  have B1 := hid ((bel1 w (.cells #[.int .i64 m, .slice ao len cap] 24)).alloc (by simp) (.cells #[.int .i64 0, .slice none 0 0] 24))
  have HG := hid (h.below B1.out)
  have HV := hid hv
  have I1 := hid ((VB.new w m (.slice ao len cap)).more (bel1 _ (.cells #[.int .i64 0, .slice none 0 0] 24)))
  have X1 := hid (VB.new (w.alloc (.cells #[.int .i64 m, .slice ao len cap] 24)) 0 (.slice none 0 0))
  rw [World.size_alloc] at X1
  clear h hv
  cases hm : rightM m l
  · have HM := hid hm
    clear hm hr
    go_enter Try.func12, Try.ntmps12
    go_wp2_with (go_at_call 18; refine (right18 m _ _ _ l _ HG.out).mono ?_; rintro e w2 ⟨rfl, l2⟩; rw [HM.out]; have B2 := hid (sq B1.out l2); have I2 := hid (I1.out.more l2); have X2 := hid (X1.out.more l2); obtain ⟨x0, x1, x2, x3⟩ := X2.out.facts; clear l2)
    have X3 := hid (X2.out.set 0 (.slice none 0 0))
    have B3 := hid (set_below B2.out (b := w.heap.size + 1) (by omega) (.int .i64 0) (.slice none 0 0))
    obtain ⟨W3, hW3⟩ : ∃ W3, W3 = (w2.setCell ⟨w.heap.size + 1, 0, none⟩ (.int .i64 0)).setCell ⟨w.heap.size + 1, 1, none⟩ (.slice none 0 0) := ⟨_, rfl⟩
    rw [← hW3] at X3 B3 ⊢
    obtain ⟨d0, d1⟩ := X3.out.ib
    simp [bodyPost, results, Try.results12, go_sem, d0, d1]
    exact B3.out
  · have HM := hid hm
    have HB : Hid (rightB n v = false) := by unfold Hid; rw [hm] at hr; simpa using hr
    clear hm hr
    go_enter Try.func12, Try.ntmps12
    go_wp2_with (first | (go_at_call 22; have kill := B2.out; refine (right9 n v _ HV.out).mono ?_; rintro e w3 ⟨rfl, l3⟩; rw [HB.out]; have B3 := hid (sq B2.out l3); have X3 := hid (X2.out.more l3); obtain ⟨x0, x1, x2, x3⟩ := X3.out.facts; clear l3 kill X2) | (go_at_call 18; refine (right18 m _ _ _ l _ HG.out).mono ?_; rintro e w2 ⟨rfl, l2⟩; rw [HM.out]; have B2 := hid (sq B1.out l2); have X2 := hid (X1.out.more l2); clear l2))
    have X4 := hid (X3.out.set 0 (.slice none 0 0))
    have B4 := hid (set_below B3.out (b := w.heap.size + 1) (by omega) (.int .i64 0) (.slice none 0 0))
    obtain ⟨W3, hW3⟩ : ∃ W3, W3 = (w3.setCell ⟨w.heap.size + 1, 0, none⟩ (.int .i64 0)).setCell ⟨w.heap.size + 1, 1, none⟩ (.slice none 0 0) := ⟨_, rfl⟩
    rw [← hW3] at X4 B4 ⊢
    obtain ⟨d0, d1⟩ := X4.out.ib
    simp [bodyPost, results, Try.results12, go_sem, d0, d1]
    exact B4.out
theorem behind_at {n : Int} {l : List Fd} {r : Fd} (h : l[placeL n l]? = some r) : behindL n l = if r.N = n then placeL n l + 1 else placeL n l := by unfold behindL; rw [h]
theorem behind_end {n : Int} {l : List Fd} (h : l.length ≤ placeL n l) : behindL n l = placeL n l := by unfold behindL; rw [List.getElem?_eq_none h]
set_option maxRecDepth 10000 in
set_option maxHeartbeats 2000000 in
/-- .. and of what is right. -/
theorem set12_yes (m : Int) (ao : Option Addr) (len cap : Nat) (l : List Fd) (n : Int) (v : ByteArray) (w : World) (h : FG w ao len cap l) (hm : rightM m l = true) (hb : rightB n v = true) :
    Calls Try.prog 12 #[.agg #[.int .i64 m, .slice ao len cap], .int .i64 n, .string v] w fun e w' => ∃ ao' N cap', e = .returned (.tuple #[.agg #[.int .i64 m, .slice ao' N cap'], .int .i64 0]) ∧ MkF w w' (.slice ao' N cap') N (setL n v l) := by
  have B1 := hid ((bel1 w (.cells #[.int .i64 m, .slice ao len cap] 24)).alloc (by simp) (.cells #[.int .i64 0, .slice none 0 0] 24))
  have HG := hid h
  have h9 := msg_few hm
  have hq := h.leq
  have hc1 := h.cap1
  have hc2 := h.cap2
  have HK := hid (right_ok hb)
  have HV : Hid (v.size ≤ 9223372036854775807) := HK.out.2.2
  have I1 := hid ((VB.new w m (.slice ao len cap)).more (bel1 _ (.cells #[.int .i64 0, .slice none 0 0] 24)))
  have X1 := hid (VB.new (w.alloc (.cells #[.int .i64 m, .slice ao len cap] 24)) 0 (.slice none 0 0))
  rw [World.size_alloc] at X1
  obtain ⟨P, hP⟩ : ∃ P, placeL n l = P := ⟨_, rfl⟩
  obtain ⟨K, hK⟩ : ∃ K, behindL n l = K := ⟨_, rfl⟩
  have hPl : P ≤ len := by rw [← hP, ← hq]; exact place_le n l
  have hKl : K ≤ len := by rw [← hK, ← hq]; exact behind_le n l
  have HS : Hid (l.take P ++ [⟨n, v⟩] ++ l.drop K = setL n v l) := by rw [← hP, ← hK]; exact set_parts n v l
  have HP := hid hP
  obtain ⟨af, hrunf, hgf⟩ := sl_front (ao := ao) P hPl hc1
  obtain ⟨ab, hrunb, hgb⟩ := sl_back (ao := ao) K hKl hc1
  have GF := hid hgf
  have GB := hid hgb
  have HM := hid hm
  have HB := hid hb
  have HN : Hid (P + 1 + (len - K) ≤ 1000000) := by unfold Hid; omega
  have HC := hid h.fc
  have hbe := fun r : Fd => behind_at (n := n) (l := l) (r := r)
  have hbn := behind_end (n := n) (l := l)
  simp only [hP, hK] at hbe hbn
  rw [hq] at hbn
  have hP64 : wrap64 ((P : Int) + 1) = (P : Int) + 1 := by have := IntKind.wrap_i64 ((P : Int) + 1); unfold wrap64; omega
  clear hP hK hgf hgb hm hb h9 h hc2
  by_cases hlt : P < len
  · obtain ⟨r, hr, _, b, o, rfl, c0, _⟩ := HC.out P hlt
    have hb1 := hbe _ hr
    clear hbe
    obtain ⟨N, V⟩ := r
    simp only at c0 hb1
    clear hr hbn
    have C0 := hid c0
    clear c0
    by_cases hN : N = n
    · have hK : K = P + 1 := by rw [hb1, if_pos hN]
      have hN' := hN.symm
      clear hN
      subst hN' hK
      clear hb1
      rw [show ((P + 1 : Nat) : Int) = (P : Int) + 1 by omega] at hrunb
      go_enter Try.func12, Try.ntmps12
      go_upto_region 7 with (first | (go_at_call 23; have kill := B3.out; refine (place23 _ _ _ l n _ (HG.out.below B3.out)).mono ?_; rintro e w33 ⟨rfl, rfl⟩; rw [HP.out]; clear kill) | (go_at_call 22; have kill := B2.out; refine (right9 n v _ HV.out).mono ?_; rintro e w3 ⟨rfl, l3⟩; rw [HB.out]; have B3 := hid (sq B2.out l3); have I3 := hid (I2.out.more l3); have X3 := hid (X2.out.more l3); have D3 := hid ((MkF.nil w).more B3.out); obtain ⟨i0, i1, _, _⟩ := I3.out.facts; have c0 := (B3.out.cell (p := ⟨b, o + P * 2, none⟩) (World.block_lt_of_cell? w _ C0.out)).trans C0.out; clear l3 kill B2) | (go_at_call 18; refine (right18 m _ _ _ l _ (HG.out.below B1.out)).mono ?_; rintro e w2 ⟨rfl, l2⟩; rw [HM.out]; have B2 := hid (sq B1.out l2); have I2 := hid (I1.out.more l2); have X2 := hid (X1.out.more l2); clear l2))
      go_wp2_with (first | (refine app_flds (W0 := w) D6.out (GB.out _ _ (HG.out.below D6.out.2)) rfl (by have := HN.out; omega) rfl _ _ rfl rfl rfl ?_; intro ao7 cap7 w7 d7 t7; have D7 := hid d7; have I7 := hid (I6.out.turned D6.out.1 t7); have X7 := hid (X6.out.turned D6.out.1 t7); obtain ⟨x0, x1, x2, x3⟩ := X7.out.facts; clear i0 i1; obtain ⟨i0, i1, _, _⟩ := I7.out.facts; clear d7 t7 D6) | (refine app_flds (W0 := w) D5.out G5.out rfl (by have := HN.out; omega) rfl _ _ rfl rfl rfl ?_; intro ao6 cap6 w6 d6 t6; have D6 := hid d6; have I6 := hid (I5.out.turned D5.out.1 t6); have X6 := hid (X5.out.turned D5.out.1 t6); obtain ⟨i0, i1, _, _⟩ := I6.out.facts; clear d6 t6 D5) | (have kill := D4.out; clear kill; refine bsF HK.out rfl _ rfl rfl ?_; intro ag w5 g5 l5; have G5 := hid g5; have D5 := hid (D4.out.more l5); have I5 := hid (I4.out.more l5); have X5 := hid (X4.out.more l5); clear g5 l5 D4) | (refine app_flds (W0 := w) D3.out (GF.out _ _ (HG.out.below B3.out)) (Nat.zero_add _) (by have := HN.out; omega) rfl _ _ rfl rfl rfl ?_; intro ao4 cap4 w4 d4 t4; have D4 := hid d4; have I4 := hid (I3.out.turned D3.out.1 t4); have X4 := hid (X3.out.turned D3.out.1 t4); clear d4 t4 D3 i0 i1))
      have e7 : P + 1 + (len - (P + 1)) = len := by omega
      rw [e7] at D7
      obtain ⟨W8, hW8⟩ : ∃ W8, W8 = (w7.setCell ⟨w.heap.size + 1, 0, none⟩ (.int .i64 m)).setCell ⟨w.heap.size + 1, 1, none⟩ (.slice ao7 len cap7) := ⟨_, rfl⟩
      have D8 := hid (D7.out.set X7.out (Nat.le_succ _) (.int .i64 m) (.slice ao7 len cap7))
      have X8 := hid (X7.out.set m (.slice ao7 len cap7))
      rw [← hW8] at D8 X8 ⊢
      obtain ⟨d0, d1⟩ := X8.out.ib
      simp [bodyPost, results, Try.results12, go_sem, d0, d1]
      rw [← HS.out]
      exact ⟨_, _, _, ⟨rfl, rfl, rfl⟩, D8.out⟩
    · have hK : K = P := by rw [hb1, if_neg hN]
      subst hK
      clear hb1 hP64
      go_enter Try.func12, Try.ntmps12
      go_upto_region 7 with (first | (go_at_call 23; have kill := B3.out; refine (place23 _ _ _ l n _ (HG.out.below B3.out)).mono ?_; rintro e w33 ⟨rfl, rfl⟩; rw [HP.out]; clear kill) | (go_at_call 22; have kill := B2.out; refine (right9 n v _ HV.out).mono ?_; rintro e w3 ⟨rfl, l3⟩; rw [HB.out]; have B3 := hid (sq B2.out l3); have I3 := hid (I2.out.more l3); have X3 := hid (X2.out.more l3); have D3 := hid ((MkF.nil w).more B3.out); obtain ⟨i0, i1, _, _⟩ := I3.out.facts; have c0 := (B3.out.cell (p := ⟨b, o + K * 2, none⟩) (World.block_lt_of_cell? w _ C0.out)).trans C0.out; clear l3 kill B2) | (go_at_call 18; refine (right18 m _ _ _ l _ (HG.out.below B1.out)).mono ?_; rintro e w2 ⟨rfl, l2⟩; rw [HM.out]; have B2 := hid (sq B1.out l2); have I2 := hid (I1.out.more l2); have X2 := hid (X1.out.more l2); clear l2))
      go_wp2_with (first | (refine app_flds (W0 := w) D6.out (GB.out _ _ (HG.out.below D6.out.2)) rfl (by have := HN.out; omega) rfl _ _ rfl rfl rfl ?_; intro ao7 cap7 w7 d7 t7; have D7 := hid d7; have I7 := hid (I6.out.turned D6.out.1 t7); have X7 := hid (X6.out.turned D6.out.1 t7); obtain ⟨x0, x1, x2, x3⟩ := X7.out.facts; clear i0 i1; obtain ⟨i0, i1, _, _⟩ := I7.out.facts; clear d7 t7 D6) | (refine app_flds (W0 := w) D5.out G5.out rfl (by have := HN.out; omega) rfl _ _ rfl rfl rfl ?_; intro ao6 cap6 w6 d6 t6; have D6 := hid d6; have I6 := hid (I5.out.turned D5.out.1 t6); have X6 := hid (X5.out.turned D5.out.1 t6); obtain ⟨i0, i1, _, _⟩ := I6.out.facts; clear d6 t6 D5) | (have kill := D4.out; clear kill; refine bsF HK.out rfl _ rfl rfl ?_; intro ag w5 g5 l5; have G5 := hid g5; have D5 := hid (D4.out.more l5); have I5 := hid (I4.out.more l5); have X5 := hid (X4.out.more l5); clear g5 l5 D4) | (refine app_flds (W0 := w) D3.out (GF.out _ _ (HG.out.below B3.out)) (Nat.zero_add _) (by have := HN.out; omega) rfl _ _ rfl rfl rfl ?_; intro ao4 cap4 w4 d4 t4; have D4 := hid d4; have I4 := hid (I3.out.turned D3.out.1 t4); have X4 := hid (X3.out.turned D3.out.1 t4); clear d4 t4 D3 i0 i1))
      obtain ⟨W8, hW8⟩ : ∃ W8, W8 = (w7.setCell ⟨w.heap.size + 1, 0, none⟩ (.int .i64 m)).setCell ⟨w.heap.size + 1, 1, none⟩ (.slice ao7 (K + 1 + (len - K)) cap7) := ⟨_, rfl⟩
      have D8 := hid (D7.out.set X7.out (Nat.le_succ _) (.int .i64 m) (.slice ao7 (K + 1 + (len - K)) cap7))
      have X8 := hid (X7.out.set m (.slice ao7 (K + 1 + (len - K)) cap7))
      rw [← hW8] at D8 X8 ⊢
      obtain ⟨d0, d1⟩ := X8.out.ib
      simp [bodyPost, results, Try.results12, go_sem, d0, d1]
      rw [← HS.out]
      exact ⟨_, _, _, ⟨rfl, rfl, rfl⟩, D8.out⟩
  · have hPe : P = len := by omega
    have hK : K = P := hbn (by omega)
    subst hK
    clear hbe hbn hP64 hPe
    have hlt' : ¬ (K : Int) < (len : Int) := by omega
    go_enter Try.func12, Try.ntmps12
    go_upto_region 7 with (first | (go_at_call 23; have kill := B3.out; refine (place23 _ _ _ l n _ (HG.out.below B3.out)).mono ?_; rintro e w33 ⟨rfl, rfl⟩; rw [HP.out]; clear kill) | (go_at_call 22; have kill := B2.out; refine (right9 n v _ HV.out).mono ?_; rintro e w3 ⟨rfl, l3⟩; rw [HB.out]; have B3 := hid (sq B2.out l3); have I3 := hid (I2.out.more l3); have X3 := hid (X2.out.more l3); have D3 := hid ((MkF.nil w).more B3.out); obtain ⟨i0, i1, _, _⟩ := I3.out.facts; clear l3 kill B2) | (go_at_call 18; refine (right18 m _ _ _ l _ (HG.out.below B1.out)).mono ?_; rintro e w2 ⟨rfl, l2⟩; rw [HM.out]; have B2 := hid (sq B1.out l2); have I2 := hid (I1.out.more l2); have X2 := hid (X1.out.more l2); clear l2))
    go_wp2_with (first | (refine app_flds (W0 := w) D6.out (GB.out _ _ (HG.out.below D6.out.2)) rfl (by have := HN.out; omega) rfl _ _ rfl rfl rfl ?_; intro ao7 cap7 w7 d7 t7; have D7 := hid d7; have I7 := hid (I6.out.turned D6.out.1 t7); have X7 := hid (X6.out.turned D6.out.1 t7); obtain ⟨x0, x1, x2, x3⟩ := X7.out.facts; clear i0 i1; obtain ⟨i0, i1, _, _⟩ := I7.out.facts; clear d7 t7 D6) | (refine app_flds (W0 := w) D5.out G5.out rfl (by have := HN.out; omega) rfl _ _ rfl rfl rfl ?_; intro ao6 cap6 w6 d6 t6; have D6 := hid d6; have I6 := hid (I5.out.turned D5.out.1 t6); have X6 := hid (X5.out.turned D5.out.1 t6); obtain ⟨i0, i1, _, _⟩ := I6.out.facts; clear d6 t6 D5) | (have kill := D4.out; clear kill; refine bsF HK.out rfl _ rfl rfl ?_; intro ag w5 g5 l5; have G5 := hid g5; have D5 := hid (D4.out.more l5); have I5 := hid (I4.out.more l5); have X5 := hid (X4.out.more l5); clear g5 l5 D4) | (refine app_flds (W0 := w) D3.out (GF.out _ _ (HG.out.below B3.out)) (Nat.zero_add _) (by have := HN.out; omega) rfl _ _ rfl rfl rfl ?_; intro ao4 cap4 w4 d4 t4; have D4 := hid d4; have I4 := hid (I3.out.turned D3.out.1 t4); have X4 := hid (X3.out.turned D3.out.1 t4); clear d4 t4 D3 i0 i1))
    obtain ⟨W8, hW8⟩ : ∃ W8, W8 = (w7.setCell ⟨w.heap.size + 1, 0, none⟩ (.int .i64 m)).setCell ⟨w.heap.size + 1, 1, none⟩ (.slice ao7 (K + 1 + (len - K)) cap7) := ⟨_, rfl⟩
    have D8 := hid (D7.out.set X7.out (Nat.le_succ _) (.int .i64 m) (.slice ao7 (K + 1 + (len - K)) cap7))
    have X8 := hid (X7.out.set m (.slice ao7 (K + 1 + (len - K)) cap7))
    rw [← hW8] at D8 X8 ⊢
    obtain ⟨d0, d1⟩ := X8.out.ib
    simp [bodyPost, results, Try.results12, go_sem, d0, d1]
    rw [← HS.out]
    exact ⟨_, _, _, ⟨rfl, rfl, rfl⟩, D8.out⟩
end Go.Proofs.Ytfpjjdlfofejcaa
