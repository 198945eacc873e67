/- Set, by the document: field by field. -/
import Derived.Test.YtfpjjdlfofejcaaSets
import Derived.Test.YtfpjjdlfofejcaaIsoR
namespace Go.Proofs.Ytfpjjdlfofejcaa
open Go.ChangeShapes Go.WideShapes Go.ChangeAt Go.RowKit

theorem VB.keep {w w' : World} {b : Nat} {m : Int} {v : Value} (h : VB w b m v) (hk : w'.heap[b]? = w.heap[b]?) : VB w' b m v := hk.trans h
/-- The document's Set on its way: the box of what came in, the result's variable, the list so far, and the variable that holds it (or an elder one). -/
structure RS (w : World) (m : Int) (v0 : Value) (b8 : Nat) (W : World) (u : Value) (N : Nat) (L : List Fd) (q : Value) : Prop where
  d : MkF w W u N L
  i : VB W w.heap.size m v0
  x : VB W (w.heap.size + 1) 0 (.slice none 0 0)
  o : VB W b8 m q
  far : w.heap.size + 1 < b8
section
variable {w W W' : World} {m : Int} {v0 u u' q : Value} {b8 N N' : Nat} {L L' : List Fd}
theorem RS.more (h : RS w m v0 b8 W u N L q) (hb : Below W.heap.size W W') : RS w m v0 b8 W' u N L q :=
  ⟨h.d.more hb, h.i.more hb, h.x.more hb, h.o.more hb, h.far⟩
theorem RS.turned (h : RS w m v0 b8 W u N L q) (d : MkF w W' u' N' L') (t : Turned (fun k => u.ownBlock = some k) W W') : RS w m v0 b8 W' u' N' L' q :=
  ⟨d, h.i.turned h.d.1 t, h.x.turned h.d.1 t, h.o.turned h.d.1 t, h.far⟩
theorem RS.store (h : RS w m v0 b8 W u N L q) : RS w m v0 b8 (W.setCell ⟨b8, 1, none⟩ u) u N L u := by
  have hf := h.far
  refine ⟨⟨⟨own_kept h.d.1.1 fun k e => ?_, h.d.1.2⟩, h.d.2.setCell (by show w.heap.size ≤ b8; omega) u⟩, h.i.keep ?_, h.x.keep ?_, h.o.set1 u, hf⟩
  · have hk : k ≠ b8 := fun e' => h.o.other h.d.1 (e' ▸ e)
    rw [Below.heap_setCell _ _ _ _ hk]
  · rw [Below.heap_setCell]; show w.heap.size ≠ b8; omega
  · rw [Below.heap_setCell]; show w.heap.size + 1 ≠ b8; omega
theorem RS.cells (h : RS w m v0 b8 W u N L q) : W.cell? ⟨w.heap.size, 1, none⟩ = some v0 ∧ W.cell? ⟨b8, 0, none⟩ = some (.int .i64 m) ∧ W.cell? ⟨b8, 1, none⟩ = some q ∧ W.frozen? ⟨b8, 1, none⟩ = false :=
  ⟨h.i.facts.2.1, h.o.facts.1, h.o.facts.2.1, h.o.facts.2.2.2⟩
end
section
variable {ops : Array Oper} {o : Oper} {a : Act} {w : World} {K : Act → World → Prop} {Q : Exit → Act → World → Prop} {E : Prop}
/-- A slice of one field, in a region that draws. -/
theorem bsF_step {n : Int} {v : ByteArray} (hok : (⟨n, v⟩ : Fd).ok) (hgd : o.guard = none) (x : Operand) (ho : o.op = .buildSlice 22 1 #[(0, x)]) (hx : a.eval x = .agg #[.int .i64 n, .string v])
    (h : ∀ ad w', FG w' (some ad) 1 1 [⟨n, v⟩] → Below w.heap.size w w' → K (a.put o.dst (.slice (some ad) 1 1)) w') :
    if Region.wanted o (yielded ops a.tmps) = true then Oper.wp Try.prog o a w K Q else E := by
  rw [if_pos (wanted_none hgd)]
  obtain ⟨i, hi, hz0, hz1, hz2⟩ := info_parts info51
  refine wp_buildSlice 22 51 1 _ ho (flF [⟨n, v⟩]).toArray i _ Try.underlying22 hi hz0 (by rw [hz1]; decide) (by rw [hz1]; decide) ?_ (h _ _ (new_fg w [⟨n, v⟩] 1 rfl (by omega) (FOk.one hok)) (bel1 _ _))
  have := Great.fill_whole (s := 2) (by decide) [Fd.val ⟨n, v⟩] ((Array.range (1 * i.size)).map ((Fd.val ⟨0, ⟨#[]⟩⟩).cells[· % (Fd.val ⟨0, ⟨#[]⟩⟩).cells.size]!))
    (by intro v hv; simp at hv; subst hv; simp [Fd.val, Value.cells]) (by simp [hz1])
  rw [hz1] at this ⊢
  simpa [hx, Value.cells, Fd.val, flF, Fd.cells] using this
/-- .. appended to a row of the call's own. -/
theorem app_fld_step {W0 : World} {n1 c1 n2 c2 m : Nat} {ao1 : Option Addr} {ad : Addr} {l1 l2 : List Fd}
    (h1 : MkF W0 w (.slice ao1 n1 c1) n1 l1) (h2 : FG w (some ad) n2 c2 l2) (hm : n1 + n2 = m) (hsmall : m ≤ 1000000) (hgd : o.guard = none) (s y : Operand) (ho : o.op = .call { callee := .builtin .append, args := #[s, y], argTypes := #[22, 22] })
    (hs : a.eval s = .slice ao1 n1 c1) (hx : a.eval y = .slice (some ad) n2 c2)
    (h : ∀ ao cap w', MkF W0 w' (.slice ao m cap) m (l1 ++ l2) → Turned (fun k => (Value.slice ao1 n1 c1).ownBlock = some k) w w' → K (a.put o.dst (.slice ao m cap)) w') :
    if Region.wanted o (yielded ops a.tmps) = true then Oper.wp Try.prog o a w K Q else E := by
  subst hm
  rw [if_pos (wanted_none hgd)]
  obtain ⟨i0, hi, hz0, hz1, hz2⟩ := info_parts info51
  refine wp_append_own w s y 22 ho W0.heap.size 51 i0 (Fd.val ⟨0, ⟨#[]⟩⟩) 2 24 Try.underlying22 hi hz0 hz1 hz2 rfl (by decide) _ n1 (flF l1) hs h1.1.1
    ad n2 c2 (flF l2) hx (by rw [flF_len, h2.leq]) (news_at h2) (oneF l2) (by unfold maxLen; omega) (by omega) h1.2.size ?_
  intro v' w' hown' hgrow _
  have hR : RowF W0.heap.size w' v' (n1 + n2) (l1 ++ l2) := ⟨by rw [flF_app]; exact hown', h1.1.2.app h2.ok⟩
  obtain ⟨ao, cap, rfl, _⟩ := hR.form
  have ht := Turned.grown (F := fun k => (Value.slice ao1 n1 c1).ownBlock = some k) hgrow (fun k e => e)
  refine h ao cap w' ⟨hR, h1.2.trans (ht.below ?_ h1.2.size)⟩ ht
  intro k e
  rcases h1.1.1.2 with ⟨e2, h0⟩ | ⟨g, cap, cur, e2, hg, _⟩
  · rw [e2] at e; cases e
  · rw [e2] at e; cases e; exact hg
end
/-- What the region's loads read. -/
def SR (w : World) (v0 : Value) (b o : Nat) (N : Int) (V : ByteArray) (w' : World) : Prop := w'.cell? ⟨w.heap.size, 1, none⟩ = some v0 ∧ w'.cell? ⟨b, o, none⟩ = some (.int .i64 N) ∧ w'.cell? ⟨b, o + 1, none⟩ = some (.string V)
theorem RS.sr {w W : World} {m : Int} {v0 u q : Value} {b8 N' b o : Nat} {N : Int} {V : ByteArray} {L : List Fd} (h : RS w m v0 b8 W u N' L q) (c0 : w.cell? ⟨b, o, none⟩ = some (.int .i64 N)) (c1 : w.cell? ⟨b, o + 1, none⟩ = some (.string V)) : SR w v0 b o N V W :=
  ⟨h.i.facts.2.1, (h.d.2.cell (World.block_lt_of_cell? w _ c0)).trans c0, (h.d.2.cell (World.block_lt_of_cell? w _ c1)).trans c1⟩
theorem set13_no (m : Int) (ao : Option Addr) (len cap : Nat) (l : List Fd) (n : Int) (v : ByteArray) (w : World) (h : FG w ao len cap l) (h0 : -9223372036854775808 ≤ m) (h1 : m ≤ 9223372036854775807) (hv : v.size ≤ 9223372036854775807) (hr : (rightM m l && rightB n v) = false) :
    Calls Try.prog 13 #[.agg #[.int .i64 m, .slice ao len cap], .int .i64 n, .string v] w fun e w' => e = .returned (.tuple #[.agg #[.int .i64 0, .slice none 0 0], .int .i64 27]) ∧ Below w.heap.size w w' := by
  have B1 := hid ((bel1 w (.cells #[.int .i64 m, .slice ao len cap] 24)).alloc (by simp) (.cells #[.int .i64 0, .slice none 0 0] 24))
  have HG := hid (h.below B1.out)
  have HV := hid hv
  have H0 := hid h0
  have H1 := hid h1
  have X1 := hid (VB.new (w.alloc (.cells #[.int .i64 m, .slice ao len cap] 24)) 0 (.slice none 0 0))
  rw [World.size_alloc] at X1
  clear h hv h0 h1
  cases hm : rightM m l
  · have HM := hid hm
    clear hm hr
    go_enter Try.func13, Try.ntmps13
    go_wp2_with (go_at_call 17; refine (isoR17 m _ _ _ l _ HG.out H0.out H1.out).mono ?_; rintro e w2 ⟨rfl, l2⟩; rw [HM.out]; have B2 := hid (sq B1.out l2); have X2 := hid (X1.out.more l2); obtain ⟨x0, x1, x2, x3⟩ := X2.out.facts; clear l2)
    have X2' := hid (X2.out.set 0 (.slice none 0 0))
    have B2' := hid (set_below B2.out (b := w.heap.size + 1) (by omega) (.int .i64 0) (.slice none 0 0))
    obtain ⟨W3, hW3⟩ : ∃ W3, W3 = (w2.setCell ⟨w.heap.size + 1, 0, none⟩ (.int .i64 0)).setCell ⟨w.heap.size + 1, 1, none⟩ (.slice none 0 0) := ⟨_, rfl⟩
    rw [← hW3] at X2' B2' ⊢
    obtain ⟨d0, d1⟩ := X2'.out.ib
    simp [bodyPost, results, Try.results13, go_sem, d0, d1]
    exact B2'.out
  · have HM := hid hm
    have HB : Hid (rightB n v = false) := by unfold Hid; rw [hm] at hr; simpa using hr
    clear hm hr
    go_enter Try.func13, Try.ntmps13
    go_wp2_with (first | (go_at_call 24; have kill := B2.out; refine (right24 n v _ HV.out).mono ?_; rintro e w3 ⟨rfl, l3⟩; rw [HB.out]; have B3 := hid (sq B2.out l3); have X3 := hid (X2.out.more l3); obtain ⟨x0, x1, x2, x3⟩ := X3.out.facts; clear l3 kill X2) | (go_at_call 17; refine (isoR17 m _ _ _ l _ HG.out H0.out H1.out).mono ?_; rintro e w2 ⟨rfl, l2⟩; rw [HM.out]; have B2 := hid (sq B1.out l2); have X2 := hid (X1.out.more l2); clear l2))
    have X3' := hid (X3.out.set 0 (.slice none 0 0))
    have B3' := hid (set_below B3.out (b := w.heap.size + 1) (by omega) (.int .i64 0) (.slice none 0 0))
    obtain ⟨W3, hW3⟩ : ∃ W3, W3 = (w3.setCell ⟨w.heap.size + 1, 0, none⟩ (.int .i64 0)).setCell ⟨w.heap.size + 1, 1, none⟩ (.slice none 0 0) := ⟨_, rfl⟩
    rw [← hW3] at X3' B3' ⊢
    obtain ⟨d0, d1⟩ := X3'.out.ib
    simp [bodyPost, results, Try.results13, go_sem, d0, d1]
    exact B3'.out
set_option maxRecDepth 10000 in
set_option maxHeartbeats 4000000 in
theorem set13_yes (m : Int) (ao : Option Addr) (len cap : Nat) (l : List Fd) (n : Int) (v : ByteArray) (w : World) (h : FG w ao len cap l) (h0 : -9223372036854775808 ≤ m) (h1 : m ≤ 9223372036854775807) (hm : rightM m l = true) (hb : rightB n v = true) :
    Calls Try.prog 13 #[.agg #[.int .i64 m, .slice ao len cap], .int .i64 n, .string v] w fun e w' => ∃ ao' N cap', e = .returned (.tuple #[.agg #[.int .i64 m, .slice ao' N cap'], .int .i64 0]) ∧ MkF w w' (.slice ao' N cap') N (refS n v l false) := by
  have B1 := hid ((bel1 w (.cells #[.int .i64 m, .slice ao len cap] 24)).alloc (by simp) (.cells #[.int .i64 0, .slice none 0 0] 24))
  have HG := hid (h.below B1.out)
  have h9 := msg_few hm
  have HQ := hid h.leq
  have hl9 : len ≤ 95 := by rw [← h.leq]; exact h9
  have HK := hid (right_ok hb)
  have HV : Hid (v.size ≤ 9223372036854775807) := HK.out.2.2
  have I1 := hid ((VB.new w m (.slice ao len cap)).more (bel1 _ (.cells #[.int .i64 0, .slice none 0 0] 24)))
  have X1 := hid (VB.new (w.alloc (.cells #[.int .i64 m, .slice ao len cap] 24)) 0 (.slice none 0 0))
  rw [World.size_alloc] at X1
  have HM := hid hm
  have HB := hid hb
  have HC := hid h.fc
  have H0 := hid h0
  have H1 := hid h1
  clear hm hb h9 h h0 h1
  go_enter Try.func13, Try.ntmps13
  go_wp2_with (first | (go_at_call 24; have kill := B2.out; refine (right24 n v _ HV.out).mono ?_; rintro e w3 ⟨rfl, l3⟩; rw [HB.out]; have B3 := hid (sq B2.out l3); have I3 := hid (I2.out.more l3); have X3 := hid (X2.out.more l3); obtain ⟨i0, i1, _, _⟩ := I3.out.facts; clear l3 kill I2 X2) | (go_at_call 17; refine (isoR17 m _ _ _ l _ HG.out H0.out H1.out).mono ?_; rintro e w2 ⟨rfl, l2⟩; rw [HM.out]; have B2 := hid (sq B1.out l2); have I2 := hid (I1.out.more l2); have X2 := hid (X1.out.more l2); clear l2))
  have HF : Hid (w.heap.size + 1 < w3.heap.size) := X3.out.lt
  have RS0 : Hid (RS w m (.slice ao len cap) w3.heap.size (w3.alloc (.cells #[.int .i64 m, .slice none 0 0] 24)) (.slice none 0 0) 0 [] (.slice none 0 0)) :=
    ⟨(MkF.nil w).more (sq B3.out (bel1 _ _)), I3.out.more (bel1 _ _), X3.out.more (bel1 _ _), VB.new _ _ _, HF.out⟩
  go_loopw [9, 10] (fun tv i wr => ∃ (k N cap' : Nat) (t : Bool) (ao' : Option Addr) (L : List Fd), k ≤ len ∧ i = .int .i64 (k : Int) ∧ tv = .bool t ∧ N ≤ 2 * k ∧ L ++ refS n v (l.drop k) t = refS n v l false ∧ RS w m (.slice ao len cap) w3.heap.size wr (.slice ao' N cap') N L (.slice ao' N cap')) (fun _ i _ => len - (intOf i).toNat)
  case atStart => exact ⟨0, 0, 0, false, none, [], by omega, rfl, rfl, by omega, rfl, RS0.out⟩
  case round =>
    obtain ⟨k, N1, cap1, t, ao1, L, hk, rfl, rfl, hN1, he, hrs⟩ := hrel
    have E := hid he
    have R1 := hid hrs
    obtain ⟨i1', _, o1, o1f⟩ := hrs.cells
    clear he hrs RS0 I1 X1 I3 X3 B1 B2 HG i0 i1
    by_cases hlt : k < len
    · obtain ⟨r, hr, hok, b, o, rfl, e0, e1⟩ := HC.out k hlt
      have c0 := (R1.out.d.2.cell (World.block_lt_of_cell? w _ e0)).trans e0
      have c1 := (R1.out.d.2.cell (World.block_lt_of_cell? w _ e1)).trans e1
      have C0 := hid e0
      have C1 := hid e1
      clear e0 e1
      have HS := hid (refS_step n v t hr)
      obtain ⟨N, V⟩ := r
      simp only at c0 c1 HS C0 C1
      have HRK : Hid ((⟨N, V⟩ : Fd).ok) := hok
      clear hr hok
      cases t
      · by_cases hlt1 : N < n
        · have HS' := hid HS.out
          rw [if_neg (fun e => by omega), if_neg (by omega), show (false || decide (n ≤ N)) = false from by simp; omega] at HS'
          have HE : Hid (L ++ [⟨N, V⟩] ++ refS n v (l.drop (k + 1)) false = refS n v l false) := by
            unfold Hid; rw [← E.out, HS'.out]; simp
          clear HS E HS'
          have j1 : decide (n ≤ N) = false := decide_eq_false (by omega)
          have j2 : ¬ N = n := by omega
          go_wp2
          clear i1' o1 o1f c0 c1
          have RD := hid (R1.out.more (Below.refl _ wr).drew)
          have SD := hid (RD.out.sr C0.out C1.out)
          refine wp_region_noPanic ?_
          refine wp_region_held_drew (S := SR w (.slice (some ⟨b, o, none⟩) len cap) b (o + k * 2) N V) (by kernel_rfl) SD.out (fun hHeld => ?_)
          (refine tk_yes (v := ?_) 0 (some 59) rfl rfl (by kernel_rfl) (by kernel_rfl) (by kernel_rfl) (fun _ _ _ h => h) (by rfl) ?_ hHeld ?_; rotate_left; focus (intro w9 hSw; obtain ⟨s1, s2, s3⟩ := id hSw; go_simp; try with_reducible rfl))
          try simp only [Act.put, List.setIfInBounds_toArray, List.set_cons_zero, List.set_cons_succ]
          (refine tk_yes (v := ?_) 2 (some 61) rfl rfl (by kernel_rfl) (by kernel_rfl) (by kernel_rfl) (fun _ _ _ h => h) (by rfl) ?_ hHeld ?_; rotate_left; focus (intro w9 hSw; obtain ⟨s1, s2, s3⟩ := id hSw; go_simp; try with_reducible rfl))
          try simp only [Act.put, List.setIfInBounds_toArray, List.set_cons_zero, List.set_cons_succ]
          (refine tk_yes (v := .slice (some ⟨b, o, none⟩) len cap) 3 (some 62) rfl rfl (by kernel_rfl) (by kernel_rfl) (by kernel_rfl) (fun _ _ _ h => h) (by rfl) ?_ hHeld ?_; focus (intro w9 hSw; obtain ⟨s1, s2, s3⟩ := id hSw; go_simp))
          try simp only [Act.put, List.setIfInBounds_toArray, List.set_cons_zero, List.set_cons_succ]
          (refine tk_yes (v := ?_) 4 (some 63) rfl rfl (by kernel_rfl) (by kernel_rfl) (by kernel_rfl) (fun _ _ _ h => h) (by rfl) ?_ hHeld ?_; rotate_left; focus (intro w9 hSw; obtain ⟨s1, s2, s3⟩ := id hSw; go_simp; try with_reducible rfl))
          try simp only [Act.put, List.setIfInBounds_toArray, List.set_cons_zero, List.set_cons_succ]
          (refine tk_yes (v := .pointer (some ⟨b, o + k * 2, none⟩)) 5 (some 64) rfl rfl (by kernel_rfl) (by kernel_rfl) (by kernel_rfl) (fun _ _ _ h => h) (by rfl) ?_ hHeld ?_; focus (intro w9 hSw; obtain ⟨s1, s2, s3⟩ := id hSw; go_simp))
          try simp only [Act.put, List.setIfInBounds_toArray, List.set_cons_zero, List.set_cons_succ]
          (refine tk_yes (v := .agg #[.int .i64 N, .string V]) 6 (some 65) rfl rfl (by kernel_rfl) (by kernel_rfl) (by kernel_rfl) (fun _ _ _ h => h) (by rfl) ?_ hHeld ?_; focus (intro w9 hSw; obtain ⟨s1, s2, s3⟩ := id hSw; go_simp))
          try simp only [Act.put, List.setIfInBounds_toArray, List.set_cons_zero, List.set_cons_succ]
          obtain ⟨_, _, q1, _⟩ := RD.out.cells
          refine wpAnyH_ready (rs := [1, 7]) (by kernel_rfl) (by simp) ?_
          refine AllReadyH.cons rfl (fun K hK => ?_) (AllReadyH.cons rfl (fun K hK => ?_) AllReadyH.nil)
          · go_simp
            refine hK.out _ _ hHeld (fun hHeld => ?_)
            clear hK K
            try simp only [Act.put, List.setIfInBounds_toArray, List.set_cons_zero, List.set_cons_succ]
            refine wpAnyH_ready (rs := [7]) (by kernel_rfl) (by simp) ?_
            refine AllReadyH.cons rfl (fun K hK => ?_) AllReadyH.nil
            refine bsF_step HRK.out rfl _ rfl rfl ?_
            intro ag wg gg lg
            have GG := hid gg
            have RG := hid (RD.out.more lg)
            clear gg lg q1
            have SG := hid (RG.out.sr C0.out C1.out)
            refine hK.out _ _ SG.out (fun hHeld => ?_)
            clear hK K
            try simp only [Act.put, List.setIfInBounds_toArray]
            refine wpAnyH_ready (rs := [8]) (by kernel_rfl) (by simp) ?_
            refine AllReadyH.cons (o := { dst := some 67, op := _, type := _, pos := _, after := _, guard := none }) rfl (fun K hK => ?_) AllReadyH.nil
            refine app_fld_step RG.out.d GG.out rfl (by omega) rfl _ _ rfl rfl rfl ?_
            intro ao8 cap8 w8 d8 t8
            have R8 := hid (RG.out.turned d8 t8)
            clear d8 t8 RG
            have S8 := hid (R8.out.sr C0.out C1.out)
            refine hK.out _ _ S8.out (fun hHeld => ?_)
            clear hK K
            try simp only [Act.put]
            (refine tk_yes (v := ?_) 9 (some 68) rfl rfl (by kernel_rfl) (by kernel_rfl) (by kernel_rfl) (fun _ _ _ h => h) (by rfl) ?_ hHeld ?_; rotate_left; focus (intro w9 hSw; obtain ⟨s1, s2, s3⟩ := id hSw; go_simp; try with_reducible rfl))
            try simp only [Act.put]
            refine wpAnyH_ready (rs := [10]) (by kernel_rfl) (by simp) ?_
            refine AllReadyH.cons rfl (fun K hK => ?_) AllReadyH.nil
            obtain ⟨_, p0, p1, p2⟩ := R8.out.cells
            go_simp
            have R9 := hid R8.out.store
            have S9 := hid (R9.out.sr C0.out C1.out)
            obtain ⟨w9, hw9⟩ : ∃ w9, w9 = w8.setCell ⟨w3.heap.size, 1, none⟩ (.slice ao8 (N1 + 1) cap8) := ⟨_, rfl⟩
            rw [← hw9] at R9 S9 ⊢
            clear hw9
            refine hK.out _ _ S9.out (fun hHeld => ?_)
            clear hK K
            try simp only [Act.put, List.setIfInBounds_toArray, List.set_cons_zero, List.set_cons_succ]
            refine wpAnyH_done (by kernel_rfl) ?_ _
            refine NoPanic.normal ?_
            go_wp2
            go_roundw
            case rel => exact ⟨k + 1, _, _, false, _, _, by omega, by go_num, rfl, by omega, HE.out, R9.out⟩
            case measure => simp [intOf]; omega
          · refine bsF_step HRK.out rfl _ rfl rfl ?_
            intro ag wg gg lg
            have GG := hid gg
            have RG := hid (RD.out.more lg)
            clear gg lg q1
            have SG := hid (RG.out.sr C0.out C1.out)
            refine hK.out _ _ SG.out (fun hHeld => ?_)
            clear hK K
            try simp only [Act.put, List.setIfInBounds_toArray]
            obtain ⟨_, _, q1, _⟩ := RG.out.cells
            refine wpAnyH_ready (rs := [1]) (by kernel_rfl) (by simp) ?_
            refine AllReadyH.cons rfl (fun K hK => ?_) AllReadyH.nil
            go_simp
            refine hK.out _ _ hHeld (fun hHeld => ?_)
            clear hK K
            try simp only [Act.put, List.setIfInBounds_toArray, List.set_cons_zero, List.set_cons_succ]
            clear q1
            refine wpAnyH_ready (rs := [8]) (by kernel_rfl) (by simp) ?_
            refine AllReadyH.cons (o := { dst := some 67, op := _, type := _, pos := _, after := _, guard := none }) rfl (fun K hK => ?_) AllReadyH.nil
            refine app_fld_step RG.out.d GG.out rfl (by omega) rfl _ _ rfl rfl rfl ?_
            intro ao8 cap8 w8 d8 t8
            have R8 := hid (RG.out.turned d8 t8)
            clear d8 t8 RG
            have S8 := hid (R8.out.sr C0.out C1.out)
            refine hK.out _ _ S8.out (fun hHeld => ?_)
            clear hK K
            try simp only [Act.put, List.setIfInBounds_toArray, List.set_cons_zero, List.set_cons_succ]
            (refine tk_yes (v := ?_) 9 (some 68) rfl rfl (by kernel_rfl) (by kernel_rfl) (by kernel_rfl) (fun _ _ _ h => h) (by rfl) ?_ hHeld ?_; rotate_left; focus (intro w9 hSw; obtain ⟨s1, s2, s3⟩ := id hSw; go_simp; try with_reducible rfl))
            try simp only [Act.put, List.setIfInBounds_toArray, List.set_cons_zero, List.set_cons_succ]
            refine wpAnyH_ready (rs := [10]) (by kernel_rfl) (by simp) ?_
            refine AllReadyH.cons rfl (fun K hK => ?_) AllReadyH.nil
            obtain ⟨_, p0, p1, p2⟩ := R8.out.cells
            go_simp
            have R9 := hid R8.out.store
            have S9 := hid (R9.out.sr C0.out C1.out)
            obtain ⟨w9, hw9⟩ : ∃ w9, w9 = w8.setCell ⟨w3.heap.size, 1, none⟩ (.slice ao8 (N1 + 1) cap8) := ⟨_, rfl⟩
            rw [← hw9] at R9 S9 ⊢
            clear hw9
            refine hK.out _ _ S9.out (fun hHeld => ?_)
            clear hK K
            try simp only [Act.put, List.setIfInBounds_toArray, List.set_cons_zero, List.set_cons_succ]
            refine wpAnyH_done (by kernel_rfl) ?_ _
            refine NoPanic.normal ?_
            go_wp2
            go_roundw
            case rel => exact ⟨k + 1, _, _, false, _, _, by omega, by go_num, rfl, by omega, HE.out, R9.out⟩
            case measure => simp [intOf]; omega
        · by_cases hN : N = n
          · have HS' := hid HS.out
            rw [if_pos ⟨by omega, rfl⟩, if_pos hN, show (false || decide (n ≤ N)) = true from by simp; omega] at HS'
            have HE : Hid (L ++ [⟨n, v⟩] ++ refS n v (l.drop (k + 1)) true = refS n v l false) := by
              unfold Hid; rw [← E.out, HS'.out]; simp
            clear HS E HS'
            have hN' := hN.symm
            clear hN
            subst hN'
            go_upto_region 9 with (fail)
            go_upto_region 11 with (first | (refine app_flds (W0 := w) R2.out.d G5.out rfl (by omega) rfl _ _ rfl rfl rfl ?_; intro ao6 cap6 w6 d6 t6; have R3 := hid (R2.out.turned d6 t6); clear i1' o1 o1f; obtain ⟨i1', _, o1, o1f⟩ := R3.out.cells; have c0 := (R3.out.d.2.cell (World.block_lt_of_cell? w _ C0.out)).trans C0.out; clear d6 t6 R2) | (have kill := R1.out; clear kill; refine bsF HK.out rfl _ rfl rfl ?_; intro ag5 w5 g5 l5; have G5 := hid g5; have R2 := hid (R1.out.more l5); obtain ⟨i1', _, o1, o1f⟩ := R2.out.cells; clear g5 l5 R1))
            have R9 := hid R3.out.store
            clear i1' o1 o1f c0 c1 R3
            obtain ⟨w4, hw4⟩ : ∃ w4, w4 = w6.setCell ⟨w3.heap.size, 1, none⟩ (.slice ao6 (N1 + 1) cap6) := ⟨_, rfl⟩
            rw [← hw4] at R9 ⊢
            clear hw4
            obtain ⟨i1', _, _, _⟩ := R9.out.cells
            have c0 := (R9.out.d.2.cell (World.block_lt_of_cell? w _ C0.out)).trans C0.out
            go_wp2
            go_roundw
            case rel => exact ⟨k + 1, _, _, true, _, _, by omega, by go_num, rfl, by omega, HE.out, R9.out⟩
            case measure => simp [intOf]; omega
          · have HS' := hid HS.out
            rw [if_pos ⟨by omega, rfl⟩, if_neg (by omega), show (false || decide (n ≤ N)) = true from by simp; omega] at HS'
            have HE : Hid (L ++ [⟨n, v⟩] ++ [⟨N, V⟩] ++ refS n v (l.drop (k + 1)) true = refS n v l false) := by
              unfold Hid; rw [← E.out, HS'.out]; simp
            clear HS E HS'
            have j1 : decide (n ≤ N) = true := decide_eq_true (by omega)
            have j2 : ¬ N = n := by omega
            go_upto_region 9 with (fail)
            go_upto_region 11 with (first | (refine app_flds (W0 := w) R2.out.d G5.out rfl (by omega) rfl _ _ rfl rfl rfl ?_; intro ao6 cap6 w6 d6 t6; have R3 := hid (R2.out.turned d6 t6); clear i1' o1 o1f; obtain ⟨i1', _, o1, o1f⟩ := R3.out.cells; have c0 := (R3.out.d.2.cell (World.block_lt_of_cell? w _ C0.out)).trans C0.out; clear d6 t6 R2) | (have kill := R1.out; clear kill; refine bsF HK.out rfl _ rfl rfl ?_; intro ag5 w5 g5 l5; have G5 := hid g5; have R2 := hid (R1.out.more l5); obtain ⟨i1', _, o1, o1f⟩ := R2.out.cells; clear g5 l5 R1))
            have R4 := hid R3.out.store
            clear i1' o1 o1f c0 c1 R3
            obtain ⟨w4, hw4⟩ : ∃ w4, w4 = w6.setCell ⟨w3.heap.size, 1, none⟩ (.slice ao6 (N1 + 1) cap6) := ⟨_, rfl⟩
            rw [← hw4] at R4 ⊢
            clear hw4
            obtain ⟨i1', _, _, _⟩ := R4.out.cells
            have c0 := (R4.out.d.2.cell (World.block_lt_of_cell? w _ C0.out)).trans C0.out
            go_wp2
            clear i1' c0
            have RD := hid (R4.out.more (Below.refl _ w4).drew)
            have SD := hid (RD.out.sr C0.out C1.out)
            refine wp_region_noPanic ?_
            refine wp_region_held_drew (S := SR w (.slice (some ⟨b, o, none⟩) len cap) b (o + k * 2) N V) (by kernel_rfl) SD.out (fun hHeld => ?_)
            (refine tk_yes (v := ?_) 0 (some 59) rfl rfl (by kernel_rfl) (by kernel_rfl) (by kernel_rfl) (fun _ _ _ h => h) (by rfl) ?_ hHeld ?_; rotate_left; focus (intro w9 hSw; obtain ⟨s1, s2, s3⟩ := id hSw; go_simp; try with_reducible rfl))
            try simp only [Act.put, List.setIfInBounds_toArray, List.set_cons_zero, List.set_cons_succ]
            (refine tk_yes (v := ?_) 2 (some 61) rfl rfl (by kernel_rfl) (by kernel_rfl) (by kernel_rfl) (fun _ _ _ h => h) (by rfl) ?_ hHeld ?_; rotate_left; focus (intro w9 hSw; obtain ⟨s1, s2, s3⟩ := id hSw; go_simp; try with_reducible rfl))
            try simp only [Act.put, List.setIfInBounds_toArray, List.set_cons_zero, List.set_cons_succ]
            (refine tk_yes (v := .slice (some ⟨b, o, none⟩) len cap) 3 (some 62) rfl rfl (by kernel_rfl) (by kernel_rfl) (by kernel_rfl) (fun _ _ _ h => h) (by rfl) ?_ hHeld ?_; focus (intro w9 hSw; obtain ⟨s1, s2, s3⟩ := id hSw; go_simp))
            try simp only [Act.put, List.setIfInBounds_toArray, List.set_cons_zero, List.set_cons_succ]
            (refine tk_yes (v := ?_) 4 (some 63) rfl rfl (by kernel_rfl) (by kernel_rfl) (by kernel_rfl) (fun _ _ _ h => h) (by rfl) ?_ hHeld ?_; rotate_left; focus (intro w9 hSw; obtain ⟨s1, s2, s3⟩ := id hSw; go_simp; try with_reducible rfl))
            try simp only [Act.put, List.setIfInBounds_toArray, List.set_cons_zero, List.set_cons_succ]
            (refine tk_yes (v := .pointer (some ⟨b, o + k * 2, none⟩)) 5 (some 64) rfl rfl (by kernel_rfl) (by kernel_rfl) (by kernel_rfl) (fun _ _ _ h => h) (by rfl) ?_ hHeld ?_; focus (intro w9 hSw; obtain ⟨s1, s2, s3⟩ := id hSw; go_simp))
            try simp only [Act.put, List.setIfInBounds_toArray, List.set_cons_zero, List.set_cons_succ]
            (refine tk_yes (v := .agg #[.int .i64 N, .string V]) 6 (some 65) rfl rfl (by kernel_rfl) (by kernel_rfl) (by kernel_rfl) (fun _ _ _ h => h) (by rfl) ?_ hHeld ?_; focus (intro w9 hSw; obtain ⟨s1, s2, s3⟩ := id hSw; go_simp))
            try simp only [Act.put, List.setIfInBounds_toArray, List.set_cons_zero, List.set_cons_succ]
            obtain ⟨_, _, q1, _⟩ := RD.out.cells
            refine wpAnyH_ready (rs := [1, 7]) (by kernel_rfl) (by simp) ?_
            refine AllReadyH.cons rfl (fun K hK => ?_) (AllReadyH.cons rfl (fun K hK => ?_) AllReadyH.nil)
            · go_simp
              refine hK.out _ _ hHeld (fun hHeld => ?_)
              clear hK K
              try simp only [Act.put, List.setIfInBounds_toArray, List.set_cons_zero, List.set_cons_succ]
              refine wpAnyH_ready (rs := [7]) (by kernel_rfl) (by simp) ?_
              refine AllReadyH.cons rfl (fun K hK => ?_) AllReadyH.nil
              refine bsF_step HRK.out rfl _ rfl rfl ?_
              intro ag wg gg lg
              have GG := hid gg
              have RG := hid (RD.out.more lg)
              clear gg lg q1
              have SG := hid (RG.out.sr C0.out C1.out)
              refine hK.out _ _ SG.out (fun hHeld => ?_)
              clear hK K
              try simp only [Act.put, List.setIfInBounds_toArray]
              refine wpAnyH_ready (rs := [8]) (by kernel_rfl) (by simp) ?_
              refine AllReadyH.cons (o := { dst := some 67, op := _, type := _, pos := _, after := _, guard := none }) rfl (fun K hK => ?_) AllReadyH.nil
              refine app_fld_step RG.out.d GG.out rfl (by omega) rfl _ _ rfl rfl rfl ?_
              intro ao8 cap8 w8 d8 t8
              have R8 := hid (RG.out.turned d8 t8)
              clear d8 t8 RG
              have S8 := hid (R8.out.sr C0.out C1.out)
              refine hK.out _ _ S8.out (fun hHeld => ?_)
              clear hK K
              try simp only [Act.put]
              (refine tk_yes (v := ?_) 9 (some 68) rfl rfl (by kernel_rfl) (by kernel_rfl) (by kernel_rfl) (fun _ _ _ h => h) (by rfl) ?_ hHeld ?_; rotate_left; focus (intro w9 hSw; obtain ⟨s1, s2, s3⟩ := id hSw; go_simp; try with_reducible rfl))
              try simp only [Act.put]
              refine wpAnyH_ready (rs := [10]) (by kernel_rfl) (by simp) ?_
              refine AllReadyH.cons rfl (fun K hK => ?_) AllReadyH.nil
              obtain ⟨_, p0, p1, p2⟩ := R8.out.cells
              go_simp
              have R9 := hid R8.out.store
              have S9 := hid (R9.out.sr C0.out C1.out)
              obtain ⟨w9, hw9⟩ : ∃ w9, w9 = w8.setCell ⟨w3.heap.size, 1, none⟩ (.slice ao8 (N1 + 1 + 1) cap8) := ⟨_, rfl⟩
              rw [← hw9] at R9 S9 ⊢
              clear hw9
              refine hK.out _ _ S9.out (fun hHeld => ?_)
              clear hK K
              try simp only [Act.put, List.setIfInBounds_toArray, List.set_cons_zero, List.set_cons_succ]
              refine wpAnyH_done (by kernel_rfl) ?_ _
              refine NoPanic.normal ?_
              go_wp2
              go_roundw
              case rel => exact ⟨k + 1, _, _, true, _, _, by omega, by go_num, rfl, by omega, HE.out, R9.out⟩
              case measure => simp [intOf]; omega
            · refine bsF_step HRK.out rfl _ rfl rfl ?_
              intro ag wg gg lg
              have GG := hid gg
              have RG := hid (RD.out.more lg)
              clear gg lg q1
              have SG := hid (RG.out.sr C0.out C1.out)
              refine hK.out _ _ SG.out (fun hHeld => ?_)
              clear hK K
              try simp only [Act.put, List.setIfInBounds_toArray]
              obtain ⟨_, _, q1, _⟩ := RG.out.cells
              refine wpAnyH_ready (rs := [1]) (by kernel_rfl) (by simp) ?_
              refine AllReadyH.cons rfl (fun K hK => ?_) AllReadyH.nil
              go_simp
              refine hK.out _ _ hHeld (fun hHeld => ?_)
              clear hK K
              try simp only [Act.put, List.setIfInBounds_toArray, List.set_cons_zero, List.set_cons_succ]
              clear q1
              refine wpAnyH_ready (rs := [8]) (by kernel_rfl) (by simp) ?_
              refine AllReadyH.cons (o := { dst := some 67, op := _, type := _, pos := _, after := _, guard := none }) rfl (fun K hK => ?_) AllReadyH.nil
              refine app_fld_step RG.out.d GG.out rfl (by omega) rfl _ _ rfl rfl rfl ?_
              intro ao8 cap8 w8 d8 t8
              have R8 := hid (RG.out.turned d8 t8)
              clear d8 t8 RG
              have S8 := hid (R8.out.sr C0.out C1.out)
              refine hK.out _ _ S8.out (fun hHeld => ?_)
              clear hK K
              try simp only [Act.put, List.setIfInBounds_toArray, List.set_cons_zero, List.set_cons_succ]
              (refine tk_yes (v := ?_) 9 (some 68) rfl rfl (by kernel_rfl) (by kernel_rfl) (by kernel_rfl) (fun _ _ _ h => h) (by rfl) ?_ hHeld ?_; rotate_left; focus (intro w9 hSw; obtain ⟨s1, s2, s3⟩ := id hSw; go_simp; try with_reducible rfl))
              try simp only [Act.put, List.setIfInBounds_toArray, List.set_cons_zero, List.set_cons_succ]
              refine wpAnyH_ready (rs := [10]) (by kernel_rfl) (by simp) ?_
              refine AllReadyH.cons rfl (fun K hK => ?_) AllReadyH.nil
              obtain ⟨_, p0, p1, p2⟩ := R8.out.cells
              go_simp
              have R9 := hid R8.out.store
              have S9 := hid (R9.out.sr C0.out C1.out)
              obtain ⟨w9, hw9⟩ : ∃ w9, w9 = w8.setCell ⟨w3.heap.size, 1, none⟩ (.slice ao8 (N1 + 1 + 1) cap8) := ⟨_, rfl⟩
              rw [← hw9] at R9 S9 ⊢
              clear hw9
              refine hK.out _ _ S9.out (fun hHeld => ?_)
              clear hK K
              try simp only [Act.put, List.setIfInBounds_toArray, List.set_cons_zero, List.set_cons_succ]
              refine wpAnyH_done (by kernel_rfl) ?_ _
              refine NoPanic.normal ?_
              go_wp2
              go_roundw
              case rel => exact ⟨k + 1, _, _, true, _, _, by omega, by go_num, rfl, by omega, HE.out, R9.out⟩
              case measure => simp [intOf]; omega
      · by_cases hlt1 : N < n
        · have HS' := hid HS.out
          rw [if_neg (fun e => by omega), if_neg (by omega), show (true || decide (n ≤ N)) = true from by rfl] at HS'
          have HE : Hid (L ++ [⟨N, V⟩] ++ refS n v (l.drop (k + 1)) true = refS n v l false) := by
            unfold Hid; rw [← E.out, HS'.out]; simp
          clear HS E HS'
          have j1 : decide (n ≤ N) = false := decide_eq_false (by omega)
          have j2 : ¬ N = n := by omega
          go_wp2
          clear i1' o1 o1f c0 c1
          have RD := hid (R1.out.more (Below.refl _ wr).drew)
          have SD := hid (RD.out.sr C0.out C1.out)
          refine wp_region_noPanic ?_
          refine wp_region_held_drew (S := SR w (.slice (some ⟨b, o, none⟩) len cap) b (o + k * 2) N V) (by kernel_rfl) SD.out (fun hHeld => ?_)
          (refine tk_yes (v := ?_) 0 (some 59) rfl rfl (by kernel_rfl) (by kernel_rfl) (by kernel_rfl) (fun _ _ _ h => h) (by rfl) ?_ hHeld ?_; rotate_left; focus (intro w9 hSw; obtain ⟨s1, s2, s3⟩ := id hSw; go_simp; try with_reducible rfl))
          try simp only [Act.put, List.setIfInBounds_toArray, List.set_cons_zero, List.set_cons_succ]
          (refine tk_yes (v := ?_) 2 (some 61) rfl rfl (by kernel_rfl) (by kernel_rfl) (by kernel_rfl) (fun _ _ _ h => h) (by rfl) ?_ hHeld ?_; rotate_left; focus (intro w9 hSw; obtain ⟨s1, s2, s3⟩ := id hSw; go_simp; try with_reducible rfl))
          try simp only [Act.put, List.setIfInBounds_toArray, List.set_cons_zero, List.set_cons_succ]
          (refine tk_yes (v := .slice (some ⟨b, o, none⟩) len cap) 3 (some 62) rfl rfl (by kernel_rfl) (by kernel_rfl) (by kernel_rfl) (fun _ _ _ h => h) (by rfl) ?_ hHeld ?_; focus (intro w9 hSw; obtain ⟨s1, s2, s3⟩ := id hSw; go_simp))
          try simp only [Act.put, List.setIfInBounds_toArray, List.set_cons_zero, List.set_cons_succ]
          (refine tk_yes (v := ?_) 4 (some 63) rfl rfl (by kernel_rfl) (by kernel_rfl) (by kernel_rfl) (fun _ _ _ h => h) (by rfl) ?_ hHeld ?_; rotate_left; focus (intro w9 hSw; obtain ⟨s1, s2, s3⟩ := id hSw; go_simp; try with_reducible rfl))
          try simp only [Act.put, List.setIfInBounds_toArray, List.set_cons_zero, List.set_cons_succ]
          (refine tk_yes (v := .pointer (some ⟨b, o + k * 2, none⟩)) 5 (some 64) rfl rfl (by kernel_rfl) (by kernel_rfl) (by kernel_rfl) (fun _ _ _ h => h) (by rfl) ?_ hHeld ?_; focus (intro w9 hSw; obtain ⟨s1, s2, s3⟩ := id hSw; go_simp))
          try simp only [Act.put, List.setIfInBounds_toArray, List.set_cons_zero, List.set_cons_succ]
          (refine tk_yes (v := .agg #[.int .i64 N, .string V]) 6 (some 65) rfl rfl (by kernel_rfl) (by kernel_rfl) (by kernel_rfl) (fun _ _ _ h => h) (by rfl) ?_ hHeld ?_; focus (intro w9 hSw; obtain ⟨s1, s2, s3⟩ := id hSw; go_simp))
          try simp only [Act.put, List.setIfInBounds_toArray, List.set_cons_zero, List.set_cons_succ]
          obtain ⟨_, _, q1, _⟩ := RD.out.cells
          refine wpAnyH_ready (rs := [1, 7]) (by kernel_rfl) (by simp) ?_
          refine AllReadyH.cons rfl (fun K hK => ?_) (AllReadyH.cons rfl (fun K hK => ?_) AllReadyH.nil)
          · go_simp
            refine hK.out _ _ hHeld (fun hHeld => ?_)
            clear hK K
            try simp only [Act.put, List.setIfInBounds_toArray, List.set_cons_zero, List.set_cons_succ]
            refine wpAnyH_ready (rs := [7]) (by kernel_rfl) (by simp) ?_
            refine AllReadyH.cons rfl (fun K hK => ?_) AllReadyH.nil
            refine bsF_step HRK.out rfl _ rfl rfl ?_
            intro ag wg gg lg
            have GG := hid gg
            have RG := hid (RD.out.more lg)
            clear gg lg q1
            have SG := hid (RG.out.sr C0.out C1.out)
            refine hK.out _ _ SG.out (fun hHeld => ?_)
            clear hK K
            try simp only [Act.put, List.setIfInBounds_toArray]
            refine wpAnyH_ready (rs := [8]) (by kernel_rfl) (by simp) ?_
            refine AllReadyH.cons (o := { dst := some 67, op := _, type := _, pos := _, after := _, guard := none }) rfl (fun K hK => ?_) AllReadyH.nil
            refine app_fld_step RG.out.d GG.out rfl (by omega) rfl _ _ rfl rfl rfl ?_
            intro ao8 cap8 w8 d8 t8
            have R8 := hid (RG.out.turned d8 t8)
            clear d8 t8 RG
            have S8 := hid (R8.out.sr C0.out C1.out)
            refine hK.out _ _ S8.out (fun hHeld => ?_)
            clear hK K
            try simp only [Act.put]
            (refine tk_yes (v := ?_) 9 (some 68) rfl rfl (by kernel_rfl) (by kernel_rfl) (by kernel_rfl) (fun _ _ _ h => h) (by rfl) ?_ hHeld ?_; rotate_left; focus (intro w9 hSw; obtain ⟨s1, s2, s3⟩ := id hSw; go_simp; try with_reducible rfl))
            try simp only [Act.put]
            refine wpAnyH_ready (rs := [10]) (by kernel_rfl) (by simp) ?_
            refine AllReadyH.cons rfl (fun K hK => ?_) AllReadyH.nil
            obtain ⟨_, p0, p1, p2⟩ := R8.out.cells
            go_simp
            have R9 := hid R8.out.store
            have S9 := hid (R9.out.sr C0.out C1.out)
            obtain ⟨w9, hw9⟩ : ∃ w9, w9 = w8.setCell ⟨w3.heap.size, 1, none⟩ (.slice ao8 (N1 + 1) cap8) := ⟨_, rfl⟩
            rw [← hw9] at R9 S9 ⊢
            clear hw9
            refine hK.out _ _ S9.out (fun hHeld => ?_)
            clear hK K
            try simp only [Act.put, List.setIfInBounds_toArray, List.set_cons_zero, List.set_cons_succ]
            refine wpAnyH_done (by kernel_rfl) ?_ _
            refine NoPanic.normal ?_
            go_wp2
            go_roundw
            case rel => exact ⟨k + 1, _, _, true, _, _, by omega, by go_num, rfl, by omega, HE.out, R9.out⟩
            case measure => simp [intOf]; omega
          · refine bsF_step HRK.out rfl _ rfl rfl ?_
            intro ag wg gg lg
            have GG := hid gg
            have RG := hid (RD.out.more lg)
            clear gg lg q1
            have SG := hid (RG.out.sr C0.out C1.out)
            refine hK.out _ _ SG.out (fun hHeld => ?_)
            clear hK K
            try simp only [Act.put, List.setIfInBounds_toArray]
            obtain ⟨_, _, q1, _⟩ := RG.out.cells
            refine wpAnyH_ready (rs := [1]) (by kernel_rfl) (by simp) ?_
            refine AllReadyH.cons rfl (fun K hK => ?_) AllReadyH.nil
            go_simp
            refine hK.out _ _ hHeld (fun hHeld => ?_)
            clear hK K
            try simp only [Act.put, List.setIfInBounds_toArray, List.set_cons_zero, List.set_cons_succ]
            clear q1
            refine wpAnyH_ready (rs := [8]) (by kernel_rfl) (by simp) ?_
            refine AllReadyH.cons (o := { dst := some 67, op := _, type := _, pos := _, after := _, guard := none }) rfl (fun K hK => ?_) AllReadyH.nil
            refine app_fld_step RG.out.d GG.out rfl (by omega) rfl _ _ rfl rfl rfl ?_
            intro ao8 cap8 w8 d8 t8
            have R8 := hid (RG.out.turned d8 t8)
            clear d8 t8 RG
            have S8 := hid (R8.out.sr C0.out C1.out)
            refine hK.out _ _ S8.out (fun hHeld => ?_)
            clear hK K
            try simp only [Act.put, List.setIfInBounds_toArray, List.set_cons_zero, List.set_cons_succ]
            (refine tk_yes (v := ?_) 9 (some 68) rfl rfl (by kernel_rfl) (by kernel_rfl) (by kernel_rfl) (fun _ _ _ h => h) (by rfl) ?_ hHeld ?_; rotate_left; focus (intro w9 hSw; obtain ⟨s1, s2, s3⟩ := id hSw; go_simp; try with_reducible rfl))
            try simp only [Act.put, List.setIfInBounds_toArray, List.set_cons_zero, List.set_cons_succ]
            refine wpAnyH_ready (rs := [10]) (by kernel_rfl) (by simp) ?_
            refine AllReadyH.cons rfl (fun K hK => ?_) AllReadyH.nil
            obtain ⟨_, p0, p1, p2⟩ := R8.out.cells
            go_simp
            have R9 := hid R8.out.store
            have S9 := hid (R9.out.sr C0.out C1.out)
            obtain ⟨w9, hw9⟩ : ∃ w9, w9 = w8.setCell ⟨w3.heap.size, 1, none⟩ (.slice ao8 (N1 + 1) cap8) := ⟨_, rfl⟩
            rw [← hw9] at R9 S9 ⊢
            clear hw9
            refine hK.out _ _ S9.out (fun hHeld => ?_)
            clear hK K
            try simp only [Act.put, List.setIfInBounds_toArray, List.set_cons_zero, List.set_cons_succ]
            refine wpAnyH_done (by kernel_rfl) ?_ _
            refine NoPanic.normal ?_
            go_wp2
            go_roundw
            case rel => exact ⟨k + 1, _, _, true, _, _, by omega, by go_num, rfl, by omega, HE.out, R9.out⟩
            case measure => simp [intOf]; omega
        · by_cases hN : N = n
          · have HS' := hid HS.out
            rw [if_neg (fun e => by cases e.2), if_pos hN, show (true || decide (n ≤ N)) = true from by rfl] at HS'
            have HE : Hid (L ++ refS n v (l.drop (k + 1)) true = refS n v l false) := by
              unfold Hid; rw [← E.out, HS'.out]; simp
            clear HS E HS'
            have hN' := hN.symm
            clear hN
            subst hN'
            go_wp2
            go_roundw
            case rel => exact ⟨k + 1, _, _, true, _, _, by omega, by go_num, rfl, by omega, HE.out, R1.out⟩
            case measure => simp [intOf]; omega
          · have HS' := hid HS.out
            rw [if_neg (fun e => by cases e.2), if_neg (by omega), show (true || decide (n ≤ N)) = true from by rfl] at HS'
            have HE : Hid (L ++ [⟨N, V⟩] ++ refS n v (l.drop (k + 1)) true = refS n v l false) := by
              unfold Hid; rw [← E.out, HS'.out]; simp
            clear HS E HS'
            have j1 : decide (n ≤ N) = true := decide_eq_true (by omega)
            have j2 : ¬ N = n := by omega
            go_wp2
            clear i1' o1 o1f c0 c1
            have RD := hid (R1.out.more (Below.refl _ wr).drew)
            have SD := hid (RD.out.sr C0.out C1.out)
            refine wp_region_noPanic ?_
            refine wp_region_held_drew (S := SR w (.slice (some ⟨b, o, none⟩) len cap) b (o + k * 2) N V) (by kernel_rfl) SD.out (fun hHeld => ?_)
            (refine tk_yes (v := ?_) 0 (some 59) rfl rfl (by kernel_rfl) (by kernel_rfl) (by kernel_rfl) (fun _ _ _ h => h) (by rfl) ?_ hHeld ?_; rotate_left; focus (intro w9 hSw; obtain ⟨s1, s2, s3⟩ := id hSw; go_simp; try with_reducible rfl))
            try simp only [Act.put, List.setIfInBounds_toArray, List.set_cons_zero, List.set_cons_succ]
            (refine tk_yes (v := ?_) 2 (some 61) rfl rfl (by kernel_rfl) (by kernel_rfl) (by kernel_rfl) (fun _ _ _ h => h) (by rfl) ?_ hHeld ?_; rotate_left; focus (intro w9 hSw; obtain ⟨s1, s2, s3⟩ := id hSw; go_simp; try with_reducible rfl))
            try simp only [Act.put, List.setIfInBounds_toArray, List.set_cons_zero, List.set_cons_succ]
            (refine tk_yes (v := .slice (some ⟨b, o, none⟩) len cap) 3 (some 62) rfl rfl (by kernel_rfl) (by kernel_rfl) (by kernel_rfl) (fun _ _ _ h => h) (by rfl) ?_ hHeld ?_; focus (intro w9 hSw; obtain ⟨s1, s2, s3⟩ := id hSw; go_simp))
            try simp only [Act.put, List.setIfInBounds_toArray, List.set_cons_zero, List.set_cons_succ]
            (refine tk_yes (v := ?_) 4 (some 63) rfl rfl (by kernel_rfl) (by kernel_rfl) (by kernel_rfl) (fun _ _ _ h => h) (by rfl) ?_ hHeld ?_; rotate_left; focus (intro w9 hSw; obtain ⟨s1, s2, s3⟩ := id hSw; go_simp; try with_reducible rfl))
            try simp only [Act.put, List.setIfInBounds_toArray, List.set_cons_zero, List.set_cons_succ]
            (refine tk_yes (v := .pointer (some ⟨b, o + k * 2, none⟩)) 5 (some 64) rfl rfl (by kernel_rfl) (by kernel_rfl) (by kernel_rfl) (fun _ _ _ h => h) (by rfl) ?_ hHeld ?_; focus (intro w9 hSw; obtain ⟨s1, s2, s3⟩ := id hSw; go_simp))
            try simp only [Act.put, List.setIfInBounds_toArray, List.set_cons_zero, List.set_cons_succ]
            (refine tk_yes (v := .agg #[.int .i64 N, .string V]) 6 (some 65) rfl rfl (by kernel_rfl) (by kernel_rfl) (by kernel_rfl) (fun _ _ _ h => h) (by rfl) ?_ hHeld ?_; focus (intro w9 hSw; obtain ⟨s1, s2, s3⟩ := id hSw; go_simp))
            try simp only [Act.put, List.setIfInBounds_toArray, List.set_cons_zero, List.set_cons_succ]
            obtain ⟨_, _, q1, _⟩ := RD.out.cells
            refine wpAnyH_ready (rs := [1, 7]) (by kernel_rfl) (by simp) ?_
            refine AllReadyH.cons rfl (fun K hK => ?_) (AllReadyH.cons rfl (fun K hK => ?_) AllReadyH.nil)
            · go_simp
              refine hK.out _ _ hHeld (fun hHeld => ?_)
              clear hK K
              try simp only [Act.put, List.setIfInBounds_toArray, List.set_cons_zero, List.set_cons_succ]
              refine wpAnyH_ready (rs := [7]) (by kernel_rfl) (by simp) ?_
              refine AllReadyH.cons rfl (fun K hK => ?_) AllReadyH.nil
              refine bsF_step HRK.out rfl _ rfl rfl ?_
              intro ag wg gg lg
              have GG := hid gg
              have RG := hid (RD.out.more lg)
              clear gg lg q1
              have SG := hid (RG.out.sr C0.out C1.out)
              refine hK.out _ _ SG.out (fun hHeld => ?_)
              clear hK K
              try simp only [Act.put, List.setIfInBounds_toArray]
              refine wpAnyH_ready (rs := [8]) (by kernel_rfl) (by simp) ?_
              refine AllReadyH.cons (o := { dst := some 67, op := _, type := _, pos := _, after := _, guard := none }) rfl (fun K hK => ?_) AllReadyH.nil
              refine app_fld_step RG.out.d GG.out rfl (by omega) rfl _ _ rfl rfl rfl ?_
              intro ao8 cap8 w8 d8 t8
              have R8 := hid (RG.out.turned d8 t8)
              clear d8 t8 RG
              have S8 := hid (R8.out.sr C0.out C1.out)
              refine hK.out _ _ S8.out (fun hHeld => ?_)
              clear hK K
              try simp only [Act.put]
              (refine tk_yes (v := ?_) 9 (some 68) rfl rfl (by kernel_rfl) (by kernel_rfl) (by kernel_rfl) (fun _ _ _ h => h) (by rfl) ?_ hHeld ?_; rotate_left; focus (intro w9 hSw; obtain ⟨s1, s2, s3⟩ := id hSw; go_simp; try with_reducible rfl))
              try simp only [Act.put]
              refine wpAnyH_ready (rs := [10]) (by kernel_rfl) (by simp) ?_
              refine AllReadyH.cons rfl (fun K hK => ?_) AllReadyH.nil
              obtain ⟨_, p0, p1, p2⟩ := R8.out.cells
              go_simp
              have R9 := hid R8.out.store
              have S9 := hid (R9.out.sr C0.out C1.out)
              obtain ⟨w9, hw9⟩ : ∃ w9, w9 = w8.setCell ⟨w3.heap.size, 1, none⟩ (.slice ao8 (N1 + 1) cap8) := ⟨_, rfl⟩
              rw [← hw9] at R9 S9 ⊢
              clear hw9
              refine hK.out _ _ S9.out (fun hHeld => ?_)
              clear hK K
              try simp only [Act.put, List.setIfInBounds_toArray, List.set_cons_zero, List.set_cons_succ]
              refine wpAnyH_done (by kernel_rfl) ?_ _
              refine NoPanic.normal ?_
              go_wp2
              go_roundw
              case rel => exact ⟨k + 1, _, _, true, _, _, by omega, by go_num, rfl, by omega, HE.out, R9.out⟩
              case measure => simp [intOf]; omega
            · refine bsF_step HRK.out rfl _ rfl rfl ?_
              intro ag wg gg lg
              have GG := hid gg
              have RG := hid (RD.out.more lg)
              clear gg lg q1
              have SG := hid (RG.out.sr C0.out C1.out)
              refine hK.out _ _ SG.out (fun hHeld => ?_)
              clear hK K
              try simp only [Act.put, List.setIfInBounds_toArray]
              obtain ⟨_, _, q1, _⟩ := RG.out.cells
              refine wpAnyH_ready (rs := [1]) (by kernel_rfl) (by simp) ?_
              refine AllReadyH.cons rfl (fun K hK => ?_) AllReadyH.nil
              go_simp
              refine hK.out _ _ hHeld (fun hHeld => ?_)
              clear hK K
              try simp only [Act.put, List.setIfInBounds_toArray, List.set_cons_zero, List.set_cons_succ]
              clear q1
              refine wpAnyH_ready (rs := [8]) (by kernel_rfl) (by simp) ?_
              refine AllReadyH.cons (o := { dst := some 67, op := _, type := _, pos := _, after := _, guard := none }) rfl (fun K hK => ?_) AllReadyH.nil
              refine app_fld_step RG.out.d GG.out rfl (by omega) rfl _ _ rfl rfl rfl ?_
              intro ao8 cap8 w8 d8 t8
              have R8 := hid (RG.out.turned d8 t8)
              clear d8 t8 RG
              have S8 := hid (R8.out.sr C0.out C1.out)
              refine hK.out _ _ S8.out (fun hHeld => ?_)
              clear hK K
              try simp only [Act.put, List.setIfInBounds_toArray, List.set_cons_zero, List.set_cons_succ]
              (refine tk_yes (v := ?_) 9 (some 68) rfl rfl (by kernel_rfl) (by kernel_rfl) (by kernel_rfl) (fun _ _ _ h => h) (by rfl) ?_ hHeld ?_; rotate_left; focus (intro w9 hSw; obtain ⟨s1, s2, s3⟩ := id hSw; go_simp; try with_reducible rfl))
              try simp only [Act.put, List.setIfInBounds_toArray, List.set_cons_zero, List.set_cons_succ]
              refine wpAnyH_ready (rs := [10]) (by kernel_rfl) (by simp) ?_
              refine AllReadyH.cons rfl (fun K hK => ?_) AllReadyH.nil
              obtain ⟨_, p0, p1, p2⟩ := R8.out.cells
              go_simp
              have R9 := hid R8.out.store
              have S9 := hid (R9.out.sr C0.out C1.out)
              obtain ⟨w9, hw9⟩ : ∃ w9, w9 = w8.setCell ⟨w3.heap.size, 1, none⟩ (.slice ao8 (N1 + 1) cap8) := ⟨_, rfl⟩
              rw [← hw9] at R9 S9 ⊢
              clear hw9
              refine hK.out _ _ S9.out (fun hHeld => ?_)
              clear hK K
              try simp only [Act.put, List.setIfInBounds_toArray, List.set_cons_zero, List.set_cons_succ]
              refine wpAnyH_done (by kernel_rfl) ?_ _
              refine NoPanic.normal ?_
              go_wp2
              go_roundw
              case rel => exact ⟨k + 1, _, _, true, _, _, by omega, by go_num, rfl, by omega, HE.out, R9.out⟩
              case measure => simp [intOf]; omega
    · have HE : Hid (L ++ (if t = true then [] else [⟨n, v⟩]) = refS n v l false) := by
        unfold Hid; rw [← E.out, drop_end (by rw [HQ.out]; omega)]; rfl
      clear E
      have hlt' : ¬ (k : Int) < (len : Int) := by omega
      cases t
      · go_upto_region 14 with (fail)
        go_upto_region 15 with (first | (refine app_flds (W0 := w) R2.out.d G5.out rfl (by omega) rfl _ _ rfl rfl rfl ?_; intro ao6 cap6 w6 d6 t6; have R3 := hid (R2.out.turned d6 t6); clear i1' o1 o1f; obtain ⟨i1', _, o1, o1f⟩ := R3.out.cells; clear d6 t6 R2) | (have kill := R1.out; clear kill; refine bsF HK.out rfl _ rfl rfl ?_; intro ag5 w5 g5 l5; have G5 := hid g5; have R2 := hid (R1.out.more l5); obtain ⟨i1', _, o1, o1f⟩ := R2.out.cells; clear g5 l5 R1))
        have R4 := hid R3.out.store
        clear i1' o1 o1f R3
        obtain ⟨w4, hw4⟩ : ∃ w4, w4 = w6.setCell ⟨w3.heap.size, 1, none⟩ (.slice ao6 (N1 + 1) cap6) := ⟨_, rfl⟩
        rw [← hw4] at R4 ⊢
        clear hw4
        obtain ⟨_, o0, o1, _⟩ := R4.out.cells
        obtain ⟨x0, x1, x2, x3⟩ := R4.out.x.facts
        go_wp2
        have D8 := hid (R4.out.d.set R4.out.x (Nat.le_succ _) (.int .i64 m) (.slice ao6 (N1 + 1) cap6))
        have X8 := hid (R4.out.x.set m (.slice ao6 (N1 + 1) cap6))
        obtain ⟨W8, hW8⟩ : ∃ W8, W8 = (w4.setCell ⟨w.heap.size + 1, 0, none⟩ (.int .i64 m)).setCell ⟨w.heap.size + 1, 1, none⟩ (.slice ao6 (N1 + 1) cap6) := ⟨_, rfl⟩
        rw [← hW8] at D8 X8 ⊢
        obtain ⟨d0, d1⟩ := X8.out.ib
        simp [bodyPost, results, Try.results13, go_sem, d0, d1]
        rw [← HE.out]
        exact ⟨_, _, _, ⟨rfl, rfl, rfl⟩, D8.out⟩
      · obtain ⟨_, o0, _, _⟩ := R1.out.cells
        obtain ⟨x0, x1, x2, x3⟩ := R1.out.x.facts
        go_wp2
        have D8 := hid (R1.out.d.set R1.out.x (Nat.le_succ _) (.int .i64 m) (.slice ao1 N1 cap1))
        have X8 := hid (R1.out.x.set m (.slice ao1 N1 cap1))
        obtain ⟨W8, hW8⟩ : ∃ W8, W8 = (wr.setCell ⟨w.heap.size + 1, 0, none⟩ (.int .i64 m)).setCell ⟨w.heap.size + 1, 1, none⟩ (.slice ao1 N1 cap1) := ⟨_, rfl⟩
        rw [← hW8] at D8 X8 ⊢
        obtain ⟨d0, d1⟩ := X8.out.ib
        simp [bodyPost, results, Try.results13, go_sem, d0, d1]
        have e9 : refS n v l false = L := by rw [← HE.out]; simp
        rw [e9]
        exact ⟨_, _, _, ⟨rfl, rfl, rfl⟩, D8.out⟩
end Go.Proofs.Ytfpjjdlfofejcaa
