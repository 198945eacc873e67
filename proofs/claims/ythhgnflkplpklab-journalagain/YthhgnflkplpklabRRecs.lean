/- recordOf: the record that has a body. -/
import Derived.Test.YthhgnflkplpklabRCounts
namespace Go.Proofs.Ythhgnflkplpklab.Frm
open Go.ChangeShapes Go.WideShapes Go.ChangeAt Go.RowKit

/-! ### Hand moves through a region that draws its order -/
theorem tk_yes {P : Program} {ops : Array Oper} {Q : Exit → Act → World → Prop} {md : Region.Mode} {S : World → Prop} {oi : Oper} {v : Value} {fuel : Nat} {listed : Array Bool} {a : Act} {w : World} (i : Nat) (d : Option Tmp)
    (hi : ops[i]? = some oi) (hd : oi.dst = d) (hs : Region.noSelect ops = true) (hf : Region.free md ops listed i = true) (hr : (Region.ready md ops listed).contains i = true)
    (hQ : ∀ c a w, Q (.panic c) (a.put d v) w → Q (.panic c) a w) (hw : Region.wanted oi (yielded ops a.tmps) = true) (hv : ∀ w, S w → (execOp a.eval oi).run P w = .ok (.value v) w) (hS : S w)
    (h : wpAnyH P md ops Q S fuel (listed.setIfInBounds i true) (a.put d v) w) : wpAnyH P md ops Q S (fuel + 1) listed a w := by
  subst hd; exact wpAnyH_take hi hs hf hr hQ (Or.inl ⟨hw, hv⟩) hS h
theorem tk_no {P : Program} {ops : Array Oper} {Q : Exit → Act → World → Prop} {md : Region.Mode} {S : World → Prop} {oi : Oper} {fuel : Nat} {listed : Array Bool} {a : Act} {w : World} (i : Nat) (d : Option Tmp)
    (hi : ops[i]? = some oi) (hd : oi.dst = d) (hs : Region.noSelect ops = true) (hf : Region.free md ops listed i = true) (hr : (Region.ready md ops listed).contains i = true)
    (hQ : ∀ c a w, Q (.panic c) (a.put d undef) w → Q (.panic c) a w) (hw : Region.wanted oi (yielded ops a.tmps) = false) (hS : S w)
    (h : wpAnyH P md ops Q S fuel (listed.setIfInBounds i true) (a.put d undef) w) : wpAnyH P md ops Q S (fuel + 1) listed a w := by
  subst hd; exact wpAnyH_take hi hs hf hr hQ (Or.inr ⟨hw, rfl⟩) hS h
/-- A record is read in such a region. -/
theorem tk_rec {ops : Array Oper} {Q : Exit → Act → World → Prop} {md : Region.Mode} {S : World → Prop} {oi : Oper} {fuel : Nat} {listed : Array Bool} {a : Act} {w : World} (i : Nat) (d : Option Tmp) (r : Rc)
    (hi : ops[i]? = some oi) (hd : oi.dst = d) (hs : Region.noSelect ops = true) (hf : Region.free md ops listed i = true) (hr : (Region.ready md ops listed).contains i = true)
    (hQ : ∀ c a w, Q (.panic c) (a.put d r.val) w → Q (.panic c) a w) (hw : Region.wanted oi (yielded ops a.tmps) = true)
    (x : Operand) (ho : oi.op = .load 39 x) {b : Nat} (hx : a.eval x = .pointer (some ⟨b, 0, none⟩)) (hc : ∀ w, S w → w.rangeAt b 0 r.cells) (hS : S w)
    (h : wpAnyH Try.prog md ops Q S fuel (listed.setIfInBounds i true) (a.put d r.val) w) : wpAnyH Try.prog md ops Q S (fuel + 1) listed a w := by
  obtain ⟨t, hu, ht⟩ := row29
  subst hd; exact wpAnyH_take hi hs hf hr hQ (yieldsIf_load_mid hw 39 x ho b 0 hx r.cells t hc hu ht n29) hS h
theorem step_of {P : Program} {ops : Array Oper} {o : Oper} {a : Act} {w : World} {K : Act → World → Prop} {Q : Exit → Act → World → Prop} {E : Prop} (hg : o.guard = none) (h : Oper.wp P o a w K Q) :
    if Region.wanted o (yielded ops a.tmps) = true then Oper.wp P o a w K Q else E := by
  rw [if_pos (by simp [Region.wanted, hg])]; exact h

/-! ### What recordOf keeps -/
structure St (w0 w : World) (b2 b4 p : Nat) (r : Rc) (zs : List Int) (i : Nat) : Prop where
  ps : ∃ ao cap, PS w0.heap.size w p (zs.drop i) ao cap
  res : RV w b2 Rc.zero
  rec4 : RV w b4 r
  bel : Below w0.heap.size w0 w
  ord : w0.heap.size ≤ b2 ∧ b2 < b4 ∧ b4 < p
theorem St.turned {w0 w w' : World} {b2 b4 p : Nat} {r : Rc} {zs : List Int} {i j : Nat} (h : St w0 w b2 b4 p r zs i) (ht : Turned (fun k => k = p) w w') (hp : ∃ ao cap, PS w0.heap.size w' p (zs.drop j) ao cap) : St w0 w' b2 b4 p r zs j := by
  obtain ⟨o1, o2, o3⟩ := h.ord
  exact ⟨hp, h.res.kept (ht.block _ h.res.lt (by omega)), h.rec4.kept (ht.block _ h.rec4.lt (by omega)), h.bel.trans (ht.below (fun k e => by omega) h.bel.size), h.ord⟩
theorem st_number {w0 w : World} {b2 b4 p : Nat} {r : Rc} {zs : List Int} {i : Nat} (h : St w0 w b2 b4 p r zs i) (n j : Nat) (hj : i + n = j) (h1 : 1 ≤ n) (h4 : n ≤ 4) (hn : j ≤ zs.length) :
    Calls Try.prog 42 #[.pointer (some ⟨p, 0, none⟩), .int .i64 (n : Int)] w fun e w' => e = .returned (.int .u64 (num (pc zs i n))) ∧ St w0 w' b2 b4 p r zs j := by
  subst hj
  obtain ⟨ao, cap, hp⟩ := h.ps
  refine (number35 _ p _ ao cap w hp n h1 h4 (by rw [List.length_drop]; omega)).mono ?_
  rintro e w' ⟨rfl, t, ao', cap', hp'⟩
  exact ⟨rfl, h.turned t ⟨ao', cap', by rwa [List.drop_drop] at hp'⟩⟩
theorem pc_drop (zs : List Int) (i k m : Nat) : pc (zs.drop i) k m = pc zs (i + k) m := by simp [pc, List.drop_drop]
theorem st_counts {w0 w : World} {b2 b4 p : Nat} {r : Rc} {zs : List Int} {i : Nat} (h : St w0 w b2 b4 p r zs i) (j : Nat) (hj : i + 8 = j) (hn : j ≤ zs.length) :
    Calls Try.prog 43 #[.pointer (some ⟨p, 0, none⟩)] w fun e w' => e = .returned (.agg #[.int .i64 (num (pc zs i 2)), .int .i64 (num (pc zs (i + 2) 2)), .int .i64 (num (pc zs (i + 4) 2)), .int .i64 (num (pc zs (i + 6) 2))]) ∧ St w0 w' b2 b4 p r zs j := by
  subst hj
  obtain ⟨ao, cap, hp⟩ := h.ps
  refine (counts36 _ p _ ao cap w hp h.bel.size (by rw [List.length_drop]; omega)).mono ?_
  rintro e w' ⟨rfl, t, ao', cap', hp'⟩
  exact ⟨by simp only [pc_drop, Nat.add_zero], h.turned t ⟨ao', cap', by rwa [List.drop_drop] at hp'⟩⟩
theorem RV.part {w : World} {b o : Nat} {r r' : Rc} {cs : List Value} (h : RV w b r) (hl : o + cs.length ≤ 17) (he : r'.cells = r.cells.take o ++ cs ++ r.cells.drop (o + cs.length)) : RV (w.setCells b o cs) b r' :=
  ⟨range_part h.at0 h.th hl he, World.there_setCells h.th _ _ _⟩
theorem st_store {ops : Array Oper} {rest : List Oper} {op : Oper} {a : Act} {w0 w : World} {Q : Exit → Act → World → Prop} {b2 b4 p : Nat} {r : Rc} {zs : List Int} {i : Nat} (h : St w0 w b2 b4 p r zs i) (ty : TypeId) (o : Nat) (cs : List Value) (r' : Rc)
    (hl : o + cs.length ≤ 17) (he : r'.cells = r.cells.take o ++ cs ++ r.cells.drop (o + cs.length)) (hi : (Try.prog.info? ty).map (·.size) = some cs.length) (h1 : ∀ c ∈ cs, c.oneCell' = true)
    (hgd : op.guard = none) (x y : Operand) (ho : op.op = .store ty x y) (hx : a.eval x = .pointer (some ⟨b4, o, none⟩)) {v : Value} (hy : a.eval y = v) (hv : v.cells = cs.toArray)
    (hh : ∀ w', St w0 w' b2 b4 p r' zs i → wpList Try.prog ops Q rest (a.put op.dst undef) w') : wpList Try.prog ops Q (op :: rest) a w := by
  obtain ⟨o1, o2, o3⟩ := h.ord
  have ht := turned_setCells w b4 o cs
  obtain ⟨ao, cap, hp⟩ := h.ps
  refine st_cs ty cs (fun j hj => by have := h.rec4.th (o + j) (by omega); rwa [Nat.zero_add] at this) hi h1 hgd x y ho hx hy hv (hh _ ⟨⟨ao, cap, hp.turned ht (by omega) (by omega)⟩, h.res.kept (ht.block _ h.res.lt (by omega)), h.rec4.part hl he, h.bel.trans (ht.below (fun k e => by omega) h.bel.size), h.ord⟩)
theorem n22 : (Try.prog.info? 32).map (·.size) = some 1 := by kernel_rfl
theorem n23 : (Try.prog.info? 33).map (·.size) = some 1 := by kernel_rfl
theorem n2 : (Try.prog.info? 2).map (·.size) = some 1 := by kernel_rfl
theorem n9 : (Try.prog.info? 9).map (·.size) = some 1 := by kernel_rfl
theorem one1 {v : Value} (h : v.oneCell' = true) : ∀ c ∈ [v], c.oneCell' = true := by intro c hc; simp at hc; subst hc; exact h
theorem PS.new (w : World) (B : Nat) (zs : List Int) (len : Nat) (ao : Option Addr) (cap : Nat) (hl : zs.length = len) (hr : RowAt w ao zs) (hlo : zs ≠ [] → ∀ a, ao = some a → a.block < B) (hB : B ≤ w.heap.size) (hb : Byt zs) (h1 : len ≤ cap) (h2 : cap ≤ 9223372036854775807) :
    PS B (w.alloc (.cells #[.slice ao len cap] 93)) w.heap.size zs ao cap := by
  subst hl
  have hn := heap_alloc_new w (.cells #[.slice ao zs.length cap] 93)
  exact ⟨by rw [cell_of_head hn]; rfl, froz_of_head hn _, row_mono (bel1 _ _) hr, fun h0 a e => ⟨by have := hlo h0 a e; omega, hlo h0 a e⟩, hb, h1, h2⟩
theorem St.begin {w0 w : World} {b2 b4 : Nat} {zs : List Int} {len : Nat} {ao : Option Addr} {cap : Nat} (hl : zs.length = len) (hr : RowAt w0 ao zs) (hb : Byt zs) (h1 : len ≤ cap) (h2 : cap ≤ 9223372036854775807)
    (hbel : Below w0.heap.size w0 w) (r2 : RV w b2 Rc.zero) (r4 : RV w b4 Rc.zero) (o1 : w0.heap.size ≤ b2) (o2 : b2 < b4) : St w0 (w.alloc (.cells #[.slice ao len cap] 93)) b2 b4 w.heap.size Rc.zero zs 0 :=
  ⟨⟨ao, cap, by rw [List.drop_zero]; exact PS.new w _ zs len ao cap hl (row_mono hbel hr) (fun h0 a e => hr.lt h0 a e) hbel.size hb h1 h2⟩, r2.below (bel1 _ _), r4.below (bel1 _ _), sq hbel (bel1 _ _), o1, o2, r4.lt⟩
section
variable {ops : Array Oper} {rest : List Oper} {op : Oper} {a : Act} {w0 w : World} {Q : Exit → Act → World → Prop} {b2 b4 p : Nat} {r : Rc} {zs : List Int} {i : Nat}
theorem st_kind {k : Int} (h : St w0 w b2 b4 p r zs i) (hgd : op.guard = none) (x y : Operand) (ho : op.op = .store 3 x y) (hx : a.eval x = .pointer (some ⟨b4, 0, none⟩)) (hy : a.eval y = .int .i64 k)
    (hh : ∀ w', St w0 w' b2 b4 p { r with kind := k } zs i → wpList Try.prog ops Q rest (a.put op.dst undef) w') : wpList Try.prog ops Q (op :: rest) a w :=
  st_store h 3 0 [.int .i64 k] { r with kind := k } (by simp) rfl n3 (one1 rfl) hgd x y ho hx hy rfl hh
theorem st_term {k : Int} (h : St w0 w b2 b4 p r zs i) (hgd : op.guard = none) (x y : Operand) (ho : op.op = .store 32 x y) (hx : a.eval x = .pointer (some ⟨b4, 1, none⟩)) (hy : a.eval y = .int .u16 k)
    (hh : ∀ w', St w0 w' b2 b4 p { r with term := k } zs i → wpList Try.prog ops Q rest (a.put op.dst undef) w') : wpList Try.prog ops Q (op :: rest) a w :=
  st_store h 32 1 [.int .u16 k] { r with term := k } (by simp) rfl n22 (one1 rfl) hgd x y ho hx hy rfl hh
theorem st_stan {k : Int} (h : St w0 w b2 b4 p r zs i) (hgd : op.guard = none) (x y : Operand) (ho : op.op = .store 33 x y) (hx : a.eval x = .pointer (some ⟨b4, 2, none⟩)) (hy : a.eval y = .int .u32 k)
    (hh : ∀ w', St w0 w' b2 b4 p { r with stan := k } zs i → wpList Try.prog ops Q rest (a.put op.dst undef) w') : wpList Try.prog ops Q (op :: rest) a w :=
  st_store h 33 2 [.int .u32 k] { r with stan := k } (by simp) rfl n23 (one1 rfl) hgd x y ho hx hy rfl hh
theorem st_pan {k : ByteArray} (h : St w0 w b2 b4 p r zs i) (hgd : op.guard = none) (x y : Operand) (ho : op.op = .store 9 x y) (hx : a.eval x = .pointer (some ⟨b4, 3, none⟩)) (hy : a.eval y = .string k)
    (hh : ∀ w', St w0 w' b2 b4 p { r with pan := k } zs i → wpList Try.prog ops Q rest (a.put op.dst undef) w') : wpList Try.prog ops Q (op :: rest) a w :=
  st_store h 9 3 [.string k] { r with pan := k } (by simp) rfl n9 (one1 rfl) hgd x y ho hx hy rfl hh
theorem st_amt {k : Int} (h : St w0 w b2 b4 p r zs i) (hgd : op.guard = none) (x y : Operand) (ho : op.op = .store 2 x y) (hx : a.eval x = .pointer (some ⟨b4, 4, none⟩)) (hy : a.eval y = .int .i64 k)
    (hh : ∀ w', St w0 w' b2 b4 p { r with amt := k } zs i → wpList Try.prog ops Q rest (a.put op.dst undef) w') : wpList Try.prog ops Q (op :: rest) a w :=
  st_store h 2 4 [.int .i64 k] { r with amt := k } (by simp) rfl n2 (one1 rfl) hgd x y ho hx hy rfl hh
theorem st_notes {x0 x1 x2 x3 : Int} (h : St w0 w b2 b4 p r zs i) (hgd : op.guard = none) (x y : Operand) (ho : op.op = .store 37 x y) (hx : a.eval x = .pointer (some ⟨b4, 5, none⟩)) (hy : a.eval y = .agg #[.int .i64 x0, .int .i64 x1, .int .i64 x2, .int .i64 x3])
    (hh : ∀ w', St w0 w' b2 b4 p { r with n0 := x0, n1 := x1, n2 := x2, n3 := x3 } zs i → wpList Try.prog ops Q rest (a.put op.dst undef) w') : wpList Try.prog ops Q (op :: rest) a w :=
  st_store h 37 5 (c4 x0 x1 x2 x3) { r with n0 := x0, n1 := x1, n2 := x2, n3 := x3 } (by simp [c4]) rfl n27 (c4_one _ _ _ _) hgd x y ho hx hy rfl hh
theorem st_rej {x0 x1 x2 x3 : Int} (h : St w0 w b2 b4 p r zs i) (hgd : op.guard = none) (x y : Operand) (ho : op.op = .store 37 x y) (hx : a.eval x = .pointer (some ⟨b4, 9, none⟩)) (hy : a.eval y = .agg #[.int .i64 x0, .int .i64 x1, .int .i64 x2, .int .i64 x3])
    (hh : ∀ w', St w0 w' b2 b4 p { r with j0 := x0, j1 := x1, j2 := x2, j3 := x3 } zs i → wpList Try.prog ops Q rest (a.put op.dst undef) w') : wpList Try.prog ops Q (op :: rest) a w :=
  st_store h 37 9 (c4 x0 x1 x2 x3) { r with j0 := x0, j1 := x1, j2 := x2, j3 := x3 } (by simp [c4]) rfl n27 (c4_one _ _ _ _) hgd x y ho hx hy rfl hh
theorem st_loaded {x0 x1 x2 x3 : Int} (h : St w0 w b2 b4 p r zs i) (hgd : op.guard = none) (x y : Operand) (ho : op.op = .store 37 x y) (hx : a.eval x = .pointer (some ⟨b4, 13, none⟩)) (hy : a.eval y = .agg #[.int .i64 x0, .int .i64 x1, .int .i64 x2, .int .i64 x3])
    (hh : ∀ w', St w0 w' b2 b4 p { r with l0 := x0, l1 := x1, l2 := x2, l3 := x3 } zs i → wpList Try.prog ops Q rest (a.put op.dst undef) w') : wpList Try.prog ops Q (op :: rest) a w :=
  st_store h 37 13 (c4 x0 x1 x2 x3) { r with l0 := x0, l1 := x1, l2 := x2, l3 := x3 } (by simp [c4]) rfl n27 (c4_one _ _ _ _) hgd x y ho hx hy rfl hh
end
end Go.Proofs.Ythhgnflkplpklab.Frm
