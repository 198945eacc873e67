/- Laws for the walks of the three statements: a byte put into a row of the call's own, parts of rows, a request read in a drawn region. -/
import Derived.Test.YthchgjndaeefmaaKnown
import Derived.Great.BuildSlice
namespace Go.Proofs.Ythchgjndaeefmaa
open Go.ChangeShapes Go.WideShapes Go.ChangeAt Go.RowKit

theorem run_storeVar_cs (w : World) (b o : Nat) (ty : TypeId) (v : Value) (cs : List Value) (hv : v.cells = cs.toArray) (ht : w.there b o cs.length) (hi : (Try.prog.info? ty).map (·.size) = some cs.length) (h1 : ∀ c ∈ cs, c.oneCell' = true) :
    (storeVar ty ⟨b, o, none⟩ v).run Try.prog w = .ok () (w.setCells b o cs) := by
  have := run_storeCells_cells (P := Try.prog) b o cs 0 w (fun j hj => by simpa using (ht j hj).1) (fun j hj => by simpa using (ht j hj).2) h1
  cases hq : Try.prog.info? ty with
  | none => simp [hq] at hi
  | some i =>
    have hs : cs.length = i.size := by simp [hq] at hi; omega
    simp only [Nat.add_zero] at this
    simp [storeVar, sizeOf, typeInfo, hq, hv, hs, this]
theorem st_cs {ops : Array Oper} {rest : List Oper} {op : Oper} {a : Act} {w : World} {Q : Exit → Act → World → Prop} {b o : Nat} (ty : TypeId) (cs : List Value) (ht : w.there b o cs.length) (hi : (Try.prog.info? ty).map (·.size) = some cs.length) (h1 : ∀ c ∈ cs, c.oneCell' = true)
    (hgd : op.guard = none) (x y : Operand) (ho : op.op = .store ty x y) (hx : a.eval x = .pointer (some ⟨b, o, none⟩)) {v : Value} (hy : a.eval y = v) (hv : v.cells = cs.toArray)
    (h : wpList Try.prog ops Q rest (a.put op.dst undef) (w.setCells b o cs)) : wpList Try.prog ops Q (op :: rest) a w :=
  wpList_plain hgd fun K hK => by
    unfold Oper.wp execOp
    simp only [ho, hx, hy, Instr.storeAt, Instr.sureAddr, Sem.run_bind, Sem.run_pure, Result.andThen_ok, run_storeVar_cs w b o ty v cs hv ht hi h1]
    exact hK _ _ h
theorem Mk.put {W0 w : World} {ao : Option Addr} {n cap : Nat} {l : List Int} (h : Mk W0 w (.slice ao n cap) n l) (i : Nat) (hi : i < n) : ∃ g, ao = some ⟨g, 0, none⟩ ∧ w.cell? ⟨g, i, none⟩ = some (.int .u8 (l.getD i 0)) ∧ w.frozen? ⟨g, i, none⟩ = false ∧
    ∀ y, Mk W0 (w.setCell ⟨g, i, none⟩ (.int .u8 y)) (.slice ao n cap) n (l.set i y) := by
  have hlen := h.1.len
  have hat := h.1.at
  rcases h.1.2 with ⟨e, h0⟩ | ⟨g, cap', cur, e, hg, hc, h1, h2, h3, h4⟩
  · omega
  · cases e
    refine ⟨g, rfl, ?_, froz_of_head hc i, fun y => ⟨⟨by simp [hlen], .inr ⟨g, cap, cur.setIfInBounds i (.int .u8 y), rfl, hg, heap_setCell_same w g i cur 5 _ hc, h1, h2, by simp [h3], ?_⟩⟩, h.2.setCell hg _⟩⟩
    · rcases hat with h0 | ⟨b, o, he, hcl⟩
      · rw [h0] at hlen; simp at hlen; omega
      · cases he; have := hcl i (by omega); rwa [Nat.zero_add] at this
    · rw [Array.toList_setIfInBounds, List.take_set, h4, by8, by8, List.map_set]
theorem byt_one {x : Int} (h : 0 ≤ x ∧ x < 256) : Byt [x] := fun y hy => by
  have : y = x := by simpa using hy
  rw [this]; exact h
theorem byt_set {l : List Int} (h : Byt l) (i : Nat) {x : Int} (hx : 0 ≤ x ∧ x < 256) : Byt (l.set i x) := fun y hy => by
  rcases List.mem_or_eq_of_mem_set hy with h1 | h1
  · exact h y h1
  · rw [h1]; exact hx
theorem row_take {w : World} {b off : Nat} {l : List Int} (h : RowAt w (some ⟨b, off, none⟩) l) (m : Nat) : RowAt w (some ⟨b, off, none⟩) (l.take m) := by
  rcases h with h | ⟨b', o', e, hc⟩
  · left; subst h; simp
  · cases e
    refine .inr ⟨_, _, rfl, fun j hj => ?_⟩
    rw [List.length_take] at hj
    rw [hc j (by omega)]
    congr 2
    have h1 : j < m := by omega
    simp [h1]
theorem st8 {ops : Array Oper} {rest : List Oper} {op : Oper} {a : Act} {w : World} {Q : Exit → Act → World → Prop} {W0 : World} {g n cap : Nat} {l : List Int} (h : Mk W0 w (.slice (some ⟨g, 0, none⟩) n cap) n l) (j : Nat) (v : Int) (hj : j < n)
    (hgd : op.guard = none) (x y : Operand) (ho : op.op = .store 5 x y) (hx : a.eval x = .pointer (some ⟨g, j, none⟩)) (hy : a.eval y = .int .u8 v)
    (k : ∀ w', Mk W0 w' (.slice (some ⟨g, 0, none⟩) n cap) n (l.set j v) → wpList Try.prog ops Q rest (a.put op.dst undef) w') : wpList Try.prog ops Q (op :: rest) a w := by
  obtain ⟨g', e, c, f, s⟩ := h.put j hj
  cases e
  refine st_cs 5 [.int .u8 v] (b := g) (o := j) (fun i hi => ?_) (by kernel_rfl) (by simp; rfl) hgd x y ho hx hy rfl ?_
  · have : i = 0 := by simp at hi; exact hi
    subst this
    exact ⟨by rw [Nat.add_zero, c]; rfl, by rw [Nat.add_zero]; exact f⟩
  · exact k _ (s v)
theorem Given.cut {w : World} {b o n cap : Nat} {l : List Int} (h : Given w (some ⟨b, o, none⟩) n cap l) (i : Nat) (hi : i ≤ n) : Given w (some ⟨b, o, none⟩) i cap (l.take i) :=
  ⟨by rw [List.length_take, h.leq]; omega, byt_take h.byt i, row_take h.row i, Nat.le_trans hi h.cap1, h.cap2⟩
theorem tk_ps {ops : Array Oper} {Q : Exit → Act → World → Prop} {md : Region.Mode} {S : World → Prop} {oi : Oper} {fuel : Nat} {listed : Array Bool} {a : Act} {w : World} (i : Nat) (d : Option Tmp) (r : Ps)
    (hi : ops[i]? = some oi) (hd : oi.dst = d) (hs : Region.noSelect ops = true) (hf : Region.free md ops listed i = true) (hr : (Region.ready md ops listed).contains i = true)
    (hQ : ∀ c a w, Q (.panic c) (a.put d r.val) w → Q (.panic c) a w) (hw : Region.wanted oi (yielded ops a.tmps) = true)
    (x : Operand) (ho : oi.op = .load 25 x) {b : Nat} (hx : a.eval x = .pointer (some ⟨b, 0, none⟩)) (hc : ∀ w, S w → w.rangeAt b 0 r.cells) (hS : S w)
    (h : wpAnyH Try.prog md ops Q S fuel (listed.setIfInBounds i true) (a.put d r.val) w) : wpAnyH Try.prog md ops Q S (fuel + 1) listed a w := by
  obtain ⟨t, hu, ht⟩ := row25
  subst hd; exact wpAnyH_take hi hs hf hr hQ (yieldsIf_load_mid hw 25 x ho b 0 hx r.cells t hc hu ht n25) hS h
end Go.Proofs.Ythchgjndaeefmaa
