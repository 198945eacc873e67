/- How fields are told, put in, and which type answers which (IsoFields). -/
import Derived.Test.YtfpjjdlfofejcaaSetsW
namespace Go.Proofs.Ytfpjjdlfofejcaa
open Go.ChangeShapes Go.WideShapes Go.ChangeAt Go.RowKit

/-- What Set answers. -/
def setR (m : Int) (l : List Fd) (n : Int) (v : ByteArray) : List Fd := if (rightM m l && rightB n v) = true then setL n v l else []
def setM (m : Int) (l : List Fd) (n : Int) (v : ByteArray) : Int := if (rightM m l && rightB n v) = true then m else 0
def setZ (m : Int) (l : List Fd) (n : Int) (v : ByteArray) : Int := if (rightM m l && rightB n v) = true then 0 else 27
theorem set12_any (m : Int) (ao : Option Addr) (len cap : Nat) (l : List Fd) (n : Int) (v : ByteArray) (w : World) (h : FG w ao len cap l) (hv : v.size ≤ 9223372036854775807) :
    Calls Try.prog 12 #[.agg #[.int .i64 m, .slice ao len cap], .int .i64 n, .string v] w fun e w' => ∃ a N c, e = .returned (.tuple #[.agg #[.int .i64 (setM m l n v), .slice a N c], .int .i64 (setZ m l n v)]) ∧ MkF w w' (.slice a N c) N (setR m l n v) := by
  unfold setM setZ setR
  cases hr : (rightM m l && rightB n v)
  · refine (set12_no m ao len cap l n v w h hv hr).mono ?_
    rintro e w' ⟨rfl, b⟩
    exact ⟨none, 0, 0, rfl, (MkF.nil w).more b⟩
  · rw [Bool.and_eq_true] at hr
    exact set12_yes m ao len cap l n v w h hr.1 hr.2
theorem set13_any (m : Int) (ao : Option Addr) (len cap : Nat) (l : List Fd) (n : Int) (v : ByteArray) (w : World) (h : FG w ao len cap l) (hv : v.size ≤ 9223372036854775807) (h0 : -9223372036854775808 ≤ m) (h1 : m ≤ 9223372036854775807) :
    Calls Try.prog 13 #[.agg #[.int .i64 m, .slice ao len cap], .int .i64 n, .string v] w fun e w' => ∃ a N c, e = .returned (.tuple #[.agg #[.int .i64 (setM m l n v), .slice a N c], .int .i64 (setZ m l n v)]) ∧ MkF w w' (.slice a N c) N (setR m l n v) := by
  unfold setM setZ setR
  cases hr : (rightM m l && rightB n v)
  · refine (set13_no m ao len cap l n v w h h0 h1 hv hr).mono ?_
    rintro e w' ⟨rfl, b⟩
    exact ⟨none, 0, 0, rfl, (MkF.nil w).more b⟩
  · rw [Bool.and_eq_true] at hr
    have hs : refS n v l false = setL n v l := by
      have := hr.1
      unfold rightM at this
      rw [Bool.and_eq_true] at this
      exact refS_set n v l (rights_pair l this.2)
    have := set13_yes m ao len cap l n v w h h0 h1 hr.1 hr.2
    rw [hs] at this
    exact this
theorem digits_i (x k : Int) (w : World) (h0 : 0 ≤ x) (h1 : x < 18446744073709551616) (k0 : 0 ≤ k) (k1 : k ≤ 100) :
    Calls Try.prog 11 #[.int .u64 x, .int .i64 k] w fun e w' => ∃ t, e = .returned (.string t) ∧ t.size ≤ 9223372036854775807 ∧ w = w' := by
  have := digits11 x k.toNat w h0 h1 (by omega)
  rw [show ((k.toNat : Nat) : Int) = k by omega] at this
  refine this.mono ?_
  rintro e w' ⟨t, rfl, ht, _, rfl⟩
  exact ⟨t, rfl, by omega, rfl⟩
/-- Each of two messages in a block. -/
def TwoM (B : Nat) (w : World) : Prop := ∀ j, j < 2 → ∃ (m : Int) (a : Option Addr) (n c : Nat) (l : List Fd), (-9223372036854775808 ≤ m ∧ m ≤ 9223372036854775807) ∧ w.cell? ⟨B, j * 2, none⟩ = some (.int .i64 m) ∧ w.cell? ⟨B, j * 2 + 1, none⟩ = some (.slice a n c) ∧ FG w a n c l
theorem TwoM.more {B : Nat} {w w' : World} (h : TwoM B w) (hb : Below w.heap.size w w') : TwoM B w' := by
  intro j hj
  obtain ⟨m, a, n, c, l, hm, c0, c1, g⟩ := h j hj
  exact ⟨m, a, n, c, l, hm, (hb.cell (World.block_lt_of_cell? w _ c0)).trans c0, (hb.cell (World.block_lt_of_cell? w _ c1)).trans c1, g.below hb⟩
theorem TwoM.new {w : World} {m1 m2 : Int} {a1 a2 : Option Addr} {n1 c1 n2 c2 : Nat} {l1 l2 : List Fd} (g1 : FG w a1 n1 c1 l1) (g2 : FG w a2 n2 c2 l2) (h1 : -9223372036854775808 ≤ m1 ∧ m1 ≤ 9223372036854775807) (h2 : -9223372036854775808 ≤ m2 ∧ m2 ≤ 9223372036854775807) :
    TwoM w.heap.size (w.alloc (.cells #[.int .i64 m1, .slice a1 n1 c1, .int .i64 m2, .slice a2 n2 c2] 24)) := by
  have h := heap_alloc_new w (.cells #[.int .i64 m1, .slice a1 n1 c1, .int .i64 m2, .slice a2 n2 c2] 24)
  intro j hj
  have hj' : j = 0 ∨ j = 1 := by omega
  rcases hj' with rfl | rfl
  · exact ⟨m1, a1, n1, c1, l1, h1, by rw [cell_of_head h]; rfl, by rw [cell_of_head h]; rfl, g1.below (bel1 _ _)⟩
  · exact ⟨m2, a2, n2, c2, l2, h2, by rw [cell_of_head h]; rfl, by rw [cell_of_head h]; rfl, g2.below (bel1 _ _)⟩
theorem info24 : (Try.prog.info? 24).map (fun i => (i.zero, i.size, i.bytes)) = some (some (.agg #[.int .i64 0, .slice none 0 0]), 2, 32) := by kernel_rfl
section
variable {ops : Array Oper} {o : Oper} {a : Act} {w : World} {K : Act → World → Prop} {Q : Exit → Act → World → Prop} {E : Prop}
/-- A slice of two messages, in a region that draws. -/
theorem bsM_step {m1 m2 : Int} {a1 a2 : Option Addr} {n1 c1 n2 c2 : Nat} (hgd : o.guard = none) (x y : Operand) (ho : o.op = .buildSlice 30 2 #[(0, x), (1, y)]) (hx : a.eval x = .agg #[.int .i64 m1, .slice a1 n1 c1]) (hy : a.eval y = .agg #[.int .i64 m2, .slice a2 n2 c2])
    (h : K (a.put o.dst (.slice (some ⟨w.heap.size, 0, none⟩) 2 2)) (w.alloc (.cells #[.int .i64 m1, .slice a1 n1 c1, .int .i64 m2, .slice a2 n2 c2] 24))) :
    if Region.wanted o (yielded ops a.tmps) = true then Oper.wp Try.prog o a w K Q else E := by
  rw [if_pos (wanted_none hgd)]
  obtain ⟨i, hi, hz0, hz1, hz2⟩ := info_parts info24
  refine wp_buildSlice 30 24 2 _ ho #[.int .i64 m1, .slice a1 n1 c1, .int .i64 m2, .slice a2 n2 c2] i _ Try.underlying30 hi hz0 (by rw [hz1]; decide) (by rw [hz1]; decide) ?_ h
  have := Great.fill_whole (s := 2) (by decide) [.agg #[.int .i64 m1, .slice a1 n1 c1], .agg #[.int .i64 m2, .slice a2 n2 c2]] ((Array.range (2 * i.size)).map ((Value.agg #[.int .i64 0, .slice none 0 0]).cells[· % (Value.agg #[.int .i64 0, .slice none 0 0]).cells.size]!))
    (by intro v hv; simp at hv; rcases hv with rfl | rfl <;> simp [Value.cells]) (by simp [hz1])
  rw [hz1] at this ⊢
  simpa [hx, hy, Value.cells] using this
end
/-- Each cell of the block holds a number. -/
def NumB (N B : Nat) (w : World) : Prop := ∀ j, j < N → ∃ m : Int, w.cell? ⟨B, j, none⟩ = some (.int .i64 m)
theorem NumB.more {N B : Nat} {w w' : World} (h : NumB N B w) (hb : Below w.heap.size w w') : NumB N B w' := by
  intro j hj
  obtain ⟨u, hc⟩ := h j hj
  exact ⟨u, (hb.cell (p := ⟨B, j, none⟩) (World.block_lt_of_cell? w _ hc)).trans hc⟩
theorem NumB.new (w : World) (l : List Int) (t : TypeId) : NumB l.length w.heap.size (w.alloc (.cells (I.cellsOf l) t)) := by
  intro j hj
  have hh := heap_alloc_new w (.cells (I.cellsOf l) t)
  exact ⟨l[j], by rw [cell_of_head hh]; simp [I.cellsOf, hj]⟩
/-- Each of two cells holds a text. -/
def TxtB (B : Nat) (w : World) : Prop := ∀ j, j < 2 → ∃ s : ByteArray, s.size ≤ 9223372036854775807 ∧ w.cell? ⟨B, j, none⟩ = some (.string s)
theorem TxtB.more {B : Nat} {w w' : World} (h : TxtB B w) (hb : Below w.heap.size w w') : TxtB B w' := by
  intro j hj
  obtain ⟨u, hu, hc⟩ := h j hj
  exact ⟨u, hu, (hb.cell (p := ⟨B, j, none⟩) (World.block_lt_of_cell? w _ hc)).trans hc⟩
theorem TxtB.new (w : World) (s t : ByteArray) (ty : TypeId) (hs : s.size ≤ 9223372036854775807) (ht : t.size ≤ 9223372036854775807) : TxtB w.heap.size (w.alloc (.cells #[.string s, .string t] ty)) := by
  intro j hj
  have hh := heap_alloc_new w (.cells #[.string s, .string t] ty)
  have hj' : j = 0 ∨ j = 1 := by omega
  rcases hj' with rfl | rfl
  · exact ⟨s, hs, by rw [cell_of_head hh]; rfl⟩
  · exact ⟨t, ht, by rw [cell_of_head hh]; rfl⟩
set_option maxRecDepth 20000 in
set_option maxHeartbeats 20000000 in
theorem fields_walk (m0 : Int) (ar : Option Addr) (nr cr : Nat) (lr : List Fd) (mti : Int) (ao : Option Addr) (len cap : Nat) (_l : List Int) (n : Int) (v : ByteArray) (kv t : Int) (w : World)
    (hm0 : -9223372036854775808 ≤ m0 ∧ m0 ≤ 9223372036854775807) (hg : FG w ar nr cr lr) (hm : 0 ≤ mti ∧ mti < 256) (hl : InN w ao len cap _l) (_hn : -9223372036854775808 ≤ n ∧ n ≤ 9223372036854775807) (hv : v.size ≤ maxLen) (hk : 0 ≤ kv ∧ kv < 18446744073709551616) (_ht : -9223372036854775808 ≤ t ∧ t ≤ 9223372036854775807) :
    Calls Try.prog 3 #[.agg #[.int .i64 m0, .slice ar nr cr], .int .u8 mti, .slice ao len cap, .int .i64 n, .string v, .int .u64 kv, .int .i64 t] w fun e w' => e = .returned (.bool true) ∧ Below w.heap.size w w' := by
  have HI := hid hl.1
  have hlen := hl.2
  have HG := hid hg
  have HM0 := hid hm0
  have HVS : Hid (v.size ≤ 9223372036854775807) := by unfold maxLen at hv; unfold Hid; omega
  have hvs := HVS.out
  obtain ⟨qn, hqn⟩ : ∃ q, bits .and .i64 n 127 = q := ⟨_, rfl⟩
  have I0 := hid (IB.new w m0 (.slice ar nr cr))
  have L0 := hid (bel1 w (.cells #[.int .i64 m0, .slice ar nr cr] 24))
  have TK := hid True.intro
  clear hl hg hm0 hv
  cases hLt : lightL lr
  · have HLL := hid hLt
    clear hLt
    go_enter Try.func3, Try.ntmps3
    go_wp2_with (first | (go_at_call 6; have kill := L1.out; refine (light6 m0 _ _ _ lr _ (HG.out.below L1.out)).mono ?_; rintro e w2 ⟨rfl, l2⟩; rw [HLL.out]; have I2 := hid (I1.out.more l2); have L2 := hid (sq L1.out l2); clear l2 I1 L1 kill i0 i1; obtain ⟨i0, i1⟩ := I2.out) | (go_at_call 5; have kill := TK.out; refine (known5 _).mono ?_; rintro e w1 ⟨rfl, l1⟩; have I1 := hid (I0.out.more l1); have L1 := hid (sq L0.out l1); clear l1 I0 L0 TK kill; obtain ⟨i0, i1⟩ := I1.out))
    go_ret
    exact ⟨rfl, L2.out⟩
  have HLL := hid hLt
  clear hLt
  by_cases h20 : 20 < len
  · have j20 : decide ((20 : Int) < (len : Int)) = true := decide_eq_true (by omega)
    go_enter Try.func3, Try.ntmps3
    go_wp2_with (first | (go_at_call 6; have kill := L1.out; refine (light6 m0 _ _ _ lr _ (HG.out.below L1.out)).mono ?_; rintro e w2 ⟨rfl, l2⟩; rw [HLL.out]; have I2 := hid (I1.out.more l2); have L2 := hid (sq L1.out l2); clear l2 I1 L1 kill i0 i1; obtain ⟨i0, i1⟩ := I2.out) | (go_at_call 5; have kill := TK.out; refine (known5 _).mono ?_; rintro e w1 ⟨rfl, l1⟩; have I1 := hid (I0.out.more l1); have L1 := hid (sq L0.out l1); clear l1 I0 L0 TK kill; obtain ⟨i0, i1⟩ := I1.out))
    go_ret
    exact ⟨rfl, L2.out⟩
  have j20 : decide ((20 : Int) < (len : Int)) = false := decide_eq_false (by omega)
  by_cases h100 : 100 < v.size
  · have j100 : decide ((100 : Int) < (v.size : Int)) = true := decide_eq_true (by omega)
    go_enter Try.func3, Try.ntmps3
    go_wp2_with (first | (go_at_call 6; have kill := L1.out; refine (light6 m0 _ _ _ lr _ (HG.out.below L1.out)).mono ?_; rintro e w2 ⟨rfl, l2⟩; rw [HLL.out]; have I2 := hid (I1.out.more l2); have L2 := hid (sq L1.out l2); clear l2 I1 L1 kill i0 i1; obtain ⟨i0, i1⟩ := I2.out) | (go_at_call 5; have kill := TK.out; refine (known5 _).mono ?_; rintro e w1 ⟨rfl, l1⟩; have I1 := hid (I0.out.more l1); have L1 := hid (sq L0.out l1); clear l1 I0 L0 TK kill; obtain ⟨i0, i1⟩ := I1.out))
    go_ret
    exact ⟨rfl, L2.out⟩
  have j100 : decide ((100 : Int) < (v.size : Int)) = false := decide_eq_false (by omega)
  go_enter Try.func3, Try.ntmps3
  go_upto_region 5 with (first | (go_at_call 6; have kill := L1.out; refine (light6 m0 _ _ _ lr _ (HG.out.below L1.out)).mono ?_; rintro e w2 ⟨rfl, l2⟩; rw [HLL.out]; have I2 := hid (I1.out.more l2); have L2 := hid (sq L1.out l2); clear l2 I1 L1 kill i0 i1; obtain ⟨i0, i1⟩ := I2.out) | (go_at_call 5; have kill := TK.out; refine (known5 _).mono ?_; rintro e w1 ⟨rfl, l1⟩; have I1 := hid (I0.out.more l1); have L1 := hid (sq L0.out l1); clear l1 I0 L0 TK kill; obtain ⟨i0, i1⟩ := I1.out))
  have I3 := hid (I2.out.more (Below.refl _ w2).drew)
  have L3 := hid (sq L2.out (Below.refl _ w2).drew)
  clear I2 L2 i0 i1
  refine wp_region_noPanic ?_
  refine wp_region_held_drew (S := fun w' => IB w' w.heap.size m0 (.slice ar nr cr)) (by kernel_rfl) I3.out (fun hHeld => ?_)
  (refine tk_yes (v := .agg #[.int .i64 m0, .slice ar nr cr]) 0 (some 52) rfl rfl (by kernel_rfl) (by kernel_rfl) (by kernel_rfl) (fun _ _ _ h => h) (by rfl) ?_ hHeld ?_; focus (intro w9 hSw; obtain ⟨s1, s2⟩ := id hSw; go_simp))
  try simp only [Act.put, List.setIfInBounds_toArray, List.set_cons_zero, List.set_cons_succ]
  (refine tk_yes (v := ?_) 1 (some 53) rfl rfl (by kernel_rfl) (by kernel_rfl) (by kernel_rfl) (fun _ _ _ h => h) (by rfl) ?_ hHeld ?_; rotate_left; focus (intro w9 hSw; obtain ⟨s1, s2⟩ := id hSw; go_simp; try with_reducible rfl))
  try simp only [Act.put, List.setIfInBounds_toArray, List.set_cons_zero, List.set_cons_succ]
  (refine tk_yes (v := ?_) 2 (some 54) rfl rfl (by kernel_rfl) (by kernel_rfl) (by kernel_rfl) (fun _ _ _ h => h) (by rfl) ?_ hHeld ?_; rotate_left; focus (intro w9 hSw; obtain ⟨s1, s2⟩ := id hSw; go_simp; try with_reducible rfl))
  try simp only [Act.put, List.setIfInBounds_toArray, List.set_cons_zero, List.set_cons_succ]
  (refine tk_yes (v := ?_) 6 (some 58) rfl rfl (by kernel_rfl) (by kernel_rfl) (by kernel_rfl) (fun _ _ _ h => h) (by rfl) ?_ hHeld ?_; rotate_left; focus (intro w9 hSw; obtain ⟨s1, s2⟩ := id hSw; go_simp; try with_reducible rfl))
  try simp only [Act.put, List.setIfInBounds_toArray, List.set_cons_zero, List.set_cons_succ]
  refine wpAnyH_ready (rs := [3]) (by kernel_rfl) (by simp) ?_
  refine AllReadyH.cons rfl (fun K hK => ?_) AllReadyH.nil
  go_simp
  go_at_call 7
  refine (made7 mti ao len cap _ hm.1 hm.2 (HI.out.more L3.out) (by omega)).mono ?_
  rintro e w4 ⟨mt, am, n4, c4, L, rfl, m4, t0, t1⟩
  have I4 := hid (I3.out.more m4.2)
  have L4 := hid (sq L3.out m4.2)
  have M4 := hid m4.given
  have HT0 := hid (And.intro t0 t1)
  clear m4 t0 t1 I3 L3
  go_simp
  refine hK.out _ _ I4.out (fun hHeld => ?_)
  clear hK K
  try simp only [Act.put, List.setIfInBounds_toArray, List.set_cons_zero, List.set_cons_succ]
  refine wpAnyH_ready (rs := [4]) (by kernel_rfl) (by simp) ?_
  refine AllReadyH.cons (o := { dst := some 56, op := _, type := _, pos := _, after := _, guard := none }) rfl (fun K hK => ?_) AllReadyH.nil
  refine bsM_step rfl _ _ rfl rfl rfl ?_
  have I5 := hid (I4.out.more (bel1 w4 (.cells #[.int .i64 m0, .slice ar nr cr, .int .i64 mt, .slice am n4 c4] 24)))
  have L5 := hid (sq L4.out (bel1 w4 (.cells #[.int .i64 m0, .slice ar nr cr, .int .i64 mt, .slice am n4 c4] 24)))
  have T5 := hid (TwoM.new (m1 := m0) (m2 := mt) (HG.out.below L4.out) M4.out HM0.out (by have := HT0.out; omega))
  generalize w4.alloc (.cells #[.int .i64 m0, .slice ar nr cr, .int .i64 mt, .slice am n4 c4] 24) = w5 at *
  generalize w4.heap.size = B1 at *
  clear I4 L4 M4
  refine hK.out _ _ I5.out (fun hHeld => ?_)
  clear hK K
  try simp only [Act.put, List.setIfInBounds_toArray, List.set_cons_zero, List.set_cons_succ]
  (refine tk_yes (v := ?_) 5 (some 57) rfl rfl (by kernel_rfl) (by kernel_rfl) (by kernel_rfl) (fun _ _ _ h => h) (by rfl) ?_ hHeld ?_; rotate_left; focus (intro w9 hSw; obtain ⟨s1, s2⟩ := id hSw; go_simp; try with_reducible rfl))
  try simp only [Act.put, List.setIfInBounds_toArray, List.set_cons_zero, List.set_cons_succ]
  refine wpAnyH_done (by kernel_rfl) ?_ _
  refine NoPanic.normal ?_
  go_wp2
  go_loopw [58] (fun i wr => ∃ j1 : Nat, j1 ≤ 2 ∧ i = .int .i64 (j1 : Int) ∧ TwoM B1 wr ∧ Below w.heap.size w wr) (fun i _ => 2 - (intOf i).toNat)
  case atStart => exact ⟨0, by omega, rfl, T5.out, L5.out⟩
  case round =>
    obtain ⟨j1, hj1, rfl, ht, hb⟩ := hrel
    have T0 := hid ht
    have L0 := hid hb
    clear ht hb T5 L5 I5
    by_cases hlt1 : j1 < 2
    · obtain ⟨m, a, n1, c1, l, hmm, c0, d0, hg⟩ := T0.out j1 hlt1
      have hlt1' : (j1 : Int) < 2 := by omega
      have H0 := hid hg
      clear hg
      go_upto_region 8 with (fail)
      have V0 := hid (MV.new (m := m) H0.out)
      have kb := bel1 wr (.cells #[.int .i64 m, .slice a n1 c1] 24)
      have T01 := hid (T0.out.more kb)
      have L01 := hid (sq L0.out kb)
      generalize wr.alloc (.cells #[.int .i64 m, .slice a n1 c1] 24) = wa at *
      generalize wr.heap.size = bm at *
      clear kb c0 d0 T0 L0 H0
      go_wp2
      have N1 : Hid (NumB 8 wa.heap.size (wa.alloc (.cells #[.int .i64 n, .int .i64 2, .int .i64 11, .int .i64 39, .int .i64 60, .int .i64 70, .int .i64 95, .int .i64 qn] 3))) := hid (NumB.new wa [n, 2, 11, 39, 60, 70, 95, qn] 3)
      have kb := bel1 wa (.cells #[.int .i64 n, .int .i64 2, .int .i64 11, .int .i64 39, .int .i64 60, .int .i64 70, .int .i64 95, .int .i64 qn] 3)
      have V1 := hid (V0.out.more kb)
      have T1 := hid (T01.out.more kb)
      have L1' := hid (sq L01.out kb)
      clear kb V0 T01 L01
      generalize wa.alloc (.cells #[.int .i64 n, .int .i64 2, .int .i64 11, .int .i64 39, .int .i64 60, .int .i64 70, .int .i64 95, .int .i64 qn] 3) = wb at *
      generalize wa.heap.size = B2 at *
      go_loopw [67] (fun i wr => ∃ j2 : Nat, j2 ≤ 8 ∧ i = .int .i64 (j2 : Int) ∧ MV wr bm m a n1 c1 l ∧ NumB 8 B2 wr ∧ TwoM B1 wr ∧ Below w.heap.size w wr) (fun i _ => 8 - (intOf i).toNat)
      case atStart => exact ⟨0, by omega, rfl, V1.out, N1.out, T1.out, L1'.out⟩
      case round =>
        obtain ⟨j2, hj2, rfl, hv, hn, ht, hb⟩ := hrel
        have V2 := hid hv
        have N2 := hid hn
        have T2 := hid ht
        have L2 := hid hb
        clear hv hn ht hb V1 N1 T1 L1'
        by_cases hlt2 : j2 < 8
        · obtain ⟨f, cf⟩ := N2.out j2 hlt2
          obtain ⟨i0, i1⟩ := V2.out.1
          have hlt2' : (j2 : Int) < 8 := by omega
          have hg8 := fun w' h => get8 m a n1 c1 l f w' h
          have hg9 := fun w' h => get9 m a n1 c1 l f w' h
          obtain ⟨gs, hgs⟩ : ∃ gs, getS l f = gs := ⟨_, rfl⟩
          obtain ⟨gb, hgb⟩ : ∃ gb, getB l f = gb := ⟨_, rfl⟩
          rw [hgs, hgb] at hg8 hg9
          have hof := fun w => of7' f w
          have hl999 := (f_any f).1
          generalize fD f = D at *
          obtain ⟨l0, hl0⟩ : ∃ l0, fL f = l0 := ⟨_, rfl⟩
          obtain ⟨v0, hv0⟩ : ∃ v0, fV f = v0 := ⟨_, rfl⟩
          rw [hl0, hv0] at hof
          rw [hl0] at hl999
          generalize fK f = KX at *
          clear hl0 hv0 hgs hgb
          obtain ⟨z, hz, hz50⟩ : ∃ z : Nat, (l0 : Int).tmod 50 = (z : Int) ∧ z < 50 := ⟨((l0 : Int).tmod 50).toNat, by have := Int.tmod_eq_emod_of_nonneg (a := (l0 : Int)) (b := 50) (by omega); omega, by have := Int.tmod_eq_emod_of_nonneg (a := (l0 : Int)) (b := 50) (by omega); omega⟩
          go_upto_region 16 with (first | (go_at_call 10; have kill := L4.out; refine (hof _).mono ?_; rintro e w5 ⟨rfl, l5⟩; have k5 := sq l5 (bel1 w5 (.cells #[.bool D, .int .i64 (l0 : Int), .int .i64 (v0 : Int)] 35)); obtain ⟨q0, q1, q2⟩ := FB.new w5 D (l0 : Int) (v0 : Int) 35; have V5 := hid (V4.out.more k5); have N5 := hid (N4.out.more k5); have T5 := hid (T4.out.more k5); have L5 := hid (sq L4.out k5); clear l5 k5 V4 N4 T4 L4 kill) | (go_at_call 9; have kill := L3.out; refine (hg9 _ V3.out.2).mono ?_; rintro e w4 ⟨rfl, l4⟩; have V4 := hid (V3.out.more l4); have N4 := hid (N3.out.more l4); have T4 := hid (T3.out.more l4); have L4 := hid (sq L3.out l4); clear l4 V3 N3 T3 L3 i0 i1 kill) | (go_at_call 8; refine (hg8 _ V2.out.2).mono ?_; rintro e w3 ⟨rfl, l3⟩; have V3 := hid (V2.out.more l3); have N3 := hid (N2.out.more l3); have T3 := hid (T2.out.more l3); have L3 := hid (sq L2.out l3); clear l3 V2 N2 T2 L2 i0 i1 cf; obtain ⟨i0, i1⟩ := V3.out.1))
          go_wp2_with (go_at_call 11; refine (digits_i kv _ _ hk.1 hk.2 (by first | omega | (split <;> omega)) (by first | omega | (split <;> omega))).mono ?_; rintro e w6 ⟨TT, rfl, hT, rfl⟩; have HTT := hid hT; clear hT)
          all_goals
            have HA := hid (TxtB.new (w5.alloc (.cells #[.bool D, .int .i64 (l0 : Int), .int .i64 (v0 : Int)] 35)) v TT 9 HVS.out HTT.out)
            have kb := bel1 (w5.alloc (.cells #[.bool D, .int .i64 (l0 : Int), .int .i64 (v0 : Int)] 35)) (.cells #[.string v, .string TT] 9)
            have V6 := hid (V5.out.more kb)
            have N6 := hid (N5.out.more kb)
            have T6 := hid (T5.out.more kb)
            have L6 := hid (sq L5.out kb)
            have Z6 := HA
            clear HA kb V5 N5 T5 L5 q0 q1 q2 hz
            rw [World.size_alloc] at Z6
            generalize ((w5.alloc (.cells #[.bool D, .int .i64 (l0 : Int), .int .i64 (v0 : Int)] 35)).alloc (.cells #[.string v, .string TT] 9)) = w6 at *
            generalize w5.heap.size + 1 = B3 at *
            go_loopw [105] (fun i wr => ∃ j3 : Nat, j3 ≤ 2 ∧ i = .int .i64 (j3 : Int) ∧ MV wr bm m a n1 c1 l ∧ NumB 8 B2 wr ∧ TwoM B1 wr ∧ TxtB B3 wr ∧ Below w.heap.size w wr) (fun i _ => 2 - (intOf i).toNat)
            case atStart => exact ⟨0, by omega, rfl, V6.out, N6.out, T6.out, Z6.out, L6.out⟩
            case round =>
              obtain ⟨j3, hj3, rfl, hv, hn, ht, hz, hb⟩ := hrel
              have V7 := hid hv
              have N7 := hid hn
              have T7 := hid ht
              have Z7 := hid hz
              have L7 := hid hb
              clear hv hn ht hz hb V6 N6 T6 Z6 L6
              by_cases hlt3 : j3 < 2
              · obtain ⟨s, hs, cz⟩ := Z7.out j3 hlt3
                obtain ⟨i0, i1⟩ := V7.out.1
                have hlt3' : (j3 : Int) < 2 := by omega
                have hs12 := fun w' h => set12_any m a n1 c1 l f s w' h hs
                have hs13 := fun w' h => set13_any m a n1 c1 l f s w' h hs hmm.1 hmm.2
                obtain ⟨M', hM'⟩ : ∃ M', setM m l f s = M' := ⟨_, rfl⟩
                obtain ⟨Z', hZ'⟩ : ∃ Z', setZ m l f s = Z' := ⟨_, rfl⟩
                obtain ⟨R', hR'⟩ : ∃ R', setR m l f s = R' := ⟨_, rfl⟩
                rw [hM', hZ', hR'] at hs12 hs13
                clear hM' hZ' hR' hs
                have TS := hid True.intro
                go_wp2_with (first | (go_at_call 14; have kill := L9.out; refine (isos14 _ _ _ _ _ _ _ _ R' R' _ X9.out.2 Y9.out.2).mono ?_; rintro e w10 ⟨rfl, l10⟩; rw [show (decide (M' = M') && sameL R' R') = true from by simp [same_self]]; have V10 := hid (V9.out.more l10); have N10 := hid (N9.out.more l10); have T10 := hid (T9.out.more l10); have Z10 := hid (Z9.out.more l10); have L10 := hid (sq L9.out l10); clear l10 V9 N9 T9 Z9 L9 X9 Y9 kill i0 i1) | (go_at_call 13; have kill := L8.out; refine (hs13 _ V8.out.2).mono ?_; rintro e w9 ⟨a9, n9, c9, rfl, m9⟩; have b9 := sq m9.2 (bel1 w9 (.cells #[.int .i64 M', .slice a9 n9 c9] 24)); have Y9 := hid (MV.new (m := M') m9.given); have X9 := hid (X8.out.more b9); have V9 := hid (V8.out.more b9); have N9 := hid (N8.out.more b9); have T9 := hid (T8.out.more b9); have Z9 := hid (Z8.out.more b9); have L9 := hid (sq L8.out b9); clear m9 b9 V8 N8 T8 Z8 L8 X8 kill i0 i1; obtain ⟨i0, i1⟩ := X9.out.1) | (go_at_call 12; have kill := TS.out; refine (hs12 _ V7.out.2).mono ?_; rintro e w8 ⟨a8, n8, c8, rfl, m8⟩; have b8 := sq m8.2 (bel1 w8 (.cells #[.int .i64 M', .slice a8 n8 c8] 24)); have X8 := hid (MV.new (m := M') m8.given); have V8 := hid (V7.out.more b8); have N8 := hid (N7.out.more b8); have T8 := hid (T7.out.more b8); have Z8 := hid (Z7.out.more b8); have L8 := hid (sq L7.out b8); clear m8 b8 V7 N7 T7 Z7 L7 TS kill i0 i1 cz; obtain ⟨i0, i1⟩ := V8.out.1))
                go_roundw
                case rel => exact ⟨j3 + 1, by omega, by go_num, V10.out, N10.out, T10.out, Z10.out, L10.out⟩
                case measure => simp [intOf]; omega
              · have hlt3' : ¬ (j3 : Int) < 2 := by omega
                have ej : j3 = 2 := by omega
                clear hlt3 hj3
                go_wp2
                go_roundw
                case rel => exact ⟨j2 + 1, by omega, by go_num, V7.out, N7.out, T7.out, L7.out⟩
                case measure => simp [intOf]; omega
        · have hlt2' : ¬ (j2 : Int) < 8 := by omega
          go_wp2
          go_roundw
          case rel => exact ⟨j1 + 1, by omega, by go_num, T2.out, L2.out⟩
          case measure => simp [intOf]; omega
    · have hlt1' : ¬ (j1 : Int) < 2 := by omega
      go_wp2
      have kb := bel1 wr (.cells #[.int .i64 t, .int .i64 100, .int .i64 110, .int .i64 200, .int .i64 420, .int .i64 430, .int .i64 800] 3)
      have N1 := hid (NumB.new wr [t, 100, 110, 200, 420, 430, 800] 3)
      have L1' := hid (sq L0.out kb)
      clear kb T0 L0
      go_loopw [138] (fun i wr' => ∃ j4 : Nat, j4 ≤ 7 ∧ i = .int .i64 (j4 : Int) ∧ NumB 7 wr.heap.size wr' ∧ Below w.heap.size w wr') (fun i _ => 7 - (intOf i).toNat)
      case atStart => exact ⟨0, by omega, rfl, N1.out, L1'.out⟩
      case round =>
        obtain ⟨j4, hj4, rfl, hn, hb⟩ := hrel
        have N2 := hid hn
        have L2 := hid hb
        clear hn hb N1 L1'
        by_cases hlt4 : j4 < 7
        · obtain ⟨x, cx⟩ := N2.out j4 hlt4
          have hlt4' : (j4 : Int) < 7 := by omega
          have h15 := fun w' => reply15 x w'
          have h16 := fun w' => reply16 x w'
          generalize repV x = rv at *
          generalize repB x = rb at *
          go_wp2_with (first | (go_at_call 16; refine (h16 _).mono ?_; rintro e w4 ⟨rfl, rfl⟩) | (go_at_call 15; refine (h15 _).mono ?_; rintro e w3 ⟨rfl, rfl⟩))
          go_roundw
          case rel => exact ⟨j4 + 1, by omega, by go_num, N2.out, L2.out⟩
          case measure => simp [intOf]; omega
        · have hlt4' : ¬ (j4 : Int) < 7 := by omega
          go_wp2
          go_ret
          exact ⟨rfl, L2.out⟩

end Go.Proofs.Ytfpjjdlfofejcaa
