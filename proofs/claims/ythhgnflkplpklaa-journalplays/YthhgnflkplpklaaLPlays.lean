/- JournalPlays: any script of records, crashes, openings tells what was answered, and of what was under way a beginning, or one of both; for every script and number of sectors. -/
import Derived.Test.YthhgnflkplpklaaJSub
import Derived.Deep.Slices
namespace Go.Proofs.Ythhgnflkplpklaa
set_option maxRecDepth 20000
open Go.ChangeShapes Go.WideShapes Go.ChangeAt Go.RowKit
open Dsc (Dk Sec Dat Feet tc hid sq bel1 newD reopD cutD)
open Frm (Rc putL rightB bytesL num Given Mk Row RowAt RV al29 st29 ld29 seatR)
/-- An act, as it lies in memory, and what its flags are. -/
structure Act1 where
  what : Nat
  n : Nat
  k : Nat
  ka : Option Addr
  kl : Nat
  kc : Nat
  keep : List Bool
def Act1.cells (x : Act1) : List Value := [.int .u8 (x.what : Int), .int .u8 (x.n : Int), .int .u8 (x.k : Int), .slice x.ka x.kl x.kc]
structure Act1.Ok (w : World) (x : Act1) : Prop where
  what : x.what ≤ 255
  n : x.n ≤ 255
  k : x.k ≤ 255
  keep : Dsc.InF w x.ka x.kl x.keep
/-- A script that came in. -/
def InA (w : World) (a : Option Addr) (len _cap : Nat) (l : List Act1) : Prop :=
  l.length = len ∧ (∀ x ∈ l, x.Ok w) ∧ (l = [] ∨ ∃ b o, a = some ⟨b, o, none⟩ ∧ b < w.heap.size ∧ ∀ i x, l[i]? = some x → w.rangeAt b (o + i * 4) x.cells)
theorem cells34 : Try.prog.cellsOf 34 = 4 := by kernel_rfl
theorem list4 {α : Type} {cs : List α} (h : cs.length = 4) : ∃ c0 c1 c2 c3, cs = [c0, c1, c2, c3] := by
  match cs, h with
  | [c0, c1, c2, c3], _ => exact ⟨c0, c1, c2, c3, rfl⟩
section
variable {H : Type} {enc : TypeId × Value → H} {W : World} {n : Nat} {v : Value} {d : DataW H} {p : List MemPlace}
theorem open_act {cs : List Value} (h : DataW.trod enc Try.prog W 0 (fun _ => true) true n 34 cs = some (d, p)) : ∃ x : Act1, cs = x.cells ∧ x.Ok W := by
  obtain ⟨xs, m, _, _, hl, _, hf⟩ := DataW.trod_struct Try.underlying34 h
  rw [cells34] at hl
  obtain ⟨c0, c1, c2, c3, rfl⟩ := list4 hl
  have k5 : Try.prog.cellsOf 5 = 1 := by kernel_rfl
  have k32 : Try.prog.cellsOf 32 = 1 := by kernel_rfl
  have hxl : xs.length = 4 := by assumption
  obtain ⟨y0, y1, y2, y3, rfl⟩ := list4 hxl
  have f0 : DataW.trod enc Try.prog W 0 (fun _ => true) true m 5 [c0] = some y0 := by
    have g : DataW.trod enc Try.prog W 0 (fun _ => true) true m 5 (List.take (Try.prog.cellsOf 5) (List.drop 0 [c0, c1, c2, c3])) = [y0, y1, y2, y3][0]? := hf 0 _ rfl
    rw [k5] at g; exact g
  have f1 : DataW.trod enc Try.prog W 0 (fun _ => true) true m 5 [c1] = some y1 := by
    have g : DataW.trod enc Try.prog W 0 (fun _ => true) true m 5 (List.take (Try.prog.cellsOf 5) (List.drop 1 [c0, c1, c2, c3])) = [y0, y1, y2, y3][1]? := hf 1 _ rfl
    rw [k5] at g; exact g
  have f2 : DataW.trod enc Try.prog W 0 (fun _ => true) true m 5 [c2] = some y2 := by
    have g : DataW.trod enc Try.prog W 0 (fun _ => true) true m 5 (List.take (Try.prog.cellsOf 5) (List.drop 2 [c0, c1, c2, c3])) = [y0, y1, y2, y3][2]? := hf 2 _ rfl
    rw [k5] at g; exact g
  have f3 : DataW.trod enc Try.prog W 0 (fun _ => true) true m 32 [c3] = some y3 := by
    have g : DataW.trod enc Try.prog W 0 (fun _ => true) true m 32 (List.take (Try.prog.cellsOf 32) (List.drop 3 [c0, c1, c2, c3])) = [y0, y1, y2, y3][3]? := hf 3 _ rfl
    rw [k32] at g; exact g
  obtain ⟨z0, e0, _, w0⟩ := DataW.trod_int Try.underlying5 f0
  obtain ⟨z1, e1, _, w1⟩ := DataW.trod_int Try.underlying5 f1
  obtain ⟨z2, e2, _, w2⟩ := DataW.trod_int Try.underlying5 f2
  obtain ⟨a4, l4, q4, b4, e4, i4⟩ := Dsc.open_inF (d := y3.1) (p := y3.2) f3
  simp only [List.cons.injEq, and_true] at e0 e1 e2
  subst e0 e1 e2 e4
  have g0 := bounds_u8 w0
  have g1 := bounds_u8 w1
  have g2 := bounds_u8 w2
  obtain ⟨z0, rfl⟩ := Int.eq_ofNat_of_zero_le g0.1
  obtain ⟨z1, rfl⟩ := Int.eq_ofNat_of_zero_le g1.1
  obtain ⟨z2, rfl⟩ := Int.eq_ofNat_of_zero_le g2.1
  exact ⟨⟨z0, z1, z2, a4, l4, q4, b4⟩, rfl, ⟨by show z0 ≤ 255; omega, by show z1 ≤ 255; omega, by show z2 ≤ 255; omega, i4⟩⟩
theorem open_inA (h : DataW.trod enc Try.prog W 0 (fun _ => true) true n 22 [v] = some (d, p)) : ∃ a len cap l, v = .slice a len cap ∧ InA W a len cap l := by
  rcases Deep.open_slice Try.underlying22 h with ⟨hcs, _⟩ | ⟨x, len, cap, m, n', D, Pl, hcs, _, hl, _, hm, _, hel⟩
  · simp at hcs; subst hcs
    exact ⟨none, 0, 0, [], rfl, rfl, fun z hz => (by cases hz), .inl rfl⟩
  · simp at hcs; subst hcs
    have hmc : m = cap := by simpa using hm
    rw [cells34] at hel
    have key : ∀ i, ∃ y : Act1, i < len → W.cells? 0 (x.add (i * 4)) 4 = some y.cells ∧ y.Ok W := by
      intro i
      by_cases hi : i < len
      · obtain ⟨cs', h1, h2⟩ := hel i (by omega)
        obtain ⟨y, rfl, hy⟩ := open_act h2
        exact ⟨y, fun _ => ⟨h1, hy⟩⟩
      · exact ⟨⟨0, 0, 0, none, 0, 0, []⟩, fun h => absurd h hi⟩
    obtain ⟨f, hf⟩ := Classical.axiomOfChoice key
    refine ⟨some x, len, cap, (List.range len).map f, rfl, by simp, fun y hy => ?_, ?_⟩
    · obtain ⟨i, hi, rfl⟩ := List.mem_map.1 hy
      exact (hf i (by simpa using hi)).2
    · by_cases h0 : len = 0
      · subst h0; exact .inl (by simp)
      · obtain ⟨b, off, spot⟩ := x
        have hc := (hf 0 (by omega)).1
        have hb := World.cells?_block hc (by decide)
        obtain ⟨_, _, hs⟩ := World.cells?_some hc
        have h00 := hs 0 (by decide)
        have hspot : spot = none := by
          have e : (f 0).cells[0]? = some (.int .u8 ((f 0).what : Int)) := rfl
          rw [e] at h00
          simpa [Addr.add] using World.cell?_spot h00
        subst hspot
        rw [Addr.add_mid] at hb
        refine .inr ⟨b, off, rfl, hb, fun i y hy j u hu => ?_⟩
        have hi : i < len := by
          have := (List.getElem?_eq_some_iff.1 hy).1
          simpa using this
        rw [List.getElem?_map, List.getElem?_range hi] at hy
        cases hy
        obtain ⟨_, _, hs⟩ := World.cells?_some (hf i hi).1
        have hj : j < 4 := (List.getElem?_eq_some_iff.1 hu).1
        have := hs j hj
        rw [Addr.add_mid, Addr.add_mid] at this
        rw [this]; exact hu
end
/-! ### An act in a block of its own -/
theorem z34 : (Try.prog.info? 34).map (fun i => (i.zero, i.size)) = some (some (.agg #[.int .u8 0, .int .u8 0, .int .u8 0, .slice none 0 0]), 4) := by kernel_rfl
theorem n34 : (Try.prog.info? 34).map (·.size) = some 4 := (zero_of_info z34).2
def Act1.zero : Act1 := ⟨0, 0, 0, none, 0, 0, []⟩
theorem Act1.one (x : Act1) : ∀ u ∈ x.cells, u.oneCell' = true := by intro u hu; simp [Act1.cells] at hu; rcases hu with h | h | h | h <;> subst h <;> rfl
def AB (w : World) (b : Nat) (x : Act1) : Prop := w.heap[b]? = some (.cells x.cells.toArray 34 (0, 0))
theorem AB.kin {w w' : World} {b : Nat} {x : Act1} (k : AB w b x) (e : Kin w w') : AB w' b x := (e.block b _ 34 (0, 0) k (by decide) (by decide) (by decide) (by decide)).trans k
theorem AB.below {w w' : World} {b : Nat} {x : Act1} (k : AB w b x) (e : Below w.heap.size w w') : AB w' b x := k.kin (Kin.of e)
theorem AB.cs {w : World} {b : Nat} {x : Act1} (k : AB w b x) : w.cell? ⟨b, 0, none⟩ = some (.int .u8 (x.what : Int)) ∧ w.cell? ⟨b, 1, none⟩ = some (.int .u8 (x.n : Int)) ∧ w.cell? ⟨b, 2, none⟩ = some (.int .u8 (x.k : Int)) ∧ w.cell? ⟨b, 3, none⟩ = some (.slice x.ka x.kl x.kc) := by
  refine ⟨?_, ?_, ?_, ?_⟩ <;> (rw [Dsc.cell_of_head k]; rfl)
section
variable {ops : Array Oper} {rest : List Oper} {op : Oper} {a : Act} {w : World} {Q : Exit → Act → World → Prop}
theorem ldA {b o : Nat} {x : Act1} (hr : w.rangeAt b o x.cells) (hgd : op.guard = none) (y : Operand) (ho : op.op = .load 34 y) (hx : a.eval y = .pointer (some ⟨b, o, none⟩))
    (h : wpList Try.prog ops Q rest (a.put op.dst (.agg x.cells.toArray)) w) : wpList Try.prog ops Q (op :: rest) a w :=
  wpList_load_mid hgd 34 y ho b o hx x.cells _ hr Try.underlying34 rfl n34 h
theorem alA (hgd : op.guard = none) (ho : op.op = .alloc 34)
    (h : ∀ b w', w.heap.size ≤ b → AB w' b Act1.zero → Below w.heap.size w w' → wpList Try.prog ops Q rest (a.put op.dst (.pointer (some ⟨b, 0, none⟩))) w') : wpList Try.prog ops Q (op :: rest) a w :=
  wpList_plain hgd fun K hK => by
    have hz := (zero_of_info z34).1 w
    unfold Oper.wp execOp
    simp [ho, Instr.alloc, hz, newVar, newRow, go_sem, Value.cells]
    exact hK _ _ (h _ _ (Nat.le_refl _) (heap_alloc_new w (.cells Act1.zero.cells.toArray 34)) (bel1 _ _))
theorem stA {b : Nat} {x0 x : Act1} {w0 : World} (k : AB w b x0) (hB : Below w0.heap.size w0 w) (hb : w0.heap.size ≤ b) (hgd : op.guard = none) (y z : Operand) (ho : op.op = .store 34 y z) (hx : a.eval y = .pointer (some ⟨b, 0, none⟩)) (hy : a.eval z = .agg x.cells.toArray)
    (h : ∀ w', AB w' b x → Below w0.heap.size w0 w' → wpList Try.prog ops Q rest (a.put op.dst undef) w') : wpList Try.prog ops Q (op :: rest) a w := by
  refine wpList_store_mid hgd 34 y z ho b 0 x.cells.toArray hx hy (there_of k 0 4 (by simp [Act1.cells])) n34 (all_oneCell_toArray x.one) ?_
  refine h _ ?_ (by simpa using Frm.setCells_in hB hb 0)
  have := heap_setCells k 0 x.cells (by simp [Act1.cells]) x.one
  unfold AB
  simp only at this ⊢
  rw [this]
  simp [Act1.cells]
end
theorem cut2_of {d : Dk} {l : List Rc} (H : ∃ c a b, Holds d.secs c a b l) (hw : d.waits = []) : Cut2 d l l := fun s' f => by
  obtain ⟨c, a, b, H⟩ := H
  exact .inl ⟨_, _, _, hold1 H (ws := []) ⟨fun x hx => (by cases hx), fun t _ x hx => (by cases hx)⟩ (by rw [hw] at f; exact f)⟩
theorem recs_ne {w : World} {ao1 ao2 : Option Addr} {n1 c1 n2 c2 : Nat} {l1 l2 : List Rc} (h1 : RG w ao1 n1 c1 l1) (h2 : RG w ao2 n2 c2 l2) (hne : ¬ l1 = l2) : Calls Try.prog 21 #[.slice ao1 n1 c1, .slice ao2 n2 c2] w fun e w' => e = .returned (.bool false) ∧ Below w.heap.size w w' := by
  refine (recs_same h1 h2).mono ?_
  rintro e w' ⟨rfl, k⟩
  exact ⟨by simp [hne], k⟩
/-- What was read behind the crash. -/
theorem after_cut {la lb lo l9 : List Rc} {z : Int} {na nb nr : Nat} (ha : la.length = na) (hb : lb.length = nb) (hr : l9.length = nr) (o8 : (z = 0 ∧ lo = la ++ lb) ∨ (z = 22 ∧ lo = la)) (o9 : l9 = lo ∨ l9 = la ++ lb) :
    na ≤ nr ∧ la = l9.take na ∧ l9.drop na = lb.take (nr - na) ∧ nr - na ≤ nb ∧ ((z = 0 ∧ nr = na + nb) ∨ z = 22) := by
  have two : l9 = la ∨ l9 = la ++ lb := by
    rcases o9 with rfl | h
    · rcases o8 with ⟨_, h⟩ | ⟨_, h⟩
      · exact .inr h
      · exact .inl h
    · exact .inr h
  have hz : (z = 0 ∧ nr = na + nb) ∨ z = 22 := by
    rcases o8 with ⟨h, h2⟩ | ⟨h, _⟩
    · left; refine ⟨h, ?_⟩
      have : l9 = la ++ lb := by rcases o9 with h3 | h3; exact h3.trans h2; exact h3
      rw [← hr, this, List.length_append, ha, hb]
    · exact .inr h
  subst ha hb hr
  rcases two with rfl | rfl
  · exact ⟨Nat.le_refl _, by simp, by simp, by omega, hz⟩
  · refine ⟨by simp, by simp, ?_, by simp, hz⟩
    rw [List.drop_left, List.length_append, Nat.add_sub_cancel_left, List.take_length]
set_option maxHeartbeats 40000000 in
theorem plays_walk (x0 : Option Addr) (y0 z0 : Nat) (acts : List Act1) (a1 : Int) (w : World) (i0 : InA w x0 y0 z0 acts) (b1 : 0 ≤ a1 ∧ a1 < 65536) :
    Calls Try.prog 3 #[.slice x0 y0 z0, .int .u16 a1] w fun e w' => e = .returned (.bool true) ∧ Below w.heap.size w w' := by
  have I := hid i0
  clear i0
  by_cases hlong : 30 < y0
  · have gk : decide ((30 : Int) < (y0 : Int)) = true := by simp; omega
    go_enter Try.func3, Try.ntmps3
    go_wp2_with (first | (go_at_call 9; refine (known_any _).mono ?_; rintro e w1 ⟨rfl, k1'⟩; have K1 := hid k1'; clear k1'))
    go_ret
    exact ⟨rfl, K1.out⟩
  have gk : decide ((30 : Int) < (y0 : Int)) = false := by simp; omega
  have e0 := tmod_nat b1.1 300 (by omega)
  have m0 : (a1 % 300).toNat < 300 := by omega
  generalize (a1 % 300).toNat = M at *
  have x1 : IntKind.i64.wrap (M : Int) = M := wr64 (by omega)
  obtain ⟨A, hA⟩ : ∃ A, (M + 20 - 1) / 2 * 64 = A := ⟨_, rfl⟩
  have hA1 : 16 * (M + 20) ≤ A + 256 := by omega
  have hA2 : A ≤ 100000 := by omega
  have HA := hid hA
  clear hA
  have HL30 : y0 ≤ 30 := by omega
  clear hlong
  go_enter Try.func3, Try.ntmps3
  go_wp2_with (first | (go_at_call 11; refine (open_new J1.out (by omega)).mono ?_; rintro e w2 ⟨q2, ao2, cap2, h2, rfl, j2, g2, k2⟩; have J2 := hid j2; clear j2 g2 k2) | (go_at_call 10; refine (new_jd _ (M + 20) (by omega) K1.out).mono ?_; rintro e w1' ⟨p1, rfl, j1, k1'⟩; have J1 := hid j1; clear j1 k1') | (go_at_call 9; refine (known_any _).mono ?_; rintro e w1 ⟨rfl, k1'⟩; have K1 := hid k1'; clear k1'))
  go_loopw [6, 9, 10] (fun j al i wr => ∃ (k q na cap : Nat) (ao : Option Addr) (d : Dk) (h : Hd) (l : List Rc), k ≤ y0 ∧ j = .pointer (some ⟨q, 0, none⟩) ∧ al = .slice ao na cap ∧ i = .int .i64 (k : Int) ∧ JS w wr p1 q d h l ∧ d.secs.length = M + 20 ∧ RG wr ao na cap l ∧ na ≤ 6 * k) (fun _ _ i _ => y0 - (intOf i).toNat)
  case atStart => exact ⟨0, q2, 0, 0, none, newD (M + 20), h2, [], by omega, rfl, rfl, rfl, J2.out, by simp [newD], RG.none _, by omega⟩
  case round =>
    obtain ⟨k, q, na, cap, ao, d, h, l, hk, rfl, rfl, rfl, j, n, r, hna⟩ := hrel
    have J := hid j
    have N := hid n
    have R := hid r
    have rc1 := r.cap1
    have rc2 := r.cap2
    have LN := hid r.leq
    have hfa := j.held.fit
    rw [n, HA.out, j.held.len] at hfa
    obtain ⟨F, hF⟩ : ∃ F, (frs l).length = F := ⟨_, rfl⟩
    rw [hF] at hfa
    have HF := hid hF
    clear j n r hF
    by_cases hlt : k < y0
    · obtain ⟨ilen, iok, irow⟩ := I.out
      obtain ⟨x, hx⟩ : ∃ x, acts[k]? = some x := ⟨acts[k]'(by omega), by simp⟩
      have hxo := iok x (List.mem_of_getElem? hx)
      obtain ⟨b, o, rfl, hbl, hrow⟩ : ∃ b o, x0 = some ⟨b, o, none⟩ ∧ b < w.heap.size ∧ ∀ i x, acts[i]? = some x → w.rangeAt b (o + i * 4) x.cells := by
        rcases irow with e | e
        · rw [e] at hx; simp at hx
        · exact e
      have RX := hid (Frm.range_below (hrow k x hx) hbl J.out.log.disk.bel)
      have HKP := hid hxo.keep
      have xw := hxo.what
      have xn := hxo.n
      have xk := hxo.k
      clear ilen iok irow hx hxo hrow
      by_cases hkeep : 40 < x.kl
      · have gk : decide ((40 : Int) < (x.kl : Int)) = true := by simp; omega
        go_wp2_with (first | (refine stA (x := x) (w0 := wr) AZ2.out K2.out hb2 rfl _ _ rfl rfl rfl ?_; intro w3 a3 k3; have AB3 := hid a3; obtain ⟨c30, c31, c32, c33⟩ := a3.cs; have K3 := hid k3; have J3 := hid (J.out.more k3); have R3 := hid (R.out.below k3); clear a3 k3) | (refine alA rfl rfl ?_; intro b11 w2 hb2 a2 k2; have AZ2 := hid a2; have K2 := hid k2; clear a2 k2) | (refine ldA RX.out rfl _ rfl rfl ?_))
        go_ret
        exact ⟨rfl, sq J.out.log.disk.bel K3.out⟩
      have gk40 : decide ((40 : Int) < (x.kl : Int)) = false := by simp; omega
      have t10 : (x.what : Int).tmod 10 = ((x.what % 10 : Nat) : Int) := by rw [Int.tmod_eq_emod_of_nonneg (by omega)]; omega
      obtain ⟨v, hv⟩ : ∃ v, x.what % 10 = v := ⟨_, rfl⟩
      rw [hv] at t10
      have hv9 : v ≤ 9 := by omega
      clear hv hkeep
      have y2 : IntKind.i64.wrap (x.n : Int) = x.n := wr64 (by omega)
      have hvv : v = 6 ∨ v = 7 ∨ v = 8 ∨ v = 9 ∨ v ≤ 5 := by omega
      rcases hvv with rfl | rfl | rfl | rfl | hv5
      · as_aux_lemma =>
        have tc : (x.n : Int).tmod 6 = ((x.n % 6 : Nat) : Int) := by rw [Int.tmod_eq_emod_of_nonneg (by omega)]; omega
        obtain ⟨c, hc⟩ : ∃ c, x.n % 6 = c := ⟨_, rfl⟩
        rw [hc] at tc
        have hcm : c < 6 := by omega
        clear hc
        rw [show ((6 : Nat) : Int) = 6 from rfl] at t10
        have gx := hid (made_good (k := (x.k : Int)) (n := c) (by omega) (by omega) (by omega))
        have LX := hid (made_len (x.k : Int) c)
        have fx := made_fit (k := (x.k : Int)) (n := c) (by omega) (by omega) (by omega)
        obtain ⟨nx, hnx⟩ : ∃ nx, madeL (x.k : Int) c = nx := ⟨_, rfl⟩
        rw [hnx] at gx LX fx
        have HNX := hid hnx
        obtain ⟨P, hP⟩ : ∃ P, (frs nx).length = P := ⟨_, rfl⟩
        rw [hP] at fx
        have HP := hid hP
        clear hnx hP
        go_upto_region 30 with (first | (go_at_call 13; refine (rep_any J4.out X4.out gx.out (by rw [LN.out]; omega)).mono ?_; rintro e w6 ⟨z, rfl, k6, o6⟩; have O6 := hid o6; have R6 := hid (R4.out.kin k6); have X6 := hid (X4.out.kin k6); have AB6 := hid (AB4.out.kin k6); obtain ⟨c60, c61, c62, c63⟩ := AB6.out.cs; clear o6 k6) | (go_at_call 12; refine (made_any c (x.k : Int) _ (by omega) (by omega) (by omega) _ rfl).mono ?_; rintro e w4 ⟨ao4, cap4, rfl, r4, k4⟩; rw [HNX.out] at r4; have X4 := hid r4; have J4 := hid (J3.out.more k4); have R4 := hid (R3.out.below k4); have AB4 := hid (AB3.out.below k4); clear r4 k4) | (refine stA (x := x) (w0 := wr) AZ2.out K2.out hb2 rfl _ _ rfl rfl rfl ?_; intro w3 a3 k3; have AB3 := hid a3; obtain ⟨c30, c31, c32, c33⟩ := a3.cs; have K3 := hid k3; have J3 := hid (J.out.more k3); have R3 := hid (R.out.below k3); clear a3 k3) | (refine alA rfl rfl ?_; intro b11 w2 hb2 a2 k2; have AZ2 := hid a2; have K2 := hid k2; clear a2 k2) | (refine ldA RX.out rfl _ rfl rfl ?_))
        have HAR : Hid (arS d * 64 = A) := by unfold Hid arS; rw [N.out]; exact HA.out
        rcases O6.out with ⟨rfl, fit, d6, h6, j6, n6, -⟩ | ⟨rfl, fit, h6, j6⟩ | ⟨rfl, -, d6, j6, n6, c6⟩
        · as_aux_lemma =>
          have J6 := hid j6
          have N6 := hid n6
          have NS6 := hid (n6.trans N.out)
          clear j6 n6 O6 fit
          obtain ⟨B, hB⟩ : ∃ B, decide ((P : Int) ≤ 16 * ((M : Int) + 20) - 256) = B := ⟨_, rfl⟩
          cases B
          · as_aux_lemma =>
            skip
            go_wp2_with (first | (go_at_call 20; refine (len_js (J6.out.more K7.out) c LX.out).mono ?_; rintro e w9 ⟨rfl, rfl⟩) | (go_at_call 14; refine (size_any X6.out gx.out (by omega)).mono ?_; rintro e w7 ⟨rfl, k7⟩; rw [HP.out]; have K7 := hid k7; clear k7) | (go_at_call 15; refine (sectors_jd (J6.out.log.disk.more K7.out)).mono ?_; rintro e w8s ⟨rfl, rfl⟩; rw [NS6.out]))
            go_roundw
            case rel => exact ⟨k + 1, q, c, cap4, ao4, d6, h6, nx, by omega, rfl, rfl, by go_num, J6.out.more K7.out, N6.out.trans N.out, X6.out.below K7.out, by omega⟩
            case measure => simp [intOf]; omega
          · as_aux_lemma =>
            skip
            go_wp2_with (first | (go_at_call 20; refine (len_js (J6.out.more K7.out) c LX.out).mono ?_; rintro e w9 ⟨rfl, rfl⟩) | (go_at_call 14; refine (size_any X6.out gx.out (by omega)).mono ?_; rintro e w7 ⟨rfl, k7⟩; rw [HP.out]; have K7 := hid k7; clear k7) | (go_at_call 15; refine (sectors_jd (J6.out.log.disk.more K7.out)).mono ?_; rintro e w8s ⟨rfl, rfl⟩; rw [NS6.out]))
            go_roundw
            case rel => exact ⟨k + 1, q, c, cap4, ao4, d6, h6, nx, by omega, rfl, rfl, by go_num, J6.out.more K7.out, N6.out.trans N.out, X6.out.below K7.out, by omega⟩
            case measure => simp [intOf]; omega
        · as_aux_lemma =>
          rw [HP.out, HAR.out] at fit
          have gle : decide ((P : Int) ≤ 16 * ((M : Int) + 20) - 256) = false := by simp; omega
          have J6 := hid j6
          have NS6 := N
          clear j6 O6
          go_wp2_with (first | (go_at_call 20; refine (len_js (J6.out.more K7.out) na LN.out).mono ?_; rintro e w9 ⟨rfl, rfl⟩) | (go_at_call 14; refine (size_any X6.out gx.out (by omega)).mono ?_; rintro e w7 ⟨rfl, k7⟩; rw [HP.out]; have K7 := hid k7; clear k7) | (go_at_call 15; refine (sectors_jd (J6.out.log.disk.more K7.out)).mono ?_; rintro e w8s ⟨rfl, rfl⟩; rw [NS6.out]))
          go_roundw
          case rel => exact ⟨k + 1, q, na, cap, ao, d, h6, l, by omega, rfl, rfl, by go_num, J6.out.more K7.out, N.out, R6.out.below K7.out, by omega⟩
          case measure => simp [intOf]; omega
        · as_aux_lemma =>
          have J6 := hid j6
          have N6 := hid n6
          have NS6 := hid (n6.trans N.out)
          have C6 := hid c6
          clear j6 n6 c6 O6
          obtain ⟨B, hB⟩ : ∃ B, decide ((P : Int) ≤ 16 * ((M : Int) + 20) - 256) = B := ⟨_, rfl⟩
          cases B
          · as_aux_lemma =>
            skip
            go_upto_region 51 with (first | (go_at_call 17; refine (reopen_jd (J6.out.more K7.out) C6.out HKP.out (x.n : Int)).mono ?_; rintro e w8 ⟨rfl, k8, d8, l8, j8, u8, v8, y8, n8, o8, h8⟩; have J8 := hid j8; have U8 := hid (And.intro u8 v8); have H8 := hid h8; have O8 := hid o8; have N8 := hid n8; have R8 := hid ((R6.out.below K7.out).kin k8); have X8 := hid ((X6.out.below K7.out).kin k8); obtain ⟨nr, hnr⟩ : ∃ n, l8.length = n := ⟨_, rfl⟩; have HNR := hid hnr; clear hnr j8 u8 v8 y8 h8 o8 n8 k8) | (go_at_call 11; refine (open_up J8.out U8.out.1 U8.out.2 H8.out nr HNR.out).mono ?_; rintro e w9 ⟨q9, ao9, cap9, h9, rfl, j9, g9, k9⟩; have J9 := hid j9; have G9 := hid g9; have R9 := hid (R8.out.below k9); have X9 := hid (X8.out.below k9); clear j9 g9 k9) | (go_at_call 14; refine (size_any X6.out gx.out (by omega)).mono ?_; rintro e w7 ⟨rfl, k7⟩; rw [HP.out]; have K7 := hid k7; obtain ⟨c70, c71, c72, c73⟩ := (AB6.out.below k7).cs; clear k7) | (go_at_call 15; refine (sectors_jd (J6.out.more K7.out)).mono ?_; rintro e w8s ⟨rfl, rfl⟩; rw [NS6.out]))
            have hnr6 : nr ≤ 6 * (k + 1) := by
              have h1 := LN.out
              have h2 := LX.out
              have h3 := HNR.out
              rcases O8.out with e | e <;> rw [e] at h3 <;> omega
            by_cases hsame : l8 = l
            · have HS := hid hsame
              clear hsame
              go_wp2_with (first | (go_at_call 20; refine (len_js (J9.out.more K10.out) nr HNR.out).mono ?_; rintro e w12 ⟨rfl, rfl⟩) | (go_at_call 21; refine (recs_eq (by have := G9.out; rw [HS.out] at this; exact this) R9.out).mono ?_; rintro e w10 ⟨rfl, k10⟩; have K10 := hid k10; clear k10))
              go_roundw
              case rel => exact ⟨k + 1, q9, nr, cap9, ao9, d8, h9, l8, by omega, rfl, rfl, by go_num, J9.out.more K10.out, (N8.out.trans N6.out).trans N.out, G9.out.below K10.out, hnr6⟩
              case measure => simp [intOf]; omega
            · have HS := hid hsame
              have HE : Hid (l8 = nx) := by unfold Hid; rcases O8.out with e | e; exact absurd e hsame; exact e
              clear hsame
              go_wp2_with (first | (go_at_call 20; refine (len_js (J9.out.more (sq K10.out K11.out)) nr HNR.out).mono ?_; rintro e w12 ⟨rfl, rfl⟩) | (go_at_call 21; have X := K10.out; refine (recs_eq ((by have := G9.out; rw [HE.out] at this; exact this : RG w9 ao9 nr cap9 nx).below K10.out) (X9.out.below K10.out)).mono ?_; rintro e w11 ⟨rfl, k11⟩; have K11 := hid k11; clear k11 X) | (go_at_call 21; refine (recs_ne G9.out R9.out HS.out).mono ?_; rintro e w10 ⟨rfl, k10⟩; have K10 := hid k10; clear k10))
              go_roundw
              case rel => exact ⟨k + 1, q9, nr, cap9, ao9, d8, h9, l8, by omega, rfl, rfl, by go_num, J9.out.more (sq K10.out K11.out), (N8.out.trans N6.out).trans N.out, G9.out.below (sq K10.out K11.out), hnr6⟩
              case measure => simp [intOf]; omega
          · as_aux_lemma =>
            skip
            go_upto_region 51 with (first | (go_at_call 17; refine (reopen_jd (J6.out.more K7.out) C6.out HKP.out (x.n : Int)).mono ?_; rintro e w8 ⟨rfl, k8, d8, l8, j8, u8, v8, y8, n8, o8, h8⟩; have J8 := hid j8; have U8 := hid (And.intro u8 v8); have H8 := hid h8; have O8 := hid o8; have N8 := hid n8; have R8 := hid ((R6.out.below K7.out).kin k8); have X8 := hid ((X6.out.below K7.out).kin k8); obtain ⟨nr, hnr⟩ : ∃ n, l8.length = n := ⟨_, rfl⟩; have HNR := hid hnr; clear hnr j8 u8 v8 y8 h8 o8 n8 k8) | (go_at_call 11; refine (open_up J8.out U8.out.1 U8.out.2 H8.out nr HNR.out).mono ?_; rintro e w9 ⟨q9, ao9, cap9, h9, rfl, j9, g9, k9⟩; have J9 := hid j9; have G9 := hid g9; have R9 := hid (R8.out.below k9); have X9 := hid (X8.out.below k9); clear j9 g9 k9) | (go_at_call 14; refine (size_any X6.out gx.out (by omega)).mono ?_; rintro e w7 ⟨rfl, k7⟩; rw [HP.out]; have K7 := hid k7; obtain ⟨c70, c71, c72, c73⟩ := (AB6.out.below k7).cs; clear k7) | (go_at_call 15; refine (sectors_jd (J6.out.more K7.out)).mono ?_; rintro e w8s ⟨rfl, rfl⟩; rw [NS6.out]))
            have hnr6 : nr ≤ 6 * (k + 1) := by
              have h1 := LN.out
              have h2 := LX.out
              have h3 := HNR.out
              rcases O8.out with e | e <;> rw [e] at h3 <;> omega
            by_cases hsame : l8 = l
            · have HS := hid hsame
              clear hsame
              go_wp2_with (first | (go_at_call 20; refine (len_js (J9.out.more K10.out) nr HNR.out).mono ?_; rintro e w12 ⟨rfl, rfl⟩) | (go_at_call 21; refine (recs_eq (by have := G9.out; rw [HS.out] at this; exact this) R9.out).mono ?_; rintro e w10 ⟨rfl, k10⟩; have K10 := hid k10; clear k10))
              go_roundw
              case rel => exact ⟨k + 1, q9, nr, cap9, ao9, d8, h9, l8, by omega, rfl, rfl, by go_num, J9.out.more K10.out, (N8.out.trans N6.out).trans N.out, G9.out.below K10.out, hnr6⟩
              case measure => simp [intOf]; omega
            · have HS := hid hsame
              have HE : Hid (l8 = nx) := by unfold Hid; rcases O8.out with e | e; exact absurd e hsame; exact e
              clear hsame
              go_wp2_with (first | (go_at_call 20; refine (len_js (J9.out.more (sq K10.out K11.out)) nr HNR.out).mono ?_; rintro e w12 ⟨rfl, rfl⟩) | (go_at_call 21; have X := K10.out; refine (recs_eq ((by have := G9.out; rw [HE.out] at this; exact this : RG w9 ao9 nr cap9 nx).below K10.out) (X9.out.below K10.out)).mono ?_; rintro e w11 ⟨rfl, k11⟩; have K11 := hid k11; clear k11 X) | (go_at_call 21; refine (recs_ne G9.out R9.out HS.out).mono ?_; rintro e w10 ⟨rfl, k10⟩; have K10 := hid k10; clear k10))
              go_roundw
              case rel => exact ⟨k + 1, q9, nr, cap9, ao9, d8, h9, l8, by omega, rfl, rfl, by go_num, J9.out.more (sq K10.out K11.out), (N8.out.trans N6.out).trans N.out, G9.out.below (sq K10.out K11.out), hnr6⟩
              case measure => simp [intOf]; omega
      · as_aux_lemma =>
        rw [show ((7 : Nat) : Int) = 7 from rfl] at t10
        have HTA : Hid (l = l.take na) := by unfold Hid; rw [← LN.out, List.take_length]
        have HDN : Hid (l.drop na = ([] : List Rc).take 0) := by unfold Hid; rw [← LN.out, List.drop_length]; rfl
        have TK := hid True.intro
        go_wp2_with (first | (go_at_call 20; refine (len_js (J5.out.more (sq K6.out K7.out)) na LN.out).mono ?_; rintro e w8 ⟨rfl, rfl⟩) | (go_at_call 22; refine (begins_any RS.out (RG.none _) (by omega) HDN.out).mono ?_; rintro e w7 ⟨rfl, k7⟩; have K7 := hid k7; clear k7 RS) | (have X := K6.out; refine slRw (G5.out.below K6.out) na (Nat.le_refl _) (m := 0) (Nat.sub_self _) _ _ rfl (by kernel_rfl) rfl rfl ?_; intro aos caps rs; have RS := hid rs; clear rs X) | (go_at_call 22; have X := TK.out; refine (begins_any R5.out G5.out (Nat.le_refl _) HTA.out).mono ?_; rintro e w6 ⟨rfl, k6⟩; have K6 := hid k6; clear k6 TK X) | (go_at_call 11; refine (open_up J4.out U4.out.1 U4.out.2 H4.out na LN.out).mono ?_; rintro e w5 ⟨q5, ao5, cap5, h5, rfl, j5, g5, k5⟩; have J5 := hid j5; have G5 := hid g5; have R5 := hid (R4.out.below k5); have gc1 := g5.cap1; have gc2 := g5.cap2; clear j5 g5 k5) | (go_at_call 17; refine (reopen_jd J3.out.log.disk J3.out.cut2 HKP.out (x.n : Int)).mono ?_; rintro e w4 ⟨rfl, k4, d4, l4, j4, u4, v4, y4, n4, o4, h4⟩; rw [or_self] at o4; rw [o4] at h4; have J4 := hid j4; have U4 := hid (And.intro u4 v4); have H4 := hid h4; have N4 := hid n4; have R4 := hid (R3.out.kin k4); have AB4 := hid (AB3.out.kin k4); obtain ⟨c40, c41, c42, c43⟩ := AB4.out.cs; clear j4 u4 v4 y4 h4 o4 n4 k4 l4) | (refine stA (x := x) (w0 := wr) AZ2.out K2.out hb2 rfl _ _ rfl rfl rfl ?_; intro w3 a3 k3; have AB3 := hid a3; obtain ⟨c30, c31, c32, c33⟩ := a3.cs; have K3 := hid k3; have J3 := hid (J.out.more k3); have R3 := hid (R.out.below k3); clear a3 k3) | (refine alA rfl rfl ?_; intro b11 w2 hb2 a2 k2; have AZ2 := hid a2; have K2 := hid k2; clear a2 k2) | (refine ldA RX.out rfl _ rfl rfl ?_))
        go_roundw
        case rel => exact ⟨k + 1, q5, na, cap5, ao5, d4, h5, l, by omega, rfl, rfl, by go_num, J5.out.more (sq K6.out K7.out), N4.out.trans N.out, G5.out.below (sq K6.out K7.out), by omega⟩
        case measure => simp [intOf]; omega
      · as_aux_lemma =>
        have tc : (x.n : Int).tmod 14 = ((x.n % 14 : Nat) : Int) := by rw [Int.tmod_eq_emod_of_nonneg (by omega)]; omega
        obtain ⟨c, hc⟩ : ∃ c, x.n % 14 = c := ⟨_, rfl⟩
        rw [hc] at tc
        have hcm : c < 14 := by omega
        clear hc
        rw [show ((8 : Nat) : Int) = 8 from rfl] at t10
        have y3 : IntKind.i64.wrap (c : Int) = c := wr64 (by omega)
        go_wp2_with (first | (go_at_call 16; refine (cut_jd J3.out.log.disk ((c : Int) + 1) _ rfl (by omega)).mono ?_; rintro e w4 ⟨rfl, l4⟩; obtain ⟨j4, n4⟩ := J3.out.cut l4 (by omega); have J4 := hid j4; have N4 := hid (n4.trans N.out); have R4 := hid (R3.out.kin l4.2.1); clear j4 n4 l4) | (refine stA (x := x) (w0 := wr) AZ2.out K2.out hb2 rfl _ _ rfl rfl rfl ?_; intro w3 a3 k3; have AB3 := hid a3; obtain ⟨c30, c31, c32, c33⟩ := a3.cs; have K3 := hid k3; have J3 := hid (J.out.more k3); have R3 := hid (R.out.below k3); clear a3 k3) | (refine alA rfl rfl ?_; intro b11 w2 hb2 a2 k2; have AZ2 := hid a2; have K2 := hid k2; clear a2 k2) | (refine ldA RX.out rfl _ rfl rfl ?_))
        go_roundw
        case rel => exact ⟨k + 1, q, na, cap, ao, cutD d ((c : Int) + 1), h, l, by omega, rfl, rfl, by go_num, J4.out, N4.out, R4.out, by omega⟩
        case measure => simp [intOf]; omega
      · as_aux_lemma =>
        rw [show ((9 : Nat) : Int) = 9 from rfl] at t10
        have HTA : Hid (l = l.take na) := by unfold Hid; rw [← LN.out, List.take_length]
        have HDN : Hid (l.drop na = ([] : List Rc).take 0) := by unfold Hid; rw [← LN.out, List.drop_length]; rfl
        have TK := hid True.intro
        go_wp2_with (first | (go_at_call 20; refine (len_js (J15.out.more (sq K6.out K7.out)) na LN.out).mono ?_; rintro e w8 ⟨rfl, rfl⟩) | (go_at_call 22; refine (begins_any RS.out (RG.none _) (by omega) HDN.out).mono ?_; rintro e w7 ⟨rfl, k7⟩; have K7 := hid k7; clear k7 RS) | (have X := K6.out; refine slRw (G15.out.below K6.out) na (Nat.le_refl _) (m := 0) (Nat.sub_self _) _ _ rfl (by kernel_rfl) rfl rfl ?_; intro aos caps rs; have RS := hid rs; clear rs X) | (go_at_call 22; have X := TK.out; refine (begins_any R15.out G15.out (Nat.le_refl _) HTA.out).mono ?_; rintro e w6 ⟨rfl, k6⟩; have K6 := hid k6; clear k6 TK X) | (go_at_call 11; refine (open_up J14.out U14.out.1 U14.out.2 H14.out na LN.out).mono ?_; rintro e w15 ⟨q15, ao15, cap15, h15, rfl, j15, g15, k15⟩; have J15 := hid j15; have G15 := hid g15; have R15 := hid (R14.out.below k15); have gc1 := g15.cap1; have gc2 := g15.cap2; clear j15 g15 k15) | (go_at_call 17; refine (reopen_jd J4.out (cut2_of H4.out U4.out.2) HKP.out (x.n : Int)).mono ?_; rintro e w14 ⟨rfl, k14, d14, l14, j14, u14, v14, y14, n14, o14, h14⟩; rw [or_self] at o14; rw [o14] at h14; have J14 := hid j14; have U14 := hid (And.intro u14 v14); have H14 := hid h14; have N14 := hid n14; have R14 := hid (R4.out.kin k14); have AB14 := hid (AB4.out.kin k14); obtain ⟨c140, c141, c142, c143⟩ := AB14.out.cs; clear j14 u14 v14 y14 h14 o14 n14 k14 l14) | (go_at_call 17; refine (reopen_jd J3.out.log.disk J3.out.cut2 HKP.out (x.n : Int)).mono ?_; rintro e w4 ⟨rfl, k4, d4, l4, j4, u4, v4, y4, n4, o4, h4⟩; rw [or_self] at o4; rw [o4] at h4; have J4 := hid j4; have U4 := hid (And.intro u4 v4); have H4 := hid h4; have N4 := hid n4; have R4 := hid (R3.out.kin k4); have AB4 := hid (AB3.out.kin k4); obtain ⟨c40, c41, c42, c43⟩ := AB4.out.cs; clear j4 u4 v4 y4 h4 o4 n4 k4 l4) | (refine stA (x := x) (w0 := wr) AZ2.out K2.out hb2 rfl _ _ rfl rfl rfl ?_; intro w3 a3 k3; have AB3 := hid a3; obtain ⟨c30, c31, c32, c33⟩ := a3.cs; have K3 := hid k3; have J3 := hid (J.out.more k3); have R3 := hid (R.out.below k3); clear a3 k3) | (refine alA rfl rfl ?_; intro b11 w2 hb2 a2 k2; have AZ2 := hid a2; have K2 := hid k2; clear a2 k2) | (refine ldA RX.out rfl _ rfl rfl ?_))
        go_roundw
        case rel => exact ⟨k + 1, q15, na, cap15, ao15, d14, h15, l, by omega, rfl, rfl, by go_num, J15.out.more (sq K6.out K7.out), (N14.out.trans N4.out).trans N.out, G15.out.below (sq K6.out K7.out), by omega⟩
        case measure => simp [intOf]; omega
      · as_aux_lemma =>
        have tc : (x.n : Int).tmod 4 = ((x.n % 4 : Nat) : Int) := by rw [Int.tmod_eq_emod_of_nonneg (by omega)]; omega
        obtain ⟨c, hc⟩ : ∃ c, x.n % 4 = c := ⟨_, rfl⟩
        rw [hc] at tc
        have hcm : c < 4 := by omega
        clear hc
        have n6 : ¬ v = 6 := by omega
        have n7 : ¬ v = 7 := by omega
        have n8 : ¬ v = 8 := by omega
        have n9 : ¬ v = 9 := by omega
        have g6 : decide ((v : Int) = 6) = false := by simp; omega
        have g7 : decide ((v : Int) = 7) = false := by simp; omega
        have g8 : decide ((v : Int) = 8) = false := by simp; omega
        have g9 : decide ((v : Int) = 9) = false := by simp; omega
        have gx := hid (made_good (k := (x.k : Int)) (n := c) (by omega) (by omega) (by omega))
        have LX := hid (made_len (x.k : Int) c)
        have fx := made_fit (k := (x.k : Int)) (n := c) (by omega) (by omega) (by omega)
        obtain ⟨nx, hnx⟩ : ∃ nx, madeL (x.k : Int) c = nx := ⟨_, rfl⟩
        rw [hnx] at gx LX fx
        have HNX := hid hnx
        obtain ⟨P, hP⟩ : ∃ P, (frs nx).length = P := ⟨_, rfl⟩
        rw [hP] at fx
        have HP := hid hP
        clear hnx hP
        go_upto_region 22 with (first | (go_at_call 19; refine (add_any J5.out X5.out gx.out (by rw [LN.out]; omega)).mono ?_; rintro e w6 ⟨z, rfl, k6, o6⟩; have O6 := hid o6; have R6 := hid (R5.out.kin k6); have X6 := hid (X5.out.kin k6); have AB6 := hid (AB5.out.kin k6); obtain ⟨c60, c61, c62, c63⟩ := AB6.out.cs; clear o6 k6) | (go_at_call 18; refine (free_js J4.out (M + 20) F N.out HF.out).mono ?_; rintro e w5 ⟨rfl, k5⟩; rw [HA.out]; have J5 := hid (J4.out.more k5); have X5 := hid (X4.out.below k5); have R5 := hid (R4.out.below k5); have AB5 := hid (AB4.out.below k5); clear k5) | (go_at_call 12; refine (made_any c (x.k : Int) _ (by omega) (by omega) (by omega) _ rfl).mono ?_; rintro e w4 ⟨ao4, cap4, rfl, r4, k4⟩; rw [HNX.out] at r4; have X4 := hid r4; have J4 := hid (J3.out.more k4); have R4 := hid (R3.out.below k4); have AB4 := hid (AB3.out.below k4); clear r4 k4) | (refine stA (x := x) (w0 := wr) AZ2.out K2.out hb2 rfl _ _ rfl rfl rfl ?_; intro w3 a3 k3; have AB3 := hid a3; obtain ⟨c30, c31, c32, c33⟩ := a3.cs; have K3 := hid k3; have J3 := hid (J.out.more k3); have R3 := hid (R.out.below k3); clear a3 k3) | (refine alA rfl rfl ?_; intro b11 w2 hb2 a2 k2; have AZ2 := hid a2; have K2 := hid k2; clear a2 k2) | (refine ldA RX.out rfl _ rfl rfl ?_))
        clear n6 n7 n8 n9 g6 g7 g8 g9
        have HFN : Hid ((frs (l ++ nx)).length = F + P) := by unfold Hid; rw [frs_len_app, HF.out, HP.out]
        have HAR : Hid (arS d * 64 = A) := by unfold Hid arS; rw [N.out]; exact HA.out
        rcases O6.out with ⟨rfl, fit, d6, h6, j6, n6, -⟩ | ⟨rfl, fit, h6, j6⟩ | ⟨rfl, -, d6, j6, n6, c6⟩
        · as_aux_lemma =>
          rw [HFN.out, HAR.out] at fit
          have gle : decide ((P : Int) ≤ (A : Int) - F) = true := by simp; omega
          have J6 := hid j6
          have N6 := hid n6
          clear j6 n6 O6
          go_wp2_with (first | (go_at_call 20; refine (len_js (J6.out.more (sq K7.out K8.out)) (na + c) (by rw [List.length_append, LN.out, LX.out])).mono ?_; rintro e w9 ⟨rfl, rfl⟩) | (go_at_call 14; refine (size_any (X6.out.below K7.out) gx.out (by omega)).mono ?_; rintro e w8 ⟨rfl, k8⟩; rw [HP.out]; have K8 := hid k8; clear k8) | (at_builtin; refine app_full (R6.out.take' na rfl) X6.out (m := na + c) rfl (by omega) rfl _ _ rfl rfl rfl ?_; intro ao7 cap7 w7 r7 k7; have G7 := hid r7; have K7 := hid k7; clear r7 k7))
          go_roundw
          case rel => exact ⟨k + 1, q, na + c, cap7, ao7, d6, h6, l ++ nx, by omega, rfl, rfl, by go_num, J6.out.more (sq K7.out K8.out), N6.out.trans N.out, G7.out.below K8.out, by omega⟩
          case measure => simp [intOf]; omega
        · as_aux_lemma =>
          rw [HFN.out, HAR.out] at fit
          have gle : decide ((P : Int) ≤ (A : Int) - F) = false := by simp; omega
          have J6 := hid j6
          clear j6 O6
          go_wp2_with (first | (go_at_call 20; refine (len_js (J6.out.more K7.out) na LN.out).mono ?_; rintro e w9 ⟨rfl, rfl⟩) | (go_at_call 14; refine (size_any X6.out gx.out (by omega)).mono ?_; rintro e w7 ⟨rfl, k7⟩; rw [HP.out]; have K7 := hid k7; clear k7))
          go_roundw
          case rel => exact ⟨k + 1, q, na, cap, ao, d, h6, l, by omega, rfl, rfl, by go_num, J6.out.more K7.out, N.out, R6.out.below K7.out, by omega⟩
          case measure => simp [intOf]; omega
        · as_aux_lemma =>
          have J6 := hid j6
          have N6 := hid n6
          have C6 := hid c6
          clear j6 n6 c6 O6
          obtain ⟨B, hB⟩ : ∃ B, decide ((P : Int) ≤ (A : Int) - F) = B := ⟨_, rfl⟩
          cases B
          · as_aux_lemma =>
            skip
            have TK := hid True.intro
            go_upto_region 53 with (first | (go_at_call 17; refine (reopen_jd (J6.out.more K7.out) C6.out HKP.out (x.n : Int)).mono ?_; rintro e w8 ⟨rfl, k8, d8, l8, j8, u8, v8, y8, n8, o8, h8⟩; have J8 := hid j8; have U8 := hid (And.intro u8 v8); have H8 := hid h8; have O8 := hid o8; have N8 := hid n8; have R8 := hid ((R6.out.below K7.out).kin k8); have X8 := hid ((X6.out.below K7.out).kin k8); obtain ⟨nr, hnr⟩ : ∃ n, l8.length = n := ⟨_, rfl⟩; have HNR := hid hnr; clear hnr j8 u8 v8 y8 h8 o8 n8 k8) | (go_at_call 11; refine (open_up J8.out U8.out.1 U8.out.2 H8.out nr HNR.out).mono ?_; rintro e w9 ⟨q9, ao9, cap9, h9, rfl, j9, g9, k9⟩; have J9 := hid j9; have G9 := hid g9; have R9 := hid (R8.out.below k9); have X9 := hid (X8.out.below k9); have gc1 := g9.cap1; have gc2 := g9.cap2; clear j9 g9 k9) | (go_at_call 14; refine (size_any X6.out gx.out (by omega)).mono ?_; rintro e w7 ⟨rfl, k7⟩; rw [HP.out]; have K7 := hid k7; obtain ⟨c70, c71, c72, c73⟩ := (AB6.out.below k7).cs; clear k7))
            obtain ⟨hle, f1, f2, hle2, -⟩ := after_cut (z := 22) LN.out LX.out HNR.out (.inr ⟨rfl, rfl⟩) O8.out
            obtain ⟨m, hm⟩ : ∃ m, nr - na = m := ⟨_, rfl⟩
            rw [hm] at f2 hle2
            have F1 := hid f1
            have F2 := hid f2
            have HM := hid hm
            have hnr6 : nr ≤ 6 * (k + 1) := by omega
            clear f1 f2 hm
            go_wp2_with (first | (go_at_call 20; refine (len_js (J9.out.more (sq K10.out K11.out)) nr HNR.out).mono ?_; rintro e w12 ⟨rfl, rfl⟩) | (go_at_call 22; refine (begins_any RS.out (X9.out.below K10.out) hle2 F2.out).mono ?_; rintro e w11 ⟨rfl, k11⟩; have K11 := hid k11; clear k11 RS) | (have X := K10.out; refine slRw (G9.out.below K10.out) na hle (m := m) HM.out _ _ rfl (by kernel_rfl) rfl rfl ?_; intro aos caps rs; have RS := hid rs; clear rs X) | (go_at_call 22; have X := TK.out; refine (begins_any R9.out G9.out hle F1.out).mono ?_; rintro e w10 ⟨rfl, k10⟩; have K10 := hid k10; clear k10 TK X))
            go_roundw
            case rel => exact ⟨k + 1, q9, nr, cap9, ao9, d8, h9, l8, by omega, rfl, rfl, by go_num, J9.out.more (sq K10.out K11.out), (N8.out.trans N6.out).trans N.out, G9.out.below (sq K10.out K11.out), hnr6⟩
            case measure => simp [intOf]; omega
          · as_aux_lemma =>
            skip
            have TK := hid True.intro
            go_upto_region 53 with (first | (go_at_call 17; refine (reopen_jd (J6.out.more K7.out) C6.out HKP.out (x.n : Int)).mono ?_; rintro e w8 ⟨rfl, k8, d8, l8, j8, u8, v8, y8, n8, o8, h8⟩; have J8 := hid j8; have U8 := hid (And.intro u8 v8); have H8 := hid h8; have O8 := hid o8; have N8 := hid n8; have R8 := hid ((R6.out.below K7.out).kin k8); have X8 := hid ((X6.out.below K7.out).kin k8); obtain ⟨nr, hnr⟩ : ∃ n, l8.length = n := ⟨_, rfl⟩; have HNR := hid hnr; clear hnr j8 u8 v8 y8 h8 o8 n8 k8) | (go_at_call 11; refine (open_up J8.out U8.out.1 U8.out.2 H8.out nr HNR.out).mono ?_; rintro e w9 ⟨q9, ao9, cap9, h9, rfl, j9, g9, k9⟩; have J9 := hid j9; have G9 := hid g9; have R9 := hid (R8.out.below k9); have X9 := hid (X8.out.below k9); have gc1 := g9.cap1; have gc2 := g9.cap2; clear j9 g9 k9) | (go_at_call 14; refine (size_any X6.out gx.out (by omega)).mono ?_; rintro e w7 ⟨rfl, k7⟩; rw [HP.out]; have K7 := hid k7; obtain ⟨c70, c71, c72, c73⟩ := (AB6.out.below k7).cs; clear k7))
            obtain ⟨hle, f1, f2, hle2, -⟩ := after_cut (z := 22) LN.out LX.out HNR.out (.inr ⟨rfl, rfl⟩) O8.out
            obtain ⟨m, hm⟩ : ∃ m, nr - na = m := ⟨_, rfl⟩
            rw [hm] at f2 hle2
            have F1 := hid f1
            have F2 := hid f2
            have HM := hid hm
            have hnr6 : nr ≤ 6 * (k + 1) := by omega
            clear f1 f2 hm
            go_wp2_with (first | (go_at_call 20; refine (len_js (J9.out.more (sq K10.out K11.out)) nr HNR.out).mono ?_; rintro e w12 ⟨rfl, rfl⟩) | (go_at_call 22; refine (begins_any RS.out (X9.out.below K10.out) hle2 F2.out).mono ?_; rintro e w11 ⟨rfl, k11⟩; have K11 := hid k11; clear k11 RS) | (have X := K10.out; refine slRw (G9.out.below K10.out) na hle (m := m) HM.out _ _ rfl (by kernel_rfl) rfl rfl ?_; intro aos caps rs; have RS := hid rs; clear rs X) | (go_at_call 22; have X := TK.out; refine (begins_any R9.out G9.out hle F1.out).mono ?_; rintro e w10 ⟨rfl, k10⟩; have K10 := hid k10; clear k10 TK X))
            go_roundw
            case rel => exact ⟨k + 1, q9, nr, cap9, ao9, d8, h9, l8, by omega, rfl, rfl, by go_num, J9.out.more (sq K10.out K11.out), (N8.out.trans N6.out).trans N.out, G9.out.below (sq K10.out K11.out), hnr6⟩
            case measure => simp [intOf]; omega
    · go_wp2_with (first | (go_at_call 21; refine (recs_eq G5.out (R.out.below K5.out)).mono ?_; rintro e w6 ⟨rfl, k6⟩; have K6 := hid k6; clear k6) | (go_at_call 23; refine (down_jd (J.out.log.disk.more K5.out)).mono ?_; rintro e w5b ⟨rfl, rfl⟩; rw [J.out.up]) | (go_at_call 11; refine (open_js J.out na LN.out).mono ?_; rintro e w5 ⟨q5, ao5, cap5, h5, rfl, j5, g5, k5⟩; have G5 := hid g5; have K5 := hid k5; clear j5 g5 k5))
      go_ret
      exact ⟨rfl, sq J.out.log.disk.bel (sq K5.out K6.out)⟩
theorem journalPlays_own : ownKnob Try.prog.godebug = none := by kernel_rfl
theorem journalPlays_laid : laidOutB Try.prog = true := by kernel_rfl

set_option maxRecDepth 100000 in
set_option maxHeartbeats 1000000 in
theorem journalPlays_lifted (os : Os) (started : os.Started) (H : Type) (enc : TypeId × Value → H) :
    ReturnsInHanded {} Try.checked os 3 .any (Rows.journalPlaysSpec.pre6 enc Try.prog Try.f3 Rows.journalPlaysRow.domain false) (Rows.journalPlaysSpec.post enc Try.prog Try.f3 false true false false) := by
  refine returnsInHanded_of_change (C := Try.checked) journalPlays_own started (by kernel_rfl) Try.func3
    (ChangeSpec.witness6 (enc := enc) (C := Try.checked) false ⟨#[], #[.slice none 0 0, .int .u16 0], []⟩ 8 (by kernel_rfl) (by kernel_rfl) (by kernel_rfl) (by kernel_rfl)) ?_
  intro W base args ds gs before hval0 hW hcnd _
  have hval : ∀ (j : Nat) t v, Try.f3.params[j]? = some t → args[j]? = some v → Value.okWide Try.prog W .any base t v := hval0
  have hW' := hW
  obtain ⟨p, q, hA0, hV, rfl, hfz, hnd⟩ := hW
  have hA : DataW.TrodAll enc Try.prog W 0 (fun _ => true) true Try.f3.params.toList args.toList ds p := hA0
  rw [Try.params3] at hA hval
  obtain ⟨v0, vs0, d0, ds0, p0, q0, hargs, rfl, rfl, h0, r0⟩ := trodAll_cons hA
  obtain ⟨v1, vs1, d1, ds1, p1, q1, rfl, rfl, rfl, h1, r1⟩ := trodAll_cons r0
  obtain ⟨rfl, rfl, rfl⟩ := trodAll_nil r1
  obtain rfl : args = #[v0, v1] := by cases args; simp_all
  obtain ⟨rfl, rfl⟩ := trodVars_none hV
  obtain ⟨x0, y0, z0, rfl⟩ := okWide_slice Try.underlying22 (hval 0 22 v0 rfl rfl)
  have k0 := h0
  have lt0 : ∀ x ∈ p0, x.block < W.heap.size := by obtain ⟨m, hm⟩ := k0; exact DataW.trod_lt m _ _ _ hm
  obtain ⟨a0, len0, cap0, l0, e0, w0⟩ : ∃ a len cap l, Value.slice x0 y0 z0 = .slice a len cap ∧ InA W a len cap l := by
    obtain ⟨fuel, hf⟩ := h0
    exact open_inA hf
  cases e0
  obtain ⟨a1, rfl, rfl, rfl, w1⟩ := open_int Try.underlying23 (hval 1 23 v1 rfl rfl) h1
  clear hA0 hval0
  refine (plays_walk x0 y0 z0 l0 a1 W w0 (by have := bounds_u16 w1; omega)).mono fun e W' ⟨he, bel⟩ => ?_
  subst he
  exact ⟨_, rfl, _, _, _, [], _, [], hW', trodAll_mk1 (shut_bool Try.underlying4 _), (trodAll_cons_mk (Below.trod journalPlays_laid (by kernel_rfl) (of_decide_eq_true (by kernel_rfl)) k0 bel lt0) (trodAll_cons_mk (shut_int Try.underlying23 w1) trodAll_mk0)), rfl, bel.frame _, fun h => by cases h⟩

theorem journalPlays_over : Rows.journalPlaysRow.holds Try.pinned (OpenSpec.ofChange Rows.journalPlaysSpec) :=
  OpenClaim.holds_of_wide 3 Try.f3 rfl rfl rfl rfl rfl rfl rfl ⟨rfl, rfl, rfl, rfl, rfl⟩ rfl rfl rfl rfl rfl (by kernel_rfl) Try.func3 (by kernel_rfl)
    (of_decide_eq_true (by kernel_rfl)) (by unfold Func.isWrapper; first | (rw [if_pos (by decide +kernel)]; kernel_rfl) | (rw [if_neg (by decide +kernel)]; exact ⟨rfl, rfl⟩))
    (fun os started H enc _ => journalPlays_lifted os started H enc)

/-- The statement. -/
theorem journalPlays_holds : Rows.JournalPlaysSaid := journalPlays_over
#print axioms journalPlays_holds
end Go.Proofs.Ythhgnflkplpklaa
