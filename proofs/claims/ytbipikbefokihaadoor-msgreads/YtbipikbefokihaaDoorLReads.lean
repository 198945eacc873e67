/- MsgReads: any bytes, and a message's with one turned, taken out, put in, are the document's, or refused. For every input. -/
import Derived.Test.YtbipikbefokihaaDoorLKinds
import Derived.Test.YtbipikbefokihaaDoorReadR
import Derived.Great.BuildSlice
namespace Go.Proofs.YtbipikbefokihaaDoor
open Go.ChangeShapes Go.WideShapes Go.ChangeAt Go.RowKit

theorem bytes14 (m : Ms) (w : World) (hm : m.Ok) (hp : m.pan.size ≤ 9223372036854775807) : Calls Tryd.prog 14 #[m.val] w fun e w' => ∃ ao n c, e = .returned (.slice ao n c) ∧ Mk w w' (.slice ao n c) n (putL m) := by
  have HM := hid hm
  have HP := hid hp
  clear hm hp
  go_enter Tryd.func14, Tryd.ntmps14
  go_wp2_with (first | (go_at_call 10; have kill := V1.out; refine (put10 m _ HM.out HP.out).mono ?_; rintro e w2 ⟨a2, n2, c2, rfl, d2⟩; have D2 := hid (Mk.late L1.out d2); clear d2 kill V1) | (have kill := V1.out; refine ld27 V1.out rfl _ rfl rfl ?_) | (refine bx27 rfl _ rfl rfl ?_; intro b1 w1 hb1 v1 l1; have V1 := hid v1; have L1 := hid l1; clear v1 l1))
  go_ret
  exact ⟨_, _, _, rfl, D2.out⟩
theorem putL_two {m : Ms} (h : rightL m = true) : 2 ≤ (putL m).length := by
  obtain ⟨h1, _, _⟩ := right_iff.1 h
  have hc : (panL (codeK m.kind)).length = 2 := by
    rcases kind_cases h1 with e | e | e | e | e | e | e <;> rw [e] <;> rfl
  unfold putL
  rw [if_pos h]
  unfold jX
  rw [if_pos (parts_ok h), partsL, pans, List.map_cons]
  generalize ((hasK m.kind).flatMap (putF m)).map panL = r
  cases r with
  | nil => rw [jn, hc]; omega
  | cons q r => rw [jn, List.length_append, hc]; omega
theorem Mk.put {W0 w : World} {ao : Option Addr} {n cap : Nat} {l : List Int} (h : Mk W0 w (.slice ao n cap) n l) (i : Nat) (hi : i < n) : ∃ g, ao = some ⟨g, 0, none⟩ ∧ w.cell? ⟨g, i, none⟩ = some (.int .u8 (l.getD i 0)) ∧ w.frozen? ⟨g, i, none⟩ = false ∧
    ∀ y, Mk W0 (w.setCell ⟨g, i, none⟩ (.int .u8 y)) (.slice ao n cap) n (l.set i y) := by
  have hlen := h.1.len
  have hat := h.1.at
  rcases h.1.2 with ⟨e, h0⟩ | ⟨g, cap', cur, e, hg, hc, h1, h2, h3, h4⟩
  · omega
  · cases e
    refine ⟨g, rfl, ?_, froz_of_head hc i, fun y => ⟨⟨by simp [hlen], .inr ⟨g, cap, cur.setIfInBounds i (.int .u8 y), rfl, hg, heap_setCell_same w g i cur 5 _ hc, h1, h2, by simp [h3], ?_⟩⟩, h.2.setCell hg _⟩⟩
    · rcases hat with h0 | ⟨b, o, he, hcl⟩
      · rw [h0] at hlen; simp at hlen; omega
      · cases he; have := hcl i (by omega); rwa [Nat.zero_add] at this
    · rw [Array.toList_setIfInBounds, List.take_set, h4, by8, by8, List.map_set]
/-- b[:i:i]. -/
theorem sub_hh {b o len cap : Nat} (i : Nat) (hi : i ≤ len) (hc : len ≤ cap) (w : World) : (Instr.sliceAt 31 (.slice (some ⟨b, o, none⟩) len cap) none (some (.int .i64 (i : Int))) (some (.int .i64 (i : Int)))).run Tryd.prog w = .ok (.slice (some ⟨b, o, none⟩) i i) w := by
  have h1 : (i : Int) ≤ cap := by omega
  by_cases h0 : i = 0
  · subst h0
    simp [Instr.sliceAt, Instr.slice, Instr.sliceBounds, Instr.sliceBound, run_underlying Tryd.underlying31, asIntOf]
  · simp [Instr.sliceAt, Instr.slice, Instr.sliceBounds, Instr.sliceBound, run_underlying Tryd.underlying31, asIntOf, Addr.add_mid]
    omega
theorem byt_one {x : Int} (h : 0 ≤ x ∧ x < 256) : Byt [x] := fun y hy => by
  have : y = x := by simpa using hy
  rw [this]; exact h
theorem byt_set {l : List Int} (h : Byt l) (i : Nat) {x : Int} (hx : 0 ≤ x ∧ x < 256) : Byt (l.set i x) := fun y hy => by
  rcases List.mem_or_eq_of_mem_set hy with h1 | h1
  · exact h y h1
  · rw [h1]; exact hx
theorem row_take {w : World} {b off : Nat} {l : List Int} (h : RowAt w (some ⟨b, off, none⟩) l) (m : Nat) : RowAt w (some ⟨b, off, none⟩) (l.take m) := by
  rcases h with h | ⟨b', o', e, hc⟩
  · left; subst h; simp
  · cases e
    refine .inr ⟨_, _, rfl, fun j hj => ?_⟩
    rw [List.length_take] at hj
    rw [hc j (by omega)]
    congr 2
    have h1 : j < m := by omega
    simp [h1]
section
variable {ops : Array Oper} {o : Oper} {a : Act} {w : World} {K : Act → World → Prop} {Q : Exit → Act → World → Prop} {E : Prop} {n1 n2 c2 b1 o1 : Nat} {ad2 : Addr} {l1 l2 : List Int}
/-- append onto a full slice that lies anywhere: it grows. -/
theorem app_full (h1 : RowAt w (some ⟨b1, o1, none⟩) l1) (hn1 : l1.length = n1) (h2 : RowAt w (some ad2) l2) (hn2 : l2.length = n2) (hpos : 0 < n2) (hsmall : n1 + n2 ≤ 1000000)
    (hgd : o.guard = none) (s x : Operand) (ho : o.op = .call { callee := .builtin .append, args := #[s, x], argTypes := #[31, 31] })
    (hs : a.eval s = .slice (some ⟨b1, o1, none⟩) n1 n1) (hx : a.eval x = .slice (some ad2) n2 c2)
    (h : ∀ ao cap w', Mk w w' (.slice ao (n1 + n2) cap) (n1 + n2) (l1 ++ l2) → K (a.put o.dst (.slice ao (n1 + n2) cap)) w') :
    if Region.wanted o (yielded ops a.tmps) = true then Oper.wp Tryd.prog o a w K Q else E := by
  rw [if_pos (wanted_none hgd)]
  obtain ⟨i0, hi, hz0, hz1, hz2⟩ := info_parts Tryd.info5
  obtain ⟨v', w', hrun, r1, r2⟩ := run_append_arg_grows (P := Tryd.prog) w 31 o.type 5 i0 (.int .u8 0) 1 1 Tryd.underlying31 hi hz0 hz1 hz2 rfl (by decide) ⟨b1, o1, none⟩ n1 n1 (by8 l1) (by simp [hn1]) (row_news h1)
    ad2 n2 c2 (by8 l2) (by simp [hn2]) (row_news h2) (by omega) (by unfold maxLen; omega) (by omega)
  have hR : Row w.heap.size w' v' (n1 + n2) (l1 ++ l2) := by unfold Row; rw [by8, List.map_append]; exact r1
  obtain ⟨ao, cap, rfl, _⟩ := hR.form
  have ht : Turned (fun _ => False) w w' := Turned.grown r2 (fun k e => by cases e)
  unfold Oper.wp
  simp [execOp, ho, resolve, invoke, builtin, hs, hx, hrun, Result.andThen]
  exact h ao cap w' ⟨hR, ht.below (fun k f => f.elim) (Nat.le_refl _)⟩
/-- .. of any row. -/
theorem app_cut (h1 : RowAt w (some ⟨b1, o1, none⟩) l1) (hn1 : l1.length = n1) (hb1 : Byt l1) (h2 : RowAt w (some ad2) l2) (hn2 : l2.length = n2) (hb2 : Byt l2) (hsmall : n1 + n2 ≤ 1000000)
    (hgd : o.guard = none) (s x : Operand) (ho : o.op = .call { callee := .builtin .append, args := #[s, x], argTypes := #[31, 31] })
    (hs : a.eval s = .slice (some ⟨b1, o1, none⟩) n1 n1) (hx : a.eval x = .slice (some ad2) n2 c2)
    (h : ∀ ao cap w', Given w' ao (n1 + n2) cap (l1 ++ l2) → Below w.heap.size w w' → K (a.put o.dst (.slice ao (n1 + n2) cap)) w') :
    if Region.wanted o (yielded ops a.tmps) = true then Oper.wp Tryd.prog o a w K Q else E := by
  by_cases hp : 0 < n2
  · exact app_full h1 hn1 h2 hn2 hp hsmall hgd s x ho hs hx (fun ao cap w' hm => h ao cap w' (hm.given (byt_app hb1 hb2)) hm.2)
  · obtain rfl : n2 = 0 := by omega
    have e2 : l2 = [] := List.length_eq_zero_iff.1 hn2
    subst e2
    rw [if_pos (wanted_none hgd)]
    obtain ⟨i0, hi, hz0, hz1, hz2⟩ := info_parts Tryd.info5
    have hrun := run_append_room_cells (P := Tryd.prog) w 31 o.type 5 i0 Tryd.underlying31 hi b1 o1 n1 n1 ad2 0 c2 [] (by simp) (fun j u hj => by simp at hj) (fun u hu => by cases hu) (by omega) (fun j hj => by simp at hj) (fun j hj => by simp at hj)
    have hg : Given w (some ⟨b1, o1, none⟩) (n1 + 0) n1 (l1 ++ []) := ⟨by simpa using hn1, by simpa using hb1, by simpa using h1, by omega, by omega⟩
    unfold Oper.wp
    simp [execOp, ho, resolve, invoke, builtin, hs, hx, hrun, Result.andThen]
    exact h _ _ w hg (Below.refl _ _)
/-- One byte as a row. -/
theorem bsB {op : Oper} {v : Int} (x : Operand) (ho : op.op = .buildSlice 31 1 #[(0, x)]) (hx : a.eval x = .int .u8 v)
    (h : K (a.put op.dst (.slice (some ⟨w.heap.size, 0, none⟩) 1 1)) (w.alloc (.cells #[.int .u8 v] 5))) : op.wp Tryd.prog a w K Q := by
  obtain ⟨i, hi, hz0, hz1, hz2⟩ := info_parts Tryd.info5
  refine wp_buildSlice 31 5 1 _ ho #[.int .u8 v] i _ Tryd.underlying31 hi hz0 (by rw [hz1]; decide) (by rw [hz1]; decide) ?_ h
  have := Great.fill_whole (s := 1) (by decide) [Value.int .u8 v] ((Array.range (1 * i.size)).map ((Value.int .u8 0).cells[· % (Value.int .u8 0).cells.size]!))
    (by intro u hu; simp at hu; subst hu; rfl) (by simp [hz1])
  rw [hz1] at this ⊢
  simpa [hx, Value.cells] using this
end
/-- In these two cells lie slices of bytes. -/
def Ys (w : World) (g : Nat) : Prop := ∀ k, k < 2 → ∃ ao n c l, w.cell? ⟨g, k, none⟩ = some (.slice ao n c) ∧ Given w ao n c l ∧ n ≤ 3000
theorem Ys.below {w w' : World} {g : Nat} (h : Ys w g) (hb : Below w.heap.size w w') : Ys w' g := by
  intro k hk
  obtain ⟨ao, n, c, l, h1, h2, h3⟩ := h k hk
  exact ⟨ao, n, c, l, (hb.cell (p := ⟨g, k, none⟩) (World.block_lt_of_cell? w ⟨g, k, none⟩ h1)).trans h1, h2.below hb, h3⟩
set_option maxRecDepth 20000 in
set_option maxHeartbeats 16000000 in
theorem reads_walk (x0 : Option Addr) (y0 z0 : Nat) (l0 : List Int) (d k s t p x q : Int) (W : World) (h0 : InB W x0 y0 z0 l0) (hd : 0 ≤ d ∧ d < 256) (hk : 0 ≤ k ∧ k < 256) (hs : 0 ≤ s ∧ s < 65536) (ht : 0 ≤ t ∧ t < 65536) (hp : 0 ≤ p ∧ p < 65536) (hx : 0 ≤ x ∧ x < 256) (hq : 0 ≤ q ∧ q < 256) (hT : Tab W) :
    Calls Tryd.prog 4 #[.slice x0 y0 z0, .int .u8 d, .int .u8 k, .int .u16 s, .int .u16 t, .int .u16 p, .int .u8 x, .int .u8 q] W fun e w' => e = .returned (.bool true) ∧ Below W.heap.size W w' := by
  obtain ⟨X, hX⟩ : ∃ X, seatM d k s t = X := ⟨_, rfl⟩
  have MX : Hid (∀ w, Calls Tryd.prog 8 #[.int .u8 d, .int .u8 k, .int .u16 s, .int .u16 t] w fun e w' => e = .returned X.val ∧ Below w.heap.size w w') := fun w => by
    rw [← hX]; exact msg8 d k s t w hd.1 hd.2 hk.1 hk.2 hs.1 hs.2 ht.1 ht.2
  have XR : Hid (rightL X = true) := by rw [← hX]; exact seat_right hk.1 hk.2 hs.1 hs.2 ht.1 ht.2
  have XO : Hid X.Ok := by rw [← hX]; exact seat_ok
  have XP : Hid (X.pan.size ≤ 9223372036854775807) := by rw [← hX]; exact seat_pan
  obtain ⟨LB, hLB⟩ : ∃ l, putL X = l := ⟨_, rfl⟩
  have HLB := hid hLB
  have BB : Hid (Byt LB) := by rw [← hLB]; exact putL_byt X
  have LBN : Hid (2 ≤ LB.length ∧ LB.length ≤ 2000) := by rw [← hLB]; exact ⟨putL_two XR.out, putL_len X⟩
  have HT := hid hT
  have K0 := hid True.intro
  have H0 := hid h0
  have HL0 := hid h0.giv.leq
  have hz0 := h0.giv.cap1
  have hz1 := h0.giv.cap2
  clear hX hLB hd hk hs ht hT h0
  obtain ⟨p0, p1⟩ := hp
  obtain ⟨x0', x1'⟩ := hx
  obtain ⟨q0, q1⟩ := hq
  have HBX : Hid (0 ≤ x ∧ x < 256) := ⟨x0', x1'⟩
  by_cases h200 : 200 < y0
  · go_enter Tryd.func4, Tryd.ntmps4
    go_wp2_with (go_at_call 7; have kill := K0.out; refine (known7 _ HT.out).mono ?_; rintro e w1 ⟨rfl, b1⟩; have B1 := hid b1; clear b1 kill K0)
    go_ret
    exact ⟨rfl, B1.out⟩
  go_enter Tryd.func4, Tryd.ntmps4
  go_upto_region 6 with (first | (go_at_call 14; have kill := B2.out; refine (bytes14 X _ XO.out XP.out).mono ?_; rintro e w3 ⟨a3, n3, c3, rfl, d3⟩; rw [HLB.out] at d3; have D3 := hid d3; have B3 := hid (sq B2.out d3.2); have B2K := hid B2.out; clear d3 kill B2) | (go_at_call 8; have kill := B1.out; refine (MX.out _).mono ?_; rintro e w2 ⟨rfl, l2⟩; have B2 := hid (sq B1.out l2); clear l2 kill B1) | (go_at_call 7; have kill := K0.out; refine (known7 _ HT.out).mono ?_; rintro e w1 ⟨rfl, b1⟩; have B1 := hid b1; clear b1 kill K0))
  have hn2 : 2 ≤ n3 ∧ n3 ≤ 2000 := by have h := LBN.out; rw [D3.out.1.len] at h; exact h
  obtain ⟨hn2, hn3⟩ := hn2
  have ca := D3.out.1.caps
  have ca1 := ca.2.1
  have ca2 := ca.2.2
  clear ca
  obtain ⟨i, hi⟩ : ∃ i : Nat, p % (n3 : Int) = (i : Int) := ⟨(p % (n3 : Int)).toNat, by have := Int.emod_nonneg p (show (n3 : Int) ≠ 0 by omega); omega⟩
  have hi' : p.tmod (n3 : Int) = (i : Int) := by rw [Int.tmod_eq_emod_of_nonneg p0]; exact hi
  have hin : i < n3 := by have := Int.emod_lt_of_pos p (show (0 : Int) < (n3 : Int) by omega); omega
  have hnz : ¬ (n3 : Int) = 0 := by omega
  have hiw : IntKind.i64.wrap (i : Int) = (i : Int) := by rw [IntKind.wrap_i64]; omega
  clear hi
  try simp only [Act.put, List.setIfInBounds_toArray, List.set_cons_zero, List.set_cons_succ]
  go_cut [18] from 36 (fun v wx => v = .int .i64 (i : Int) ∧ wx = w3)
  case first =>
    go_wp2
    go_meet
    case rel => exact ⟨rfl, rfl⟩
  case rest =>
    obtain ⟨hxv, rfl⟩ := hcut
    subst hxv
    rename_i KR hKR
    refine hKR _ _ ?_
    apply wp_seq_k
    intro _ _
    go_cut [17] from 41 (fun v wx => ∃ ao n c L, v = .slice ao n c ∧ Given wx ao n c L ∧ n ≤ 3000 ∧ Below W.heap.size W wx)
    case first =>
      obtain ⟨z, hz⟩ : ∃ z, q % 5 = z := ⟨_, rfl⟩
      have hz' : q.tmod 5 = z := by rw [Int.tmod_eq_emod_of_nonneg q0]; exact hz
      have hz5 : z = 0 ∨ z = 1 ∨ z = 2 ∨ z = 3 ∨ z = 4 := by omega
      have HQ3 : Hid (LB.length = n3) := D3.out.1.len
      obtain ⟨g, hg, hgc, hgf, hgp⟩ := D3.out.put i hin
      subst hg
      have PT := hid hgp
      have RB : Hid (RowAt wc (some ⟨g, 0, none⟩) LB) := D3.out.1.at
      have GB : Hid (Given wc (some ⟨g, 0, none⟩) n3 c3 LB) := D3.out.given BB.out
      obtain ⟨a7, r7, g7, nn7⟩ := sub_l (ao := some ⟨g, 0, none⟩) (i + 1) ((i : Int) + 1) (by omega) (by omega : i + 1 ≤ n3) ca1
      obtain ⟨a8, r8, g8, nn8⟩ := sub_l (ao := some ⟨g, 0, none⟩) i (i : Int) rfl (by omega : i ≤ n3) ca1
      have r6 := fun w => sub_hh (b := g) (o := 0) (len := n3) (cap := c3) i (by omega) ca1 w
      obtain ⟨ad7, rfl⟩ : ∃ ad, a7 = some ad := by
        cases a7 with
        | none => cases nn7 rfl
        | some ad => exact ⟨ad, rfl⟩
      obtain ⟨ad8, rfl⟩ : ∃ ad, a8 = some ad := by
        cases a8 with
        | none => cases nn8 rfl
        | some ad => exact ⟨ad, rfl⟩
      have G7 := hid (g7 _ _ GB.out)
      have G8 := hid (g8 _ _ GB.out)
      have HW1 : IntKind.i64.wrap ((i : Int) + 1) = (i : Int) + 1 := by rw [IntKind.wrap_i64]; omega
      have HI := hid hin
      have LI : Hid ((LB.take i).length = i) := by unfold Hid; rw [List.length_take, HQ3.out]; omega
      have HN3 := hid hn3
      clear hz hgp g7 g8 nn7 nn8
      rcases hz5 with rfl | rfl | rfl | rfl | rfl
      · go_wp2
        have MP := hid (PT.out x)
        generalize wc.setCell ⟨g, i, none⟩ (.int .u8 x) = w5 at *
        go_meet
        case rel => exact ⟨_, _, _, _, rfl, MP.out.given (byt_set BB.out i HBX.out), by omega, sq B2K.out MP.out.2⟩
      · skip
        go_upto_region 12 with (fail)
        refine wp_region_noPanic ?_
        refine wp_region_held_drew (S := (fun _ : World => True)) (by kernel_rfl) True.intro (fun hHeld => ?_)
        have RBd := hid (row_mono (Below.refl _ wc).drew RB.out)
        have G7d := hid (G7.out.below (Below.refl _ wc).drew)
        have G8d := hid (G8.out.below (Below.refl _ wc).drew)
        have B3d := hid (B3.out.drew)
        (refine tk_yes (v := ?_) 0 (some 61) rfl rfl (by kernel_rfl) (by kernel_rfl) (by kernel_rfl) (fun _ _ _ h => h) (by rfl) ?_ hHeld ?_; rotate_left; focus (intro w hSw; go_simp; try with_reducible rfl))
        simp only [Act.put, List.setIfInBounds_toArray, List.set_cons_zero, List.set_cons_succ]
        (refine tk_yes (v := ?_) 1 (some 62) rfl rfl (by kernel_rfl) (by kernel_rfl) (by kernel_rfl) (fun _ _ _ h => h) (by rfl) ?_ hHeld ?_; rotate_left; focus (intro w hSw; go_simp; try with_reducible rfl))
        simp only [Act.put, List.setIfInBounds_toArray, List.set_cons_zero, List.set_cons_succ]
        (refine tk_yes (v := ?_) 2 (some 63) rfl rfl (by kernel_rfl) (by kernel_rfl) (by kernel_rfl) (fun _ _ _ h => h) (by rfl) ?_ hHeld ?_; rotate_left; focus (intro w hSw; go_simp; try with_reducible rfl))
        simp only [Act.put, List.setIfInBounds_toArray, List.set_cons_zero, List.set_cons_succ]
        (refine tk_yes (v := .slice (some ⟨g, 0, none⟩) i i) 3 (some 64) rfl rfl (by kernel_rfl) (by kernel_rfl) (by kernel_rfl) (fun _ _ _ h => h) (by rfl) ?_ hHeld ?_; focus (intro w hSw; go_simp; try with_reducible rfl))
        simp only [Act.put, List.setIfInBounds_toArray, List.set_cons_zero, List.set_cons_succ]
        (refine tk_yes (v := ?_) 4 (some 65) rfl rfl (by kernel_rfl) (by kernel_rfl) (by kernel_rfl) (fun _ _ _ h => h) (by rfl) ?_ hHeld ?_; rotate_left; focus (intro w hSw; go_simp; try with_reducible rfl))
        simp only [Act.put, List.setIfInBounds_toArray, List.set_cons_zero, List.set_cons_succ]
        (refine tk_yes (v := ?_) 5 (some 66) rfl rfl (by kernel_rfl) (by kernel_rfl) (by kernel_rfl) (fun _ _ _ h => h) (by rfl) ?_ hHeld ?_; rotate_left; focus (intro w hSw; go_simp; try with_reducible rfl))
        simp only [Act.put, List.setIfInBounds_toArray, List.set_cons_zero, List.set_cons_succ]
        (refine tk_yes (v := ?_) 6 (some 67) rfl rfl (by kernel_rfl) (by kernel_rfl) (by kernel_rfl) (fun _ _ _ h => h) (by rfl) ?_ hHeld ?_; rotate_left; focus (intro w hSw; go_simp; try with_reducible rfl))
        simp only [Act.put, List.setIfInBounds_toArray, List.set_cons_zero, List.set_cons_succ]
        (refine tk_yes (v := .slice (some ad7) (n3 - (i + 1)) (c3 - (i + 1))) 7 (some 68) rfl rfl (by kernel_rfl) (by kernel_rfl) (by kernel_rfl) (fun _ _ _ h => h) (by rfl) ?_ hHeld ?_; focus (intro w hSw; go_simp; try with_reducible rfl))
        simp only [Act.put, List.setIfInBounds_toArray, List.set_cons_zero, List.set_cons_succ]
        refine wpAnyH_ready (rs := [8]) (by kernel_rfl) (by simp) ?_
        refine AllReadyH.cons rfl (fun K hK => ?_) AllReadyH.nil
        have HIq := HI.out
        have HNq := HN3.out
        refine app_cut (n1 := i) (n2 := n3 - (i + 1)) (o := { dst := some 69, op := _, type := _, pos := _, after := _, guard := none }) (row_take RBd.out i) LI.out (byt_take BB.out i) G7d.out.row G7d.out.leq G7d.out.byt (by omega) rfl _ _ rfl rfl rfl ?_
        intro ao5 c5 w5 g5 l5
        have G5 := hid g5
        have L5 := hid (sq B3d.out l5)
        refine hK.out _ _ True.intro (fun hHeld => ?_)
        clear hK K g5 l5
        try simp only [Act.put, List.setIfInBounds_toArray, List.set_cons_zero, List.set_cons_succ]
        (refine tk_yes (v := ?_) 9 (some 17) rfl rfl (by kernel_rfl) (by kernel_rfl) (by kernel_rfl) (fun _ _ _ h => h) (by rfl) ?_ hHeld ?_; rotate_left; focus (intro w hSw; go_simp; try with_reducible rfl))
        simp only [Act.put, List.setIfInBounds_toArray, List.set_cons_zero, List.set_cons_succ]
        refine wpAnyH_done (by kernel_rfl) ?_ _
        refine NoPanic.normal ?_
        go_wp2
        go_meet
        case rel => exact ⟨_, _, _, _, rfl, G5.out, by omega, L5.out⟩
      · skip
        go_upto_region 14 with (fail)
        refine wp_region_noPanic ?_
        refine wp_region_held_drew (S := (fun _ : World => True)) (by kernel_rfl) True.intro (fun hHeld => ?_)
        have RBd := hid (row_mono (Below.refl _ wc).drew RB.out)
        have G7d := hid (G7.out.below (Below.refl _ wc).drew)
        have G8d := hid (G8.out.below (Below.refl _ wc).drew)
        have B3d := hid (B3.out.drew)
        (refine tk_yes (v := ?_) 0 (some 72) rfl rfl (by kernel_rfl) (by kernel_rfl) (by kernel_rfl) (fun _ _ _ h => h) (by rfl) ?_ hHeld ?_; rotate_left; focus (intro w hSw; go_simp; try with_reducible rfl))
        simp only [Act.put, List.setIfInBounds_toArray, List.set_cons_zero, List.set_cons_succ]
        (refine tk_yes (v := ?_) 1 (some 73) rfl rfl (by kernel_rfl) (by kernel_rfl) (by kernel_rfl) (fun _ _ _ h => h) (by rfl) ?_ hHeld ?_; rotate_left; focus (intro w hSw; go_simp; try with_reducible rfl))
        simp only [Act.put, List.setIfInBounds_toArray, List.set_cons_zero, List.set_cons_succ]
        (refine tk_yes (v := ?_) 2 (some 74) rfl rfl (by kernel_rfl) (by kernel_rfl) (by kernel_rfl) (fun _ _ _ h => h) (by rfl) ?_ hHeld ?_; rotate_left; focus (intro w hSw; go_simp; try with_reducible rfl))
        simp only [Act.put, List.setIfInBounds_toArray, List.set_cons_zero, List.set_cons_succ]
        (refine tk_yes (v := .slice (some ⟨g, 0, none⟩) i i) 3 (some 75) rfl rfl (by kernel_rfl) (by kernel_rfl) (by kernel_rfl) (fun _ _ _ h => h) (by rfl) ?_ hHeld ?_; focus (intro w hSw; go_simp; try with_reducible rfl))
        simp only [Act.put, List.setIfInBounds_toArray, List.set_cons_zero, List.set_cons_succ]
        (refine tk_yes (v := ?_) 4 (some 76) rfl rfl (by kernel_rfl) (by kernel_rfl) (by kernel_rfl) (fun _ _ _ h => h) (by rfl) ?_ hHeld ?_; rotate_left; focus (intro w hSw; go_simp; try with_reducible rfl))
        simp only [Act.put, List.setIfInBounds_toArray, List.set_cons_zero, List.set_cons_succ]
        (refine tk_yes (v := ?_) 7 (some 79) rfl rfl (by kernel_rfl) (by kernel_rfl) (by kernel_rfl) (fun _ _ _ h => h) (by rfl) ?_ hHeld ?_; rotate_left; focus (intro w hSw; go_simp; try with_reducible rfl))
        simp only [Act.put, List.setIfInBounds_toArray, List.set_cons_zero, List.set_cons_succ]
        (refine tk_yes (v := ?_) 8 (some 80) rfl rfl (by kernel_rfl) (by kernel_rfl) (by kernel_rfl) (fun _ _ _ h => h) (by rfl) ?_ hHeld ?_; rotate_left; focus (intro w hSw; go_simp; try with_reducible rfl))
        simp only [Act.put, List.setIfInBounds_toArray, List.set_cons_zero, List.set_cons_succ]
        (refine tk_yes (v := .slice (some ad8) (n3 - i) (c3 - i)) 9 (some 81) rfl rfl (by kernel_rfl) (by kernel_rfl) (by kernel_rfl) (fun _ _ _ h => h) (by rfl) ?_ hHeld ?_; focus (intro w hSw; go_simp; try with_reducible rfl))
        simp only [Act.put, List.setIfInBounds_toArray, List.set_cons_zero, List.set_cons_succ]
        refine wpAnyH_ready (rs := [5]) (by kernel_rfl) (by simp) ?_
        refine AllReadyH.cons rfl (fun K hK => ?_) AllReadyH.nil
        refine step_of (o := { dst := some 77, op := _, type := _, pos := _, after := _, guard := none }) rfl (bsB (v := x) _ rfl rfl ?_)
        have e4 := bel1 wc.drew (.cells #[.int .u8 x] 5)
        have R4 := hid (row_mono e4 RBd.out)
        have G4 := hid (G8d.out.below e4)
        have B4 := hid (sq B3d.out e4)
        have X4 : Hid (RowAt (wc.drew.alloc (.cells #[.int .u8 x] 5)) (some ⟨wc.drew.heap.size, 0, none⟩) [x]) := one_row wc.drew x
        clear e4
        refine hK.out _ _ True.intro (fun hHeld => ?_)
        clear hK K
        try simp only [Act.put, List.setIfInBounds_toArray, List.set_cons_zero, List.set_cons_succ]
        refine wpAnyH_ready (rs := [6]) (by kernel_rfl) (by simp) ?_
        refine AllReadyH.cons rfl (fun K hK => ?_) AllReadyH.nil
        have HIq := HI.out
        have HNq := HN3.out
        refine app_full (n1 := i) (n2 := 1) (o := { dst := some 78, op := _, type := _, pos := _, after := _, guard := none }) (l2 := [x]) (row_take R4.out i) LI.out X4.out rfl (by omega) (by omega) rfl _ _ rfl rfl rfl ?_
        intro ao5 c5 w5 m5
        have M5 := hid m5
        have G5 := hid (G4.out.below m5.2)
        have B5 := hid (sq B4.out m5.2)
        refine hK.out _ _ True.intro (fun hHeld => ?_)
        clear hK K m5
        try simp only [Act.put, List.setIfInBounds_toArray, List.set_cons_zero, List.set_cons_succ]
        refine wpAnyH_ready (rs := [10]) (by kernel_rfl) (by simp) ?_
        refine AllReadyH.cons rfl (fun K hK => ?_) AllReadyH.nil
        have HIq := HI.out
        have HNq := HN3.out
        refine app_row_step (n1 := i + 1) (n2 := n3 - i) (o := { dst := some 82, op := _, type := _, pos := _, after := _, guard := none }) M5.out.1 G5.out.row G5.out.leq M5.out.2.size (by omega) rfl _ _ rfl rfl rfl ?_
        intro ao6 c6 w6 r6' t6
        have M6 := hid (M5.out.next r6' t6)
        have B6 := hid (sq B4.out M6.out.2)
        refine hK.out _ _ True.intro (fun hHeld => ?_)
        clear hK K r6' t6
        try simp only [Act.put, List.setIfInBounds_toArray, List.set_cons_zero, List.set_cons_succ]
        (refine tk_yes (v := ?_) 11 (some 17) rfl rfl (by kernel_rfl) (by kernel_rfl) (by kernel_rfl) (fun _ _ _ h => h) (by rfl) ?_ hHeld ?_; rotate_left; focus (intro w hSw; go_simp; try with_reducible rfl))
        simp only [Act.put, List.setIfInBounds_toArray, List.set_cons_zero, List.set_cons_succ]
        refine wpAnyH_done (by kernel_rfl) ?_ _
        refine NoPanic.normal ?_
        go_wp2
        go_meet
        case rel => exact ⟨_, _, _, _, rfl, M6.out.given (byt_app (byt_app (byt_take BB.out i) (byt_one HBX.out)) (byt_drop BB.out i)), by omega, B6.out⟩
      · have M1 : Hid (Mk w2 (wc.alloc (.cells #[.int .u8 28] 5)) (.slice (some ⟨g, 0, none⟩) n3 c3) n3 LB) := D3.out.more (bel1 _ _)
        have R1 := hid (one_row wc 28)
        have L1 := hid (len1 28)
        go_wp2_with (at_builtin; have kill := M1.out; refine app_row (l2 := [28]) M1.out.1 R1.out L1.out (fun e => by cases e) M1.out.2.size (by omega) rfl _ _ rfl rfl rfl ?_; intro a4 c4 w4 r4 t4; have D4 := hid (M1.out.next r4 t4); clear r4 t4 kill M1)
        go_meet
        case rel => exact ⟨_, _, _, _, rfl, D4.out.given (byt_app BB.out (byt_one (by omega))), by omega, sq B2K.out D4.out.2⟩
      · skip
        go_upto_region 8 with (fail)
        refine wp_region_noPanic ?_
        refine wp_region_held_drew (S := (fun _ : World => True)) (by kernel_rfl) True.intro (fun hHeld => ?_)
        have RBd := hid (row_mono (Below.refl _ wc).drew RB.out)
        have G7d := hid (G7.out.below (Below.refl _ wc).drew)
        have G8d := hid (G8.out.below (Below.refl _ wc).drew)
        have B3d := hid (B3.out.drew)
        (refine tk_yes (v := ?_) 0 (some 43) rfl rfl (by kernel_rfl) (by kernel_rfl) (by kernel_rfl) (fun _ _ _ h => h) (by rfl) ?_ hHeld ?_; rotate_left; focus (intro w hSw; go_simp; try with_reducible rfl))
        simp only [Act.put, List.setIfInBounds_toArray, List.set_cons_zero, List.set_cons_succ]
        (refine tk_yes (v := ?_) 1 (some 44) rfl rfl (by kernel_rfl) (by kernel_rfl) (by kernel_rfl) (fun _ _ _ h => h) (by rfl) ?_ hHeld ?_; rotate_left; focus (intro w hSw; go_simp; try with_reducible rfl))
        simp only [Act.put, List.setIfInBounds_toArray, List.set_cons_zero, List.set_cons_succ]
        (refine tk_yes (v := ?_) 2 (some 45) rfl rfl (by kernel_rfl) (by kernel_rfl) (by kernel_rfl) (fun _ _ _ h => h) (by rfl) ?_ hHeld ?_; rotate_left; focus (intro w hSw; go_simp; try with_reducible rfl))
        simp only [Act.put, List.setIfInBounds_toArray, List.set_cons_zero, List.set_cons_succ]
        (refine tk_yes (v := .slice (some ⟨g, 0, none⟩) i i) 3 (some 46) rfl rfl (by kernel_rfl) (by kernel_rfl) (by kernel_rfl) (fun _ _ _ h => h) (by rfl) ?_ hHeld ?_; focus (intro w hSw; go_simp; try with_reducible rfl))
        simp only [Act.put, List.setIfInBounds_toArray, List.set_cons_zero, List.set_cons_succ]
        (refine tk_yes (v := ?_) 6 (some 49) rfl rfl (by kernel_rfl) (by kernel_rfl) (by kernel_rfl) (fun _ _ _ h => h) (by rfl) ?_ hHeld ?_; rotate_left; focus (intro w hSw; go_simp; try with_reducible rfl))
        simp only [Act.put, List.setIfInBounds_toArray, List.set_cons_zero, List.set_cons_succ]
        (refine tk_yes (v := ?_) 7 (some 50) rfl rfl (by kernel_rfl) (by kernel_rfl) (by kernel_rfl) (fun _ _ _ h => h) (by rfl) ?_ hHeld ?_; rotate_left; focus (intro w hSw; go_simp; try with_reducible rfl))
        simp only [Act.put, List.setIfInBounds_toArray, List.set_cons_zero, List.set_cons_succ]
        (refine tk_yes (v := .slice (some ad8) (n3 - i) (c3 - i)) 8 (some 51) rfl rfl (by kernel_rfl) (by kernel_rfl) (by kernel_rfl) (fun _ _ _ h => h) (by rfl) ?_ hHeld ?_; focus (intro w hSw; go_simp; try with_reducible rfl))
        simp only [Act.put, List.setIfInBounds_toArray, List.set_cons_zero, List.set_cons_succ]
        refine wpAnyH_ready (rs := [4]) (by kernel_rfl) (by simp) ?_
        refine AllReadyH.cons rfl (fun K hK => ?_) AllReadyH.nil
        refine step_of (o := { dst := some 47, op := _, type := _, pos := _, after := _, guard := none }) rfl (bsB (v := 28) _ rfl rfl ?_)
        have e4 := bel1 wc.drew (.cells #[.int .u8 28] 5)
        have R4 := hid (row_mono e4 RBd.out)
        have G4 := hid (G8d.out.below e4)
        have B4 := hid (sq B3d.out e4)
        have X4 : Hid (RowAt (wc.drew.alloc (.cells #[.int .u8 28] 5)) (some ⟨wc.drew.heap.size, 0, none⟩) [28]) := one_row wc.drew 28
        clear e4
        refine hK.out _ _ True.intro (fun hHeld => ?_)
        clear hK K
        try simp only [Act.put, List.setIfInBounds_toArray, List.set_cons_zero, List.set_cons_succ]
        refine wpAnyH_ready (rs := [5]) (by kernel_rfl) (by simp) ?_
        refine AllReadyH.cons rfl (fun K hK => ?_) AllReadyH.nil
        have HIq := HI.out
        have HNq := HN3.out
        refine app_full (n1 := i) (n2 := 1) (o := { dst := some 48, op := _, type := _, pos := _, after := _, guard := none }) (l2 := [28]) (row_take R4.out i) LI.out X4.out rfl (by omega) (by omega) rfl _ _ rfl rfl rfl ?_
        intro ao5 c5 w5 m5
        have M5 := hid m5
        have G5 := hid (G4.out.below m5.2)
        have B5 := hid (sq B4.out m5.2)
        refine hK.out _ _ True.intro (fun hHeld => ?_)
        clear hK K m5
        try simp only [Act.put, List.setIfInBounds_toArray, List.set_cons_zero, List.set_cons_succ]
        refine wpAnyH_ready (rs := [9]) (by kernel_rfl) (by simp) ?_
        refine AllReadyH.cons rfl (fun K hK => ?_) AllReadyH.nil
        have HIq := HI.out
        have HNq := HN3.out
        refine app_row_step (n1 := i + 1) (n2 := n3 - i) (o := { dst := some 52, op := _, type := _, pos := _, after := _, guard := none }) M5.out.1 G5.out.row G5.out.leq M5.out.2.size (by omega) rfl _ _ rfl rfl rfl ?_
        intro ao6 c6 w6 r6' t6
        have M6 := hid (M5.out.next r6' t6)
        have B6 := hid (sq B4.out M6.out.2)
        refine hK.out _ _ True.intro (fun hHeld => ?_)
        clear hK K r6' t6
        try simp only [Act.put, List.setIfInBounds_toArray, List.set_cons_zero, List.set_cons_succ]
        (refine tk_yes (v := ?_) 10 (some 17) rfl rfl (by kernel_rfl) (by kernel_rfl) (by kernel_rfl) (fun _ _ _ h => h) (by rfl) ?_ hHeld ?_; rotate_left; focus (intro w hSw; go_simp; try with_reducible rfl))
        simp only [Act.put, List.setIfInBounds_toArray, List.set_cons_zero, List.set_cons_succ]
        refine wpAnyH_done (by kernel_rfl) ?_ _
        refine NoPanic.normal ?_
        go_wp2
        go_meet
        case rel => exact ⟨_, _, _, _, rfl, M6.out.given (byt_app (byt_app (byt_take BB.out i) (byt_one (by omega))) (byt_drop BB.out i)), by omega, B6.out⟩
    case rest =>
      obtain ⟨ao, n, c, L, rfl, gl, hnl, hbl⟩ := hcut
      have GL := hid gl
      have BL := hid hbl
      clear gl hbl D3 B3
      have YS : Hid (∀ w', Below wc.heap.size wc w' → Ys (w'.alloc (.cells #[.slice x0 y0 z0, .slice ao n c] 31)) w'.heap.size) := fun w' hb' => by
        have e1 : Below w'.heap.size w' (w'.alloc (.cells #[.slice x0 y0 z0, .slice ao n c] 31)) := bel1 _ _
        have hg : (w'.alloc (.cells #[.slice x0 y0 z0, .slice ao n c] 31)).heap[w'.heap.size]? = some (.cells #[.slice x0 y0 z0, .slice ao n c] 31) := heap_alloc_new _ _
        intro j hj
        have hj2 : j = 0 ∨ j = 1 := by omega
        rcases hj2 with rfl | rfl
        · exact ⟨x0, y0, z0, l0, by rw [cell_of_head hg]; rfl, (H0.out.giv.below (sq BL.out hb')).below e1, by omega⟩
        · exact ⟨ao, n, c, L, by rw [cell_of_head hg]; rfl, (GL.out.below hb').below e1, hnl⟩
      have YT := hid (YS.out _ (Below.refl _ _))
      have BQ : Hid (Below W.heap.size W (wc.alloc (.cells #[.slice x0 y0 z0, .slice ao n c] 31))) := sq BL.out (bel1 _ _)
      clear YS
      go_wp2
      generalize wc.alloc (.cells #[.slice x0 y0 z0, .slice ao n c] 31) = w2 at *
      generalize wc.heap.size = g at *
      clear GL BL hn2 hn3 ca1 ca2 hi' hin hnz hiw hnl
      go_loopw [92] (fun i wq => ∃ (t : Nat), t ≤ 2 ∧ i = .int .i64 (t : Int) ∧ Ys wq g ∧ Below W.heap.size W wq) (fun i _ => 2 - (intOf i).toNat)
      case atStart => exact ⟨0, by omega, rfl, YT.out, BQ.out⟩
      case round =>
        obtain ⟨t, ht, rfl, hys, hbq⟩ := hrel
        have Y1 := hid hys
        have B1' := hid hbq
        clear hys hbq YT BQ
        by_cases htl : t < 2
        · have dt : decide ((t : Int) < 2) = true := decide_eq_true (by omega)
          have dt' : decide (t < 2) = true := decide_eq_true htl
          obtain ⟨ao2, n2, c2, l2, hc, hg, hn⟩ := Y1.out t htl
          have G0 := hid hg
          clear hg
          obtain ⟨R, hR⟩ : ∃ R, rdM l2 = R := ⟨_, rfl⟩
          obtain ⟨EE, hE⟩ : ∃ E, rdE l2 = E := ⟨_, rfl⟩
          have HR := hid hR
          have HE := hid hE
          have qg := fun x y w => (eqg27 R R x y w).2
          have qb : ∀ w, (binOp .neq 27 R.val R.val).run Tryd.prog w = .ok (.bool false) w := fun w => by
            have h := (gbin R R w).2; simpa using h
          clear hR hE
          go_wp2_with (first | (have kill := X8.out; refine ldw27 X8.out _ rfl (by kernel_rfl) rfl ?_) | (have kill := X8.out; refine ldw27 V8.out _ rfl (by kernel_rfl) rfl ?_) | (have kill := X7.out; refine st27 (r := R) X7.out L7.out hb23 rfl _ _ rfl rfl rfl ?_; intro w8 v8 l8; have X8 := hid v8; have V8 := hid (V6.out.below l8); have Y8 := hid (Y6.out.below l8); have B8 := hid (sq B6.out l8); clear v8 l8 kill X7 L7 V6 Y6 B6) | (refine al27 rfl rfl ?_; have kill := B6.out; intro b23 w7 hb23 v7 l7; have X7 := hid v7; have L7 := hid l7; clear v7 l7 kill) | (go_at_call 15; have kill := B5.out; refine (read15 _ _ _ l2 _ G5.out (by omega)).mono ?_; rintro e w6 ⟨rfl, l6⟩; rw [HR.out, HE.out]; have V6 := hid (V5.out.below l6); have Y6 := hid (Y5.out.below l6); have B6 := hid (sq B5.out l6); clear l6 kill B5 V5 Y5) | (have kill := X4.out; refine st27 (r := R) X4.out L4.out hb21 rfl _ _ rfl rfl rfl ?_; intro w5 v5 l5; have V5 := hid v5; have Y5 := hid (Y3.out.below l5); have G5 := hid (G3.out.below l5); have B5 := hid (sq B3.out l5); clear v5 l5 kill X4 L4 Y3 G3 B3) | (refine al27 rfl rfl ?_; have kill := B3.out; intro b21 w4 hb21 v4 l4; have X4 := hid v4; have L4 := hid l4; clear v4 l4 kill) | (go_at_call 13; have kill := B1'.out; refine (read13 _ _ _ l2 _ G0.out (by omega)).mono ?_; rintro e w3' ⟨rfl, l3⟩; rw [HR.out, HE.out]; have G3 := hid (G0.out.below l3); have Y3 := hid (Y1.out.below l3); have B3 := hid (sq B1'.out l3); clear l3 kill B1'))
          go_roundw
          case rel => exact ⟨t + 1, by omega, by go_num, Y8.out, B8.out⟩
          case measure => simp [intOf]; omega
        · go_wp2
          go_ret
          exact ⟨rfl, B1'.out⟩
set_option maxRecDepth 100000 in
set_option maxHeartbeats 1000000 in
theorem msgReads_lifted (os : Os) (started : os.Started) (H : Type) (enc : TypeId × Value → H) :
    ReturnsInHanded {} Tryd.checked os 4 .any (fun w args => (Rows.msgReadsSpec.pre enc Tryd.prog Tryd.f4 [] false w args ∧ laidMetH Tryd.prog lst w) ∧ sizedMet enc Tryd.prog Tryd.f4 (OpenSpec.ofChange Rows.msgReadsSpec) false w args)
      (Rows.msgReadsSpec.post enc Tryd.prog Tryd.f4 false true false false) := by
  refine returnsInHanded_of_change_and (C := Tryd.checked) (X := fun w _ => laidMetH Tryd.prog lst w) (fun _ _ _ hh h => h.of_heap hh) laid_own started (by kernel_rfl) Tryd.func4
    (ChangeSpec.witness_shaped (enc := enc) (C := Tryd.checked) (os := os) (X := fun w _ => laidMetH Tryd.prog lst w) false (World.doorLaid Tryd.prog 4000 os) #[.slice none 0 0, .int .u8 0, .int .u8 0, .int .u16 0, .int .u16 0, .int .u16 0, .int .u8 0, .int .u8 0] 8 rfl (World.shaped_of_RefB (by kernel_rfl) (by kernel_rfl)) (by kernel_rfl) (by kernel_rfl) (by kernel_rfl) (door_met os _)) ?_
  intro W base args ds gs before hval0 hW _ _ hL _
  have hval : ∀ (j : Nat) t v, Tryd.f4.params[j]? = some t → args[j]? = some v → Value.okWide Tryd.prog W .any base t v := hval0
  have hW' := hW
  obtain ⟨p, q, hA0, hV, rfl, hfz, hnd⟩ := hW
  have hA : DataW.TrodAll enc Tryd.prog W 0 (fun _ => true) true Tryd.f4.params.toList args.toList ds p := hA0
  rw [Tryd.params4] at hA hval
  obtain ⟨v0, vs0, d0, ds0, p0, q0, hargs, rfl, rfl, h0, r0⟩ := trodAll_cons hA
  obtain ⟨v1, vs1, d1, ds1, p1, q1, rfl, rfl, rfl, h1, r1⟩ := trodAll_cons r0
  obtain ⟨v2, vs2, d2, ds2, p2, q2, rfl, rfl, rfl, h2, r2⟩ := trodAll_cons r1
  obtain ⟨v3, vs3, d3, ds3, p3, q3, rfl, rfl, rfl, h3, r3⟩ := trodAll_cons r2
  obtain ⟨v4, vs4, d4, ds4, p4, q4, rfl, rfl, rfl, h4, r4⟩ := trodAll_cons r3
  obtain ⟨v5, vs5, d5, ds5, p5, q5, rfl, rfl, rfl, h5, r5⟩ := trodAll_cons r4
  obtain ⟨v6, vs6, d6, ds6, p6, q6, rfl, rfl, rfl, h6, r6⟩ := trodAll_cons r5
  obtain ⟨v7, vs7, d7, ds7, p7, q7, rfl, rfl, rfl, h7, r7⟩ := trodAll_cons r6
  obtain ⟨rfl, rfl, rfl⟩ := trodAll_nil r7
  obtain rfl : args = #[v0, v1, v2, v3, v4, v5, v6, v7] := by cases args; simp_all
  obtain ⟨rfl, rfl⟩ := trodVars_none hV
  obtain ⟨x0, y0, z0, rfl⟩ := okWide_slice Tryd.underlying31 (hval 0 31 v0 rfl rfl)
  have k0 := h0
  have lt0 : ∀ x ∈ p0, x.block < W.heap.size := by obtain ⟨m, hm⟩ := k0; exact DataW.trod_lt m _ _ _ hm
  obtain ⟨a0, len0, cap0, l0, e0, w0⟩ : ∃ a len cap l, Value.slice x0 y0 z0 = .slice a len cap ∧ InB W a len cap l := by
    obtain ⟨fuel, hf⟩ := h0
    exact open_inB hf
  cases e0
  obtain ⟨a1, rfl, rfl, rfl, w1⟩ := open_int Tryd.underlying5 (hval 1 5 v1 rfl rfl) h1
  obtain ⟨a2, rfl, rfl, rfl, w2⟩ := open_int Tryd.underlying5 (hval 2 5 v2 rfl rfl) h2
  obtain ⟨a3, rfl, rfl, rfl, w3⟩ := open_int Tryd.underlying22 (hval 3 22 v3 rfl rfl) h3
  obtain ⟨a4, rfl, rfl, rfl, w4⟩ := open_int Tryd.underlying22 (hval 4 22 v4 rfl rfl) h4
  obtain ⟨a5, rfl, rfl, rfl, w5⟩ := open_int Tryd.underlying22 (hval 5 22 v5 rfl rfl) h5
  obtain ⟨a6, rfl, rfl, rfl, w6⟩ := open_int Tryd.underlying5 (hval 6 5 v6 rfl rfl) h6
  obtain ⟨a7, rfl, rfl, rfl, w7⟩ := open_int Tryd.underlying5 (hval 7 5 v7 rfl rfl) h7
  clear hA0 hval0
  refine (reads_walk x0 y0 z0 l0 a1 a2 a3 a4 a5 a6 a7 W w0 (by have := bounds_u8 w1; omega) (by have := bounds_u8 w2; omega) (by have := bounds_u16 w3; omega) (by have := bounds_u16 w4; omega) (by have := bounds_u16 w5; omega) (by have := bounds_u8 w6; omega) (by have := bounds_u8 w7; omega) (tab_of hL)).mono fun e W' ⟨he, bel⟩ => ?_
  subst he
  exact ⟨_, rfl, _, _, _, [], _, [], hW', trodAll_mk1 (shut_bool Tryd.underlying4 _), (trodAll_cons_mk (Below.trod laid_all (by kernel_rfl) (of_decide_eq_true (by kernel_rfl)) k0 bel lt0) (trodAll_cons_mk (shut_int Tryd.underlying5 w1) (trodAll_cons_mk (shut_int Tryd.underlying5 w2) (trodAll_cons_mk (shut_int Tryd.underlying22 w3) (trodAll_cons_mk (shut_int Tryd.underlying22 w4) (trodAll_cons_mk (shut_int Tryd.underlying22 w5) (trodAll_cons_mk (shut_int Tryd.underlying5 w6) (trodAll_cons_mk (shut_int Tryd.underlying5 w7) trodAll_mk0)))))))), rfl, bel.frame _, fun h => by cases h⟩

theorem msgReads_over : Rows.msgReadsRow.holds Tryd.pinned (OpenSpec.ofChange Rows.msgReadsSpec) :=
  OpenClaim.holds_of_wide 4 Tryd.f4 rfl rfl rfl rfl rfl rfl rfl ⟨rfl, rfl, rfl, rfl, rfl⟩ rfl rfl rfl rfl rfl (by kernel_rfl) Tryd.func4 (by kernel_rfl)
    (of_decide_eq_true (by kernel_rfl)) (by unfold Func.isWrapper; first | (rw [if_pos (by decide +kernel)]; kernel_rfl) | (rw [if_neg (by decide +kernel)]; exact ⟨rfl, rfl⟩))
    (fun os started H enc _ => msgReads_lifted os started H enc)

/-- The row's statement, tied to the program's text. -/
theorem msgReads_holds : Rows.MsgReadsCardSaid :=
  Claim7.holds_tied_plain_at .later [] [.data, .data, .data] true (true, "1b93e6649467937dc11d5103653e4cbe1f2a4d61aec414c3f70a521379b88323") false
    msgReads_over (fun _ h => by cases h) (by kernel_rfl) (fun _ h => by cases h) msgReads_row_tie rfl ⟨rfl, rfl⟩ (by kernel_rfl) rfl
    (fun f fn hf hfn => by
      obtain rfl : f = 4 := Option.some.inj ((show Tryd.prog.funcNamed Rows.msgReadsRow.func = some 4 by kernel_rfl).symm.trans hf) |>.symm
      obtain rfl : fn = Tryd.f4 := (Option.some.inj (Tryd.func4.symm.trans hfn)).symm
      exact ⟨by kernel_rfl, fun j t ht => by
        rw [Tryd.params4] at ht
        have hm : t ∈ [31, 5, 5, 22, 22, 22, 5, 5] := by have h := Array.mem_of_getElem? ht; rw [← Array.mem_toList_iff] at h; exact h
        have hall : ([31, 5, 5, 22, 22, 22, 5, 5].all fun u => !Tryd.prog.wantsStandIn u) = true := by kernel_rfl
        exact (show Tryd.prog.wantsStandIn t = false by simpa using List.all_eq_true.1 hall t hm)⟩)
    (by kernel_rfl)
#print axioms msgReads_holds
end Go.Proofs.YtbipikbefokihaaDoor
