/- TableChecks: which tables are right, and where and why one isn't. For every input. -/
import Derived.Test.YthhgochnlbiaaaaKnown
import Derived.Test.YthhgochnlbiaaaaChkR
import Derived.Test.YthhgochnlbiaaaaEq
import Derived.Test.YthhgochnlbiaaaaTab
namespace Go.Proofs.Ythhgochnlbiaaaa
open Go.ChangeShapes Go.WideShapes Go.ChangeAt Go.RowKit

theorem info22 : (Try.prog.info? 22).map (fun i => (i.zero, i.size, i.bytes)) = some (some (.slice none 0 0), 1, 24) := by kernel_rfl
/-- Two tables lie side by side; none is long. -/
def Ys (w : World) (g : Nat) : Prop := ∀ j, j < 2 → ∃ ao n c l, w.cell? ⟨g, j, none⟩ = some (.slice ao n c) ∧ SG w ao n c l ∧ OkT l ∧ n ≤ 40
theorem Ys.below {w w' : World} {g : Nat} (h : Ys w g) (hb : Below w.heap.size w w') : Ys w' g := fun j hj => by
  obtain ⟨ao, n, c, l, h1, h2, h3, h4⟩ := h j hj
  exact ⟨ao, n, c, l, cellkept h1 hb, h2.below hb, h3, h4⟩
theorem bsY2 {ops : Array Oper} {rest : List Oper} {op : Oper} {a : Act} {w : World} {Q : Exit → Act → World → Prop} {p1 p2 : Option Addr} {n1 c1 n2 c2 : Nat} {l1 l2 : List St} (h1 : SG w p1 n1 c1 l1) (h2 : SG w p2 n2 c2 l2) (o1 : OkT l1) (o2 : OkT l2) (b1 : n1 ≤ 40) (b2 : n2 ≤ 40) (hgd : op.guard = none) (x y : Operand) (ho : op.op = .buildSlice 26 2 #[(0, x), (1, y)]) (hx : a.eval x = .slice p1 n1 c1) (hy : a.eval y = .slice p2 n2 c2)
    (h : ∀ w' g, Ys w' g → Below w.heap.size w w' → wpList Try.prog ops Q rest (a.put op.dst (.slice (some ⟨g, 0, none⟩) 2 2)) w') : wpList Try.prog ops Q (op :: rest) a w :=
  wpList_plain hgd fun K hK => by
  obtain ⟨i, hi, hz0, hz1, hz2⟩ := info_parts info22
  have hn := heap_alloc_new w (.cells #[.slice p1 n1 c1, .slice p2 n2 c2] 22)
  have hb := bel1 w (.cells #[.slice p1 n1 c1, .slice p2 n2 c2] 22)
  have hT : Ys (w.alloc (.cells #[.slice p1 n1 c1, .slice p2 n2 c2] 22)) w.heap.size := fun j hj => by
    have h01 : j = 0 ∨ j = 1 := by omega
    rcases h01 with rfl | rfl
    · exact ⟨p1, n1, c1, l1, by rw [cell_of_head hn]; rfl, h1.below hb, o1, b1⟩
    · exact ⟨p2, n2, c2, l2, by rw [cell_of_head hn]; rfl, h2.below hb, o2, b2⟩
  refine wp_buildSlice 26 22 2 _ ho #[.slice p1 n1 c1, .slice p2 n2 c2] i _ Try.underlying26 hi hz0 (by rw [hz1]; decide) (by rw [hz1]; decide) ?_ (hK _ _ (h _ _ hT hb))
  have := Great.fill_whole (s := 1) (by decide) [Value.slice p1 n1 c1, .slice p2 n2 c2] ((Array.range (2 * i.size)).map ((Value.slice none 0 0).cells[· % (Value.slice none 0 0).cells.size]!))
    (by intro v hv; simp at hv; rcases hv with hv | hv <;> subst hv <;> rfl) (by simp [hz1])
  rw [hz1] at this ⊢
  simpa [hx, hy, Value.cells] using this
/-- Two numbers lie side by side. -/
def Is (w : World) (g : Nat) : Prop := ∀ j, j < 2 → ∃ z : Int, w.cell? ⟨g, j, none⟩ = some (.int .i64 z)
theorem Is.below {w w' : World} {g : Nat} (h : Is w g) (hb : Below w.heap.size w w') : Is w' g := fun j hj => by
  obtain ⟨z, h1⟩ := h j hj
  exact ⟨z, cellkept h1 hb⟩
theorem bsI2 {ops : Array Oper} {rest : List Oper} {op : Oper} {a : Act} {w : World} {Q : Exit → Act → World → Prop} {r s : Int} (hgd : op.guard = none) (x y : Operand) (ho : op.op = .buildSlice 32 2 #[(0, x), (1, y)]) (hx : a.eval x = .int .i64 r) (hy : a.eval y = .int .i64 s)
    (h : ∀ w' g, Is w' g → Below w.heap.size w w' → wpList Try.prog ops Q rest (a.put op.dst (.slice (some ⟨g, 0, none⟩) 2 2)) w') : wpList Try.prog ops Q (op :: rest) a w :=
  wpList_plain hgd fun K hK => by
  obtain ⟨i, hi, hz0, hz1, hz2⟩ := info_parts Try.info3
  have hn := heap_alloc_new w (.cells #[.int .i64 r, .int .i64 s] 3)
  have hT : Is (w.alloc (.cells #[.int .i64 r, .int .i64 s] 3)) w.heap.size := fun j hj => by
    have h01 : j = 0 ∨ j = 1 := by omega
    rcases h01 with rfl | rfl
    · exact ⟨r, by rw [cell_of_head hn]; rfl⟩
    · exact ⟨s, by rw [cell_of_head hn]; rfl⟩
  refine wp_buildSlice 32 3 2 _ ho #[.int .i64 r, .int .i64 s] i _ Try.underlying32 hi hz0 (by rw [hz1]; decide) (by rw [hz1]; decide) ?_ (hK _ _ (h _ _ hT (bel1 _ _)))
  have := Great.fill_whole (s := 1) (by decide) [Value.int .i64 r, .int .i64 s] ((Array.range (2 * i.size)).map ((Value.int .i64 0).cells[· % (Value.int .i64 0).cells.size]!))
    (by intro v hv; simp at hv; rcases hv with hv | hv <;> subst hv <;> rfl) (by simp [hz1])
  rw [hz1] at this ⊢
  simpa [hx, hy, Value.cells] using this
set_option maxRecDepth 20000 in
set_option maxHeartbeats 16000000 in
theorem checks_walk (x0 : Option Addr) (y0 z0 : Nat) (l0 : List St) (x1 : Option Addr) (y1 z1 : Nat) (l1 : List Int) (few id : Int) (W : World) (h0 : InA W x0 y0 z0 l0) (h1 : InN W x1 y1 z1 l1) (hfew : 0 ≤ few ∧ few < 256) (_hid : -9223372036854775808 ≤ id ∧ id ≤ 9223372036854775807) :
    Calls Try.prog 3 #[.slice x0 y0 z0, .slice x1 y1 z1, .int .u8 few, .int .i64 id] W fun e w' => e = .returned (.bool true) ∧ Below W.heap.size W w' := by
  have H0 := hid h0
  have H1 := hid h1.1
  have HF := hid hfew
  have hy0 := Nat.le_trans h0.1.cap1 h0.1.cap2
  have hy1 := h1.2
  have HX0 : Hid True := trivial
  clear h0 h1 hfew
  by_cases h40 : 40 < y0
  · have d0 : decide ((40 : Int) < (y0 : Int)) = true := decide_eq_true (by omega)
    go_enter Try.func3, Try.ntmps3
    go_wp2_with (go_at_call 7; have kill := HX0.out; refine (known7 _).mono ?_; rintro e w1 ⟨rfl, l1⟩; have L1 := hid l1; clear l1 kill HX0)
    go_ret
    exact ⟨rfl, L1.out⟩
  have d0 : decide ((40 : Int) < (y0 : Int)) = false := decide_eq_false (by omega)
  by_cases h41 : 40 < y1
  · have d1 : decide ((40 : Int) < (y1 : Int)) = true := decide_eq_true (by omega)
    go_enter Try.func3, Try.ntmps3
    go_wp2_with (go_at_call 7; have kill := HX0.out; refine (known7 _).mono ?_; rintro e w1 ⟨rfl, l1⟩; have L1 := hid l1; clear l1 kill HX0)
    go_ret
    exact ⟨rfl, L1.out⟩
  have d1 : decide ((40 : Int) < (y1 : Int)) = false := decide_eq_false (by omega)
  have hq0 : y0 ≤ 40 := by omega
  have hq1 : y1 ≤ 40 := by omega
  clear h40 h41
  go_enter Try.func3, Try.ntmps3
  go_wp2_with (first | (have kill := M2.out; refine bsY2 (H0.out.1.below L2.out) M2.out H0.out.2 OK2.out hq0 hq1 rfl _ _ rfl rfl rfl ?_; intro w3 g y3 l3; have Y3 := hid y3; have L3 := hid (sq L2.out l3); clear y3 l3 kill M2 OK2 L2) | (go_at_call 8; have kill := L1.out; refine (table8 x1 y1 z1 few _ (H1.out.below L1.out) (by omega) HF.out).mono ?_; rintro e w2 ⟨a2, c2, ls, rfl, m2, ok2⟩; have M2 := hid m2.given; have OK2 := hid ok2; have L2 := hid (sq L1.out m2.2); clear m2 ok2 kill L1) | (go_at_call 7; have kill := HX0.out; refine (known7 _).mono ?_; rintro e w1 ⟨rfl, l1⟩; have L1 := hid l1; clear l1 kill HX0))
  go_loopw [37] (fun i wr => ∃ j : Nat, j ≤ 2 ∧ i = .int .i64 (j : Int) ∧ Ys wr g ∧ Below W.heap.size W wr) (fun i _ => 2 - (intOf i).toNat)
  case atStart => exact ⟨0, by omega, rfl, Y3.out, L3.out⟩
  case round =>
    obtain ⟨j, hj, rfl, hg, hl⟩ := hrel
    have G1 := hid hg
    have E1 := hid hl
    clear hg hl Y3 L3
    by_cases hlt : j < 2
    · obtain ⟨ao, n, c, l, ct, sg, ok, hn40⟩ := G1.out j hlt
      have S1 := hid sg
      have OK := hid ok
      have hjj : (j : Int) < 2 := by omega
      obtain ⟨CA, hCA⟩ : ∃ z, (checkL l).1 = z := ⟨_, rfl⟩
      obtain ⟨CB, hCB⟩ : ∃ z, (checkL l).2 = z := ⟨_, rfl⟩
      have HCA := hid hCA
      have HCB := hid hCB
      clear sg ok hCA hCB
      go_wp2_with (first | (have kill := S4.out; refine bsI2 rfl _ _ rfl rfl rfl ?_; intro w5 g5 i5 l5; have I5 := hid i5; have S5 := hid (S4.out.below l5); have F5 := sq F4.out l5; have Y5 := hid (G1.out.below F5); have L5 := hid (sq E1.out F5); clear i5 l5 F5 kill S4 F4) | (go_at_call 10; have kill := S3.out; refine (check10 _ _ _ l _ S3.out (by omega) OK.out).mono ?_; rintro e w4 ⟨rfl, l4⟩; rw [HCA.out, HCB.out]; have F4 := hid (sq F3.out l4); have S4 := hid (S3.out.below l4); clear l4 kill S3 F3) | (go_at_call 9; have kill := S1.out; refine (check9 _ _ _ l _ S1.out (by omega) OK.out).mono ?_; rintro e w3 ⟨rfl, l3⟩; rw [HCA.out, HCB.out]; have F3 := hid l3; have S3 := hid (S1.out.below l3); clear l3 kill S1))
      go_loopw [64] (fun i wr => ∃ k : Nat, k ≤ 2 ∧ i = .int .i64 (k : Int) ∧ Ys wr g ∧ Is wr g5 ∧ SG wr ao n c l ∧ Below W.heap.size W wr) (fun i _ => 2 - (intOf i).toNat)
      case atStart => exact ⟨0, by omega, rfl, Y5.out, I5.out, S5.out, L5.out⟩
      case round =>
        obtain ⟨k, hk, rfl, hg, hi, hs, hl⟩ := hrel
        have G2 := hid hg
        have I2 := hid hi
        have S2 := hid hs
        have E2 := hid hl
        clear hg hi hs hl Y5 I5 S5 L5
        by_cases hlt2 : k < 2
        · obtain ⟨z, cz⟩ := I2.out k hlt2
          have hkk : (k : Int) < 2 := by omega
          obtain ⟨r, hr⟩ : ∃ r, findL l z = r := ⟨_, rfl⟩
          obtain ⟨fd, hfd⟩ : ∃ r, foundL l z = r := ⟨_, rfl⟩
          have HR := hid hr
          have HFD := hid hfd
          clear hr hfd
          have qg := fun x y w => (eqg34 r r x y w).2
          have qb := fun w => bin_same r w
          go_wp2_with (first | (have kill := V8.out; refine ld34 V8.out rfl _ rfl rfl ?_) | (have kill := U8.out; refine ld34 U8.out rfl _ rfl rfl ?_) | (have kill := V7.out; refine st34 (r := r) V7.out F7.out hb7 rfl _ _ rfl rfl rfl ?_; intro w8 v8 l8; have V8 := hid v8; have U8 := hid (V6.out.below l8); have L9 := hid (sq F6.out l8); clear v8 l8 kill V7 F7 F6 V6) | (have kill := K6.out; refine al34 rfl rfl ?_; intro b7 w7 hb7 v7 l7; have V7 := hid v7; have F7 := hid l7; clear v7 l7 kill K6) | (go_at_call 12; have kill := V5.out; refine (find12 _ _ _ l z _ (S2.out.below F5.out)).mono ?_; rintro e w6 ⟨rfl, l6⟩; rw [HR.out, HFD.out]; have F6 := hid (sq F5.out l6); have V6 := hid (V5.out.below l6); have K6 : Hid True := trivial; clear l6 kill V5 F5) | (have kill := V4.out; refine st34 (r := r) V4.out F4.out hb4 rfl _ _ rfl rfl rfl ?_; intro w5 v5 l5; have V5 := hid v5; have F5 := hid (sq F3.out l5); clear v5 l5 kill V4 F4 F3) | (have kill := K3.out; refine al34 rfl rfl ?_; intro b4 w4 hb4 v4 l4; have V4 := hid v4; have F4 := hid l4; clear v4 l4 kill K3) | (go_at_call 11; have kill := S2.out; refine (find11 _ _ _ l z _ S2.out).mono ?_; rintro e w3 ⟨rfl, l3⟩; rw [HR.out, HFD.out]; have F3 := hid l3; have K3 : Hid True := trivial; clear l3 kill))
          go_roundw
          case rel => exact ⟨k + 1, by omega, by go_num, G2.out.below L9.out, I2.out.below L9.out, S2.out.below L9.out, sq E2.out L9.out⟩
          case measure => simp [intOf]; omega
        · obtain rfl : 2 = k := by omega
          go_wp2
          go_roundw
          case rel => exact ⟨j + 1, by omega, by go_num, G2.out, E2.out⟩
          case measure => simp [intOf]; omega
    · obtain rfl : 2 = j := by omega
      go_wp2
      go_ret
      exact ⟨rfl, E1.out⟩
theorem tableChecks_own : ownKnob Try.prog.godebug = none := by kernel_rfl
theorem tableChecks_laid : laidOutB Try.prog = true := by kernel_rfl

set_option maxRecDepth 100000 in
set_option maxHeartbeats 1000000 in
theorem tableChecks_lifted (os : Os) (started : os.Started) (H : Type) (enc : TypeId × Value → H) :
    ReturnsInHanded {} Try.checked os 3 .any (Rows.tableChecksSpec.pre6 enc Try.prog Try.f3 Rows.tableChecksRow.domain false) (Rows.tableChecksSpec.post enc Try.prog Try.f3 false true false false) := by
  refine returnsInHanded_of_change (C := Try.checked) tableChecks_own started (by kernel_rfl) Try.func3
    (ChangeSpec.witness6 (enc := enc) (C := Try.checked) false ⟨#[], #[.slice none 0 0, .slice none 0 0, .int .u8 0, .int .i64 0], []⟩ 8 (by kernel_rfl) (by kernel_rfl) (by kernel_rfl) (by kernel_rfl)) ?_
  intro W base args ds gs before hval0 hW hcnd _
  have hval : ∀ (j : Nat) t v, Try.f3.params[j]? = some t → args[j]? = some v → Value.okWide Try.prog W .any base t v := hval0
  have hW' := hW
  obtain ⟨p, q, hA0, hV, rfl, hfz, hnd⟩ := hW
  have hA : DataW.TrodAll enc Try.prog W 0 (fun _ => true) true Try.f3.params.toList args.toList ds p := hA0
  rw [Try.params3] at hA hval
  obtain ⟨v0, vs0, d0, ds0, p0, q0, hargs, rfl, rfl, h0, r0⟩ := trodAll_cons hA
  obtain ⟨v1, vs1, d1, ds1, p1, q1, rfl, rfl, rfl, h1, r1⟩ := trodAll_cons r0
  obtain ⟨v2, vs2, d2, ds2, p2, q2, rfl, rfl, rfl, h2, r2⟩ := trodAll_cons r1
  obtain ⟨v3, vs3, d3, ds3, p3, q3, rfl, rfl, rfl, h3, r3⟩ := trodAll_cons r2
  obtain ⟨rfl, rfl, rfl⟩ := trodAll_nil r3
  obtain rfl : args = #[v0, v1, v2, v3] := by cases args; simp_all
  obtain ⟨rfl, rfl⟩ := trodVars_none hV
  obtain ⟨x0, y0, z0, rfl⟩ := okWide_slice Try.underlying22 (hval 0 22 v0 rfl rfl)
  have k0 := h0
  have lt0 : ∀ x ∈ p0, x.block < W.heap.size := by obtain ⟨m, hm⟩ := k0; exact DataW.trod_lt m _ _ _ hm
  obtain ⟨a0, len0, cap0, l0, e0, w0⟩ : ∃ a len cap l, Value.slice x0 y0 z0 = .slice a len cap ∧ InA W a len cap l := by
    obtain ⟨fuel, hf⟩ := h0
    exact open_inA hf
  cases e0
  obtain ⟨x1, y1, z1, rfl⟩ := okWide_slice Try.underlying23 (hval 1 23 v1 rfl rfl)
  have k1 := h1
  have lt1 : ∀ x ∈ p1, x.block < W.heap.size := by obtain ⟨m, hm⟩ := k1; exact DataW.trod_lt m _ _ _ hm
  obtain ⟨a1, len1, cap1, l1, e1, w1⟩ : ∃ a len cap l, Value.slice x1 y1 z1 = .slice a len cap ∧ InN W a len cap l := by
    obtain ⟨fuel, hf⟩ := h1
    exact open_inN hf
  cases e1
  obtain ⟨a2, rfl, rfl, rfl, w2⟩ := open_int Try.underlying5 (hval 2 5 v2 rfl rfl) h2
  obtain ⟨a3, rfl, rfl, rfl, w3⟩ := open_int Try.underlying3 (hval 3 3 v3 rfl rfl) h3
  clear hA0 hval0
  refine (checks_walk x0 y0 z0 l0 x1 y1 z1 l1 a2 a3 W w0 w1 (by have := bounds_u8 w2; omega) (by have := bounds_i64 w3; omega)).mono fun e W' ⟨he, bel⟩ => ?_
  subst he
  exact ⟨_, rfl, _, _, _, [], _, [], hW', trodAll_mk1 (shut_bool Try.underlying4 _), (trodAll_cons_mk (Below.trod tableChecks_laid (by kernel_rfl) (of_decide_eq_true (by kernel_rfl)) k0 bel lt0) (trodAll_cons_mk (Below.trod tableChecks_laid (by kernel_rfl) (of_decide_eq_true (by kernel_rfl)) k1 bel lt1) (trodAll_cons_mk (shut_int Try.underlying5 w2) (trodAll_cons_mk (shut_int Try.underlying3 w3) trodAll_mk0)))), rfl, bel.frame _, fun h => by cases h⟩

theorem tableChecks_over : Rows.tableChecksRow.holds Try.pinned (OpenSpec.ofChange Rows.tableChecksSpec) :=
  OpenClaim.holds_of_wide 3 Try.f3 rfl rfl rfl rfl rfl rfl rfl ⟨rfl, rfl, rfl, rfl, rfl⟩ rfl rfl rfl rfl rfl (by kernel_rfl) Try.func3 (by kernel_rfl)
    (of_decide_eq_true (by kernel_rfl)) (by unfold Func.isWrapper; first | (rw [if_pos (by decide +kernel)]; kernel_rfl) | (rw [if_neg (by decide +kernel)]; exact ⟨rfl, rfl⟩))
    (fun os started H enc _ => tableChecks_lifted os started H enc)

/-- The statement. -/
theorem tableChecks_holds : Rows.TableChecksSaid := tableChecks_over
#print axioms tableChecks_holds
end Go.Proofs.Ythhgochnlbiaaaa
