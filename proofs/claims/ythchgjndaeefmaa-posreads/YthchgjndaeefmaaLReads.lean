/- PosReads: any bytes, and a request's with one turned, or cut off, its sum right again too, are the document's, or refused. For every input. -/
import Derived.Test.YthchgjndaeefmaaLaws
import Derived.Test.YthchgjndaeefmaaWCat
import Derived.Deep.CutRange
namespace Go.Proofs.Ythchgjndaeefmaa
open Go.ChangeShapes Go.WideShapes Go.ChangeAt Go.RowKit

/-- In these three cells lie slices of bytes. -/
def Ys (w : World) (g : Nat) : Prop := ∀ k, k < 3 → ∃ ao n c l, w.cell? ⟨g, k, none⟩ = some (.slice ao n c) ∧ Given w ao n c l ∧ n ≤ 3000
theorem Ys.below {w w' : World} {g : Nat} (h : Ys w g) (hb : Below w.heap.size w w') : Ys w' g := by
  intro k hk
  obtain ⟨ao, n, c, l, h1, h2, h3⟩ := h k hk
  exact ⟨ao, n, c, l, (hb.cell (p := ⟨g, k, none⟩) (World.block_lt_of_cell? w ⟨g, k, none⟩ h1)).trans h1, h2.below hb, h3⟩
theorem pan_right {t s k a : Int} (hs : s ≤ 999999) (h1 : 1 ≤ a) (h2 : a ≤ 1000000) : rightL ⟨t, s, panK k, a⟩ = true := right_yes hs (panK_ok k) h1 h2
set_option maxRecDepth 20000 in
set_option maxHeartbeats 16000000 in
theorem reads_walk (x0 : Option Addr) (y0 z0 : Nat) (l0 : List Int) (k t x : Int) (cut again : Bool) (W : World) (h0 : InB W x0 y0 z0 l0) (hk : 0 ≤ k ∧ k < 256) (ht : 0 ≤ t ∧ t < 256) (hx : 0 ≤ x ∧ x < 256) :
    Calls Try.prog 4 #[.slice x0 y0 z0, .int .u8 k, .int .u8 t, .int .u8 x, .bool cut, .bool again] W fun e w' => e = .returned (.bool true) ∧ Below W.heap.size W w' := by
  obtain ⟨PK, hPK⟩ : ∃ p, panK k = p := ⟨_, rfl⟩
  have HPK := hid hPK
  obtain ⟨X, hX⟩ : ∃ X : Ps, (⟨k, t, PK, k + 1⟩ : Ps) = X := ⟨_, rfl⟩
  have HXE := hid hX
  have XR : Hid (rightL X = true) := by rw [← hX, ← hPK]; exact pan_right (by omega) (by omega) (by omega)
  have XO : Hid X.Ok := by rw [← hX]; exact ⟨⟨by show 0 ≤ k; omega, by show k < 65536; omega⟩, by show 0 ≤ t; omega, by show t < 4294967296; omega⟩
  have hp1 := (right_parts XR.out).p1
  have hp2 := (right_parts XR.out).p2
  have XP : Hid (X.pan.size ≤ 9223372036854775807) := by unfold Hid; omega
  obtain ⟨n, hn⟩ : ∃ n, 27 + X.pan.size = n := ⟨_, rfl⟩
  obtain ⟨LB, hLB⟩ : ∃ l, putL X = l := ⟨_, rfl⟩
  have HLB := hid hLB
  have XE : Hid (putE X = 0) := putE_yes XR.out
  have BB : Hid (Byt LB) := by rw [← hLB]; exact putL_byt X
  have HLN : Hid (LB.length = n) := by unfold Hid; rw [← hLB, ← hn]; exact putL_len XR.out
  have hn1 : n ≤ 46 := by omega
  have hn2 : 28 ≤ n := by omega
  have K0 := hid True.intro
  have H0 := hid h0
  have hz0 := h0.giv.cap1
  have hz1 := h0.giv.cap2
  obtain ⟨i, hi⟩ : ∃ i : Nat, t % (n : Int) = (i : Int) := ⟨(t % (n : Int)).toNat, by have := Int.emod_nonneg t (b := (n : Int)) (by omega); omega⟩
  have hin : i < n := by have := Int.emod_lt_of_pos t (b := (n : Int)) (by omega); omega
  have hi' : t.tmod (n : Int) = (i : Int) := by rw [Int.tmod_eq_emod_of_nonneg ht.1, hi]
  obtain ⟨z, hz⟩ : ∃ z, LB.getD i 0 = z := ⟨_, rfl⟩
  have hzb := byt_getD BB.out i
  rw [hz] at hzb
  obtain ⟨y, hy⟩ : ∃ y, bits .xor .u8 z x = y := ⟨_, rfl⟩
  have hyb : B8 y := by rw [← hy]; exact xr_b8 hzb hx
  have HZ := hid hz
  have HB4 : Hid (Byt (LB.set i y)) := hid (byt_set BB.out i hyb)
  obtain ⟨k0, k1⟩ := hk
  obtain ⟨t0, t1⟩ := ht
  obtain ⟨x0', x1'⟩ := hx
  have e3 : wrap64 t = t := by have := IntKind.wrap_i64 t; unfold wrap64; omega
  have e4 : IntKind.i64.wrap (i : Int) = (i : Int) := by rw [IntKind.wrap_i64]; omega
  have e6 : (i : Int).toNat = i := by omega
  have j1 : (0 : Int) ≤ (i : Int) := by omega
  have j2 : (i : Int) < (n : Int) := by omega
  have j3 : ¬ (n : Int) = 0 := by omega
  have j4 : ¬ n = 0 := by omega
  have yb0 := hyb.1
  have yb1 := hyb.2
  have zb0 := hzb.1
  have zb1 := hzb.2
  have k2 : wrap64 (k + 1) = k + 1 := by have := IntKind.wrap_i64 (k + 1); unfold wrap64; omega
  clear hX hLB h0 hn hi hz hyb hzb hPK hp1 hp2
  by_cases h200 : 200 < y0
  · clear e3 e4 k2 hi' hy
    go_enter Try.func4, Try.ntmps4
    go_wp2_with (first | (go_at_call 6; have kill := K0.out; refine (known6 _).mono ?_; rintro e w1 ⟨rfl, b1⟩; have B1 := hid b1; clear b1 kill K0))
    go_ret
    exact ⟨rfl, B1.out⟩
  go_enter Try.func4, Try.ntmps4
  go_upto_region 8 with (first | (go_at_call 9; have kill := B2.out; refine (put9 X _ XO.out XP.out).mono ?_; rintro e w3 ⟨ao3, n3, c3, rfl, d3⟩; rw [HLB.out] at d3; rw [XE.out]; have e9 := d3.1.len; rw [HLN.out] at e9; subst e9; obtain ⟨g, rfl, cc3, f3, s3⟩ := d3.put i hin; rw [HZ.out] at cc3; have S3 := hid (s3 y); have C3 := hid d3.1.caps; clear d3 s3 kill) | (have kill := B2.out; refine bdE25 HXE.out rfl _ _ _ _ rfl rfl rfl rfl rfl ?_) | (go_at_call 7; have kill := B1.out; refine (pan7 k _ k0).mono ?_; rintro e w2 ⟨rfl, l2⟩; rw [HPK.out]; have B2 := hid (sq B1.out l2); clear l2 kill B1) | (go_at_call 6; have kill := K0.out; refine (known6 _).mono ?_; rintro e w1 ⟨rfl, b1⟩; have B1 := hid b1; clear b1 kill K0))
  clear cc3 f3
  generalize w3.setCell ⟨g, i, none⟩ (.int .u8 y) = w4 at *
  go_upto_if 57 with fail
  go_cut [57] from 58 to 68 (fun _ wx => ∃ l, Mk w2 wx (.slice (some ⟨g, 0, none⟩) n c3) n l ∧ Byt l)
  case first =>
    cases again with
    | false =>
      go_wp2
      go_meet
      exact ⟨_, S3.out, HB4.out⟩
    | true =>
      obtain ⟨C1, C2, C4⟩ := C3.out
      obtain ⟨l, hl⟩ : ∃ l, LB.set i y = l := ⟨_, rfl⟩
      rw [hl] at S3 HB4
      have q1 : (n : Int) - 1 ≤ (c3 : Int) := by omega
      have q2 : (1 : Int) ≤ (n : Int) - 1 := by omega
      have q3 : ¬ c3 = 1 := by omega
      have q4 : ((n : Int) - 1 - 1).toNat = n - 2 := by omega
      have HLL : Hid (l.length = n) := hid S3.out.1.len
      have HGV : Hid (Given w4 (some ⟨g, 1, none⟩) (n - 2) (c3 - 1) (pc l 1 (n - 2))) := hid ⟨pc_lenX _ _ _ (by rw [HLL.out]; omega), byt_take (byt_drop HB4.out _) _, by have := (S3.out.given HB4.out).row.piece 1 (n - 2) (by rw [HLL.out]; omega); rwa [Nat.zero_add] at this, by omega, by omega⟩
      obtain ⟨c, hc⟩ : ∃ c, lrcL (pc l 1 (n - 2)) = c := ⟨_, rfl⟩
      have hcw : B8 c := by rw [← hc]; exact lrc_b8 (byt_take (byt_drop HB4.out _) _)
      have HCW := hid hcw
      obtain ⟨hc0, hc1⟩ := hcw
      have HC := hid hc
      have p4 : ((n : Int) - 1).toNat = n - 1 := by omega
      clear C1 hl hc
      go_wp2_with (first | (refine st8 S3.out (n - 1) c (by omega) rfl _ _ rfl rfl rfl ?_; intro w5 d5; have D5 := hid d5; clear d5) | (go_at_call 14; refine (lrc15 _ _ _ _ _ HGV.out).mono ?_; rintro e w' ⟨rfl, rfl⟩; rw [HC.out]))
      go_meet
      exact ⟨_, D5.out, byt_set HB4.out _ HCW.out⟩
  case rest =>
    obtain ⟨l, d4, b4⟩ := hcut
    have D4 := hid d4
    have B4 := hid b4
    clear d4 b4 S3 HB4
    generalize wc = w4 at *
    go_upto_if 69 with fail
    go_cut [13] from 57 to 72 (fun v wx => ∃ nf zs, v = .slice (some ⟨g, 0, none⟩) nf c3 ∧ Given wx (some ⟨g, 0, none⟩) nf c3 zs ∧ nf ≤ 3000 ∧ Below W.heap.size W wx)
    case first =>
      have q5 : (i : Int) ≤ (c3 : Int) := by have := C3.out.2.1; omega
      cases cut with
      | false =>
        go_wp2
        go_meet
        exact ⟨n, l, rfl, D4.out.given B4.out, by omega, sq B2.out D4.out.2⟩
      | true =>
        go_wp2
        go_meet
        exact ⟨i, l.take i, rfl, (D4.out.given B4.out).cut i (by omega), by omega, sq B2.out D4.out.2⟩
    case rest =>
      obtain ⟨nf, zs, rfl, gz, hnf, lz⟩ := hcut
      have GZ := hid gz
      have LZ := hid lz
      clear gz lz D4 B4
      generalize wc = wA at *
      go_upto_region 13 with (first | (go_at_call 15; have kill := LZ.out; refine (frame18 _ _ _ l0 _ (H0.out.giv.below LZ.out) H0.out.nil).mono ?_; rintro e w6 ⟨a6, n6, c6, rfl, d6⟩; have D6 := hid d6; have G6 := hid (GZ.out.below d6.2); have B6 := hid (sq LZ.out d6.2); clear d6 kill LZ GZ))
      have hn6 : n6 ≤ 3000 := by
        have h1 := D6.out.1.len
        have h2 := frX_len (b := l0)
        have h3 := H0.out.giv.leq
        omega
      have YS : Hid (Ys (w6.alloc (.cells #[.slice x0 y0 z0, .slice (some ⟨g, 0, none⟩) nf c3, .slice a6 n6 c6] 26)) w6.heap.size) := by
        have e1 : Below w6.heap.size w6 (w6.alloc (.cells #[.slice x0 y0 z0, .slice (some ⟨g, 0, none⟩) nf c3, .slice a6 n6 c6] 26)) := bel1 _ _
        have hg : (w6.alloc (.cells #[.slice x0 y0 z0, .slice (some ⟨g, 0, none⟩) nf c3, .slice a6 n6 c6] 26)).heap[w6.heap.size]? = some (.cells #[.slice x0 y0 z0, .slice (some ⟨g, 0, none⟩) nf c3, .slice a6 n6 c6] 26) := heap_alloc_new _ _
        intro j hj
        have hj2 : j = 0 ∨ j = 1 ∨ j = 2 := by omega
        rcases hj2 with rfl | rfl | rfl
        · exact ⟨x0, y0, z0, l0, by rw [cell_of_head hg]; rfl, (H0.out.giv.below B6.out).below e1, by omega⟩
        · exact ⟨_, nf, c3, zs, by rw [cell_of_head hg]; rfl, G6.out.below e1, hnf⟩
        · exact ⟨a6, n6, c6, _, by rw [cell_of_head hg]; rfl, (D6.out.given (frX_byt H0.out.giv.byt)).below e1, hn6⟩
      have BQ : Hid (Below W.heap.size W (w6.alloc (.cells #[.slice x0 y0 z0, .slice (some ⟨g, 0, none⟩) nf c3, .slice a6 n6 c6] 26))) := sq B6.out (bel1 _ _)
      go_wp2
      generalize w6.alloc (.cells #[.slice x0 y0 z0, .slice (some ⟨g, 0, none⟩) nf c3, .slice a6 n6 c6] 26) = w7 at *
      generalize w6.heap.size = gq at *
      clear D6 G6 B6 hn6 hi' hin e3 e4 e6 j1 j2 j3 j4 hy k2 hnf
      go_loopw [83] (fun i wq => ∃ (t : Nat), t ≤ 3 ∧ i = .int .i64 (t : Int) ∧ Ys wq gq ∧ Below W.heap.size W wq) (fun i _ => 3 - (intOf i).toNat)
      case atStart => exact ⟨0, by omega, rfl, YS.out, BQ.out⟩
      case round =>
        obtain ⟨t, ht, rfl, hys, hbq⟩ := hrel
        have Y1 := hid hys
        have B1' := hid hbq
        clear hys hbq YS BQ
        by_cases htl : t < 3
        · have dt : decide ((t : Int) < 3) = true := decide_eq_true (by omega)
          have dt' : decide (t < 3) = true := decide_eq_true htl
          obtain ⟨ao2, n2, c2, l2, hc, hg, hnn⟩ := Y1.out t htl
          have G0 := hid hg
          clear hg
          obtain ⟨R, hR⟩ : ∃ R, rdP l2 = R := ⟨_, rfl⟩
          obtain ⟨EE, hE⟩ : ∃ E, rdE l2 = E := ⟨_, rfl⟩
          obtain ⟨NN, hN⟩ : ∃ E, ufN l2 = E := ⟨_, rfl⟩
          have HR := hid hR
          have HE := hid hE
          have HN := hid hN
          have qg := fun x y w => (eqg25 R R x y w).2
          have qb : ∀ w, (binOp .neq 25 R.val R.val).run Try.prog w = .ok (.bool false) w := fun w => by
            have h := (gbin R R w).2; simpa using h
          clear hR hE hN
          go_wp2_with (first | (have kill := X8.out; refine ld25 X8.out rfl _ rfl rfl ?_) | (have kill := X8.out; refine ld25 V8.out rfl _ rfl rfl ?_) | (have kill := X7.out; refine st25 (r := R) X7.out L7.out hb23 rfl _ _ rfl rfl rfl ?_; intro w8 v8 l8; have X8 := hid v8; have V8 := hid (V6.out.below l8); have Y8 := hid (Y6.out.below l8); have B8 := hid (sq B6.out l8); clear v8 l8 kill X7 L7 V6 Y6 B6) | (refine al25 rfl rfl ?_; have kill := B6.out; intro b23 w7' hb23 v7 l7; have X7 := hid v7; have L7 := hid l7; clear v7 l7 kill) | (go_at_call 13; have kill := B5.out; refine (read13 _ _ _ l2 _ G5.out (by omega)).mono ?_; rintro e w6 ⟨rfl, l6⟩; rw [HR.out, HE.out, HN.out]; have V6 := hid (V5.out.below l6); have Y6 := hid (Y5.out.below l6); have B6 := hid (sq B5.out l6); clear l6 kill B5 V5 Y5) | (have kill := X4.out; refine st25 (r := R) X4.out L4.out hb21 rfl _ _ rfl rfl rfl ?_; intro w5 v5 l5; have V5 := hid v5; have Y5 := hid (Y3.out.below l5); have G5 := hid (G3.out.below l5); have B5 := hid (sq B3.out l5); clear v5 l5 kill X4 L4 Y3 G3 B3) | (refine al25 rfl rfl ?_; have kill := B3.out; intro b21 w4' hb21 v4 l4; have X4 := hid v4; have L4 := hid l4; clear v4 l4 kill) | (go_at_call 12; have kill := B1'.out; refine (read12 _ _ _ l2 _ G0.out (by omega)).mono ?_; rintro e w3' ⟨rfl, l3⟩; rw [HR.out, HE.out, HN.out]; have G3 := hid (G0.out.below l3); have Y3 := hid (Y1.out.below l3); have B3 := hid (sq B1'.out l3); clear l3 kill B1'))
          go_roundw
          case rel => exact ⟨t + 1, by omega, by go_num, Y8.out, B8.out⟩
          case measure => simp [intOf]; omega
        · go_wp2
          go_ret
          exact ⟨rfl, B1'.out⟩
theorem posReads_own : ownKnob Try.prog.godebug = none := by kernel_rfl
theorem posReads_laid : laidOutB Try.prog = true := by kernel_rfl

set_option maxRecDepth 100000 in
set_option maxHeartbeats 1000000 in
theorem posReads_lifted (os : Os) (started : os.Started) (H : Type) (enc : TypeId × Value → H) :
    ReturnsInHanded {} Try.checked os 4 .any (Rows.posReadsSpec.pre6 enc Try.prog Try.f4 Rows.posReadsRow.domain false) (Rows.posReadsSpec.post enc Try.prog Try.f4 false true false false) := by
  refine returnsInHanded_of_change (C := Try.checked) posReads_own started (by kernel_rfl) Try.func4
    (ChangeSpec.witness6 (enc := enc) (C := Try.checked) false ⟨#[], #[.slice none 0 0, .int .u8 0, .int .u8 0, .int .u8 0, .bool false, .bool false], []⟩ 8 (by kernel_rfl) (by kernel_rfl) (by kernel_rfl) (by kernel_rfl)) ?_
  intro W base args ds gs before hval0 hW hcnd _
  have hval : ∀ (j : Nat) t v, Try.f4.params[j]? = some t → args[j]? = some v → Value.okWide Try.prog W .any base t v := hval0
  have hW' := hW
  obtain ⟨p, q, hA0, hV, rfl, hfz, hnd⟩ := hW
  have hA : DataW.TrodAll enc Try.prog W 0 (fun _ => true) true Try.f4.params.toList args.toList ds p := hA0
  rw [Try.params4] at hA hval
  obtain ⟨v0, vs0, d0, ds0, p0, q0, hargs, rfl, rfl, h0, r0⟩ := trodAll_cons hA
  obtain ⟨v1, vs1, d1, ds1, p1, q1, rfl, rfl, rfl, h1, r1⟩ := trodAll_cons r0
  obtain ⟨v2, vs2, d2, ds2, p2, q2, rfl, rfl, rfl, h2, r2⟩ := trodAll_cons r1
  obtain ⟨v3, vs3, d3, ds3, p3, q3, rfl, rfl, rfl, h3, r3⟩ := trodAll_cons r2
  obtain ⟨v4, vs4, d4, ds4, p4, q4, rfl, rfl, rfl, h4, r4⟩ := trodAll_cons r3
  obtain ⟨v5, vs5, d5, ds5, p5, q5, rfl, rfl, rfl, h5, r5⟩ := trodAll_cons r4
  obtain ⟨rfl, rfl, rfl⟩ := trodAll_nil r5
  obtain rfl : args = #[v0, v1, v2, v3, v4, v5] := by cases args; simp_all
  obtain ⟨rfl, rfl⟩ := trodVars_none hV
  obtain ⟨x0, y0, z0, rfl⟩ := okWide_slice Try.underlying26 (hval 0 26 v0 rfl rfl)
  have k0 := h0
  have lt0 : ∀ x ∈ p0, x.block < W.heap.size := by obtain ⟨m, hm⟩ := k0; exact DataW.trod_lt m _ _ _ hm
  obtain ⟨a0, len0, cap0, l0, e0, w0⟩ : ∃ a len cap l, Value.slice x0 y0 z0 = .slice a len cap ∧ InB W a len cap l := by
    obtain ⟨fuel, hf⟩ := h0
    exact open_inB hf
  cases e0
  obtain ⟨a1, rfl, rfl, rfl, w1⟩ := open_int Try.underlying5 (hval 1 5 v1 rfl rfl) h1
  obtain ⟨a2, rfl, rfl, rfl, w2⟩ := open_int Try.underlying5 (hval 2 5 v2 rfl rfl) h2
  obtain ⟨a3, rfl, rfl, rfl, w3⟩ := open_int Try.underlying5 (hval 3 5 v3 rfl rfl) h3
  obtain ⟨a4, rfl, rfl, rfl⟩ := open_bool Try.underlying4 (hval 4 4 v4 rfl rfl) h4
  obtain ⟨a5, rfl, rfl, rfl⟩ := open_bool Try.underlying4 (hval 5 4 v5 rfl rfl) h5
  clear hA0 hval0
  refine (reads_walk x0 y0 z0 l0 a1 a2 a3 a4 a5 W w0 (by have := bounds_u8 w1; omega) (by have := bounds_u8 w2; omega) (by have := bounds_u8 w3; omega)).mono fun e W' ⟨he, bel⟩ => ?_
  subst he
  exact ⟨_, rfl, _, _, _, [], _, [], hW', trodAll_mk1 (shut_bool Try.underlying4 _), (trodAll_cons_mk (Below.trod posReads_laid (by kernel_rfl) (of_decide_eq_true (by kernel_rfl)) k0 bel lt0) (trodAll_cons_mk (shut_int Try.underlying5 w1) (trodAll_cons_mk (shut_int Try.underlying5 w2) (trodAll_cons_mk (shut_int Try.underlying5 w3) (trodAll_cons_mk (shut_bool Try.underlying4 _) (trodAll_cons_mk (shut_bool Try.underlying4 _) trodAll_mk0)))))), rfl, bel.frame _, fun h => by cases h⟩

theorem posReads_over : Rows.posReadsRow.holds Try.pinned (OpenSpec.ofChange Rows.posReadsSpec) :=
  OpenClaim.holds_of_wide 4 Try.f4 rfl rfl rfl rfl rfl rfl rfl ⟨rfl, rfl, rfl, rfl, rfl⟩ rfl rfl rfl rfl rfl (by kernel_rfl) Try.func4 (by kernel_rfl)
    (of_decide_eq_true (by kernel_rfl)) (by unfold Func.isWrapper; first | (rw [if_pos (by decide +kernel)]; kernel_rfl) | (rw [if_neg (by decide +kernel)]; exact ⟨rfl, rfl⟩))
    (fun os started H enc _ => posReads_lifted os started H enc)

/-- The statement. -/
theorem posReads_holds : Rows.PosReadsSaid := posReads_over
#print axioms posReads_holds
end Go.Proofs.Ythchgjndaeefmaa
