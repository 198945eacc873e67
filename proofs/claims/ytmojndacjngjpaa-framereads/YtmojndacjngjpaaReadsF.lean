/- FrameReads: any bytes, and a record's with one turned, or cut off, are the document's record, or refused. For every input. -/
import Derived.Test.YtmojndacjngjpaaReadC
import Derived.Test.YtmojndacjngjpaaTurned
import Derived.Test.YtmojndacjngjpaaRow
import Derived.Deep.CutRange
namespace Go.Proofs.Ytmojndacjngjpaa
open Go.ChangeShapes Go.WideShapes Go.ChangeAt Go.RowKit

theorem readR_any {w : World} {ao : Option Addr} {len cap : Nat} {zs : List Int} (h : Given w ao len cap zs) :
    Calls Try.prog 17 #[.slice ao len cap] w fun e w' => e = .returned (.tuple #[(recX zs).val, .int .i64 (lenX zs), .int .i64 (errX zs)]) ∧ Below w.heap.size w w' := by
  by_cases h2 : len < 2
  · exact rdA1 ao zs len cap w h.leq h2
  obtain ⟨b, o, rfl⟩ := h.row.some (by rw [h.leq]; omega)
  by_cases hm : zs.getD 0 0 = 165
  · obtain ⟨n, h1, hb⟩ := get1 h.byt
    by_cases hl : n + 6 ≤ len
    · by_cases h36 : 36 ≤ n
      · by_cases hB : (bodyX zs).getD 35 0 + 36 = (n : Int)
        · exact rdC b o zs len cap n w h hm h1 hb hl h36 hB
        · exact rdB b o zs len cap n w h hm h1 hb hl h36 hB
      · exact rdA4 b o zs len cap n w h (by omega) hm h1 hl (by omega)
    · exact rdA3 b o zs len cap n w h (by omega) hm h1 hb (by omega)
  · exact rdA2 b o zs len cap w h (by omega) hm
/-- A byte of a row of the call's own is written. -/
theorem Mk.put {W0 w : World} {ao : Option Addr} {n cap : Nat} {l : List Int} (h : Mk W0 w (.slice ao n cap) n l) (i : Nat) (hi : i < n) : ∃ g, ao = some ⟨g, 0, none⟩ ∧ w.cell? ⟨g, i, none⟩ = some (.int .u8 (l.getD i 0)) ∧ w.frozen? ⟨g, i, none⟩ = false ∧
    ∀ y, Mk W0 (w.setCell ⟨g, i, none⟩ (.int .u8 y)) (.slice ao n cap) n (l.set i y) := by
  have hlen := h.1.len
  have hat := h.1.at
  rcases h.1.2 with ⟨e, h0⟩ | ⟨g, cap', cur, e, hg, hc, h1, h2, h3, h4⟩
  · omega
  · cases e
    refine ⟨g, rfl, ?_, froz_of_head hc i, fun y => ⟨⟨by simp [hlen], .inr ⟨g, cap, cur.setIfInBounds i (.int .u8 y), rfl, hg, heap_setCell_same w g i cur 5 _ hc, h1, h2, by simp [h3], ?_⟩⟩, h.2.setCell hg _⟩⟩
    · rcases hat with h0 | ⟨b, o, he, hcl⟩
      · rw [h0] at hlen; simp at hlen; omega
      · cases he; have := hcl i (by omega); rwa [Nat.zero_add] at this
    · rw [Array.toList_setIfInBounds, List.take_set, h4, by8, by8, List.map_set]
theorem st8 {ops : Array Oper} {rest : List Oper} {op : Oper} {a : Act} {w : World} {Q : Exit → Act → World → Prop} {W0 : World} {g n cap : Nat} {l : List Int} (h : Mk W0 w (.slice (some ⟨g, 0, none⟩) n cap) n l) (j : Nat) (v : Int) (hj : j < n)
    (hgd : op.guard = none) (x y : Operand) (ho : op.op = .store 5 x y) (hx : a.eval x = .pointer (some ⟨g, j, none⟩)) (hy : a.eval y = .int .u8 v)
    (k : ∀ w', Mk W0 w' (.slice (some ⟨g, 0, none⟩) n cap) n (l.set j v) → wpList Try.prog ops Q rest (a.put op.dst undef) w') : wpList Try.prog ops Q (op :: rest) a w := by
  obtain ⟨g', e, c, f, s⟩ := h.put j hj
  cases e
  refine st_cs 5 [.int .u8 v] (b := g) (o := j) (fun i hi => ?_) (by kernel_rfl) (by simp; rfl) hgd x y ho hx hy rfl ?_
  · have : i = 0 := by simp at hi; exact hi
    subst this
    exact ⟨by rw [Nat.add_zero, c]; rfl, by rw [Nat.add_zero]; exact f⟩
  · exact k _ (s v)
set_option maxRecDepth 10000 in
set_option maxHeartbeats 4000000 in
theorem reads_walk (a0 : Option Addr) (N cap0 : Nat) (raw : List Int) (d k s m t x : Int) (cut again : Bool) (w : World) (h0 : InB w a0 N cap0 raw) (hd : 0 ≤ d ∧ d < 256) (hk : 0 ≤ k ∧ k < 256) (hs : 0 ≤ s ∧ s < 256) (hm : 0 ≤ m ∧ m < 65536) (ht : 0 ≤ t ∧ t < 256) (hx0 : 0 ≤ x ∧ x < 256) (h200 : N ≤ 200) :
    Calls Try.prog 4 #[.slice a0 N cap0, .int .u8 d, .int .u8 k, .int .u8 s, .int .u16 m, .int .u8 t, .int .u8 x, .bool cut, .bool again] w fun e w' => e = .returned (.bool true) ∧ Below w.heap.size w w' := by
  obtain ⟨r, hr⟩ : ∃ r, seatR d k s m = r := ⟨_, rfl⟩
  have HR := hid hr
  have HT : Hid (rightB r = true) := by unfold Hid; rw [← hr]; exact seat_right hk.1 hk.2 hs.1 hs.2
  have HO : Hid r.Ok := by unfold Hid; rw [← hr]; exact seat_ok
  obtain ⟨n, hn⟩ : ∃ n, 42 + r.pan.size = n := ⟨_, rfl⟩
  have HN := hid hn
  have hp := (rt_of HT.out).size
  have hn1 : n ≤ 61 := by omega
  have hn2 : 42 ≤ n := by omega
  have HLN : Hid ((putL r).length = n) := by unfold Hid; rw [putL_len, hn]
  have HBY : Hid (Byt (putL r)) := hid (putL_byt hp)
  obtain ⟨i, hi⟩ : ∃ i : Nat, t % (n : Int) = (i : Int) := ⟨(t % (n : Int)).toNat, by have := Int.emod_nonneg t (b := (n : Int)) (by omega); omega⟩
  have hin : i < n := by have := Int.emod_lt_of_pos t (b := (n : Int)) (by omega); omega
  have hi' : t.tmod (n : Int) = (i : Int) := by rw [Int.tmod_eq_emod_of_nonneg ht.1, hi]
  obtain ⟨z, hz⟩ : ∃ z, (putL r).getD i 0 = z := ⟨_, rfl⟩
  have hzb := byt_getD HBY.out i
  rw [hz] at hzb
  obtain ⟨y, hy⟩ : ∃ y, bits .xor .u8 z x = y := ⟨_, rfl⟩
  have hyb := (xor8 (s := x) hzb hx0).1
  rw [hy] at hyb
  have HZ := hid hz
  have HY := hid hyb
  have HB4 : Hid (Byt ((putL r).set i y)) := hid (byt_set HBY.out hyb)
  obtain ⟨d0, d1⟩ := hd
  obtain ⟨k0, k1⟩ := hk
  obtain ⟨s0, s1⟩ := hs
  obtain ⟨m0, m1⟩ := hm
  obtain ⟨t0, t1⟩ := ht
  have G0 := hid h0
  have e3 : wrap64 t = t := by have := IntKind.wrap_i64 t; unfold wrap64; omega
  have e4 : IntKind.i64.wrap (i : Int) = (i : Int) := by rw [IntKind.wrap_i64]; omega
  have e6 : (i : Int).toNat = i := by omega
  have j1 : (0 : Int) ≤ (i : Int) := by omega
  have j2 : (i : Int) < (n : Int) := by omega
  have j3 : ¬ (n : Int) = 0 := by omega
  have j4 : ¬ n = 0 := by omega
  have j5 : ¬ (200 : Int) < (N : Int) := by omega
  have j6 : decide ((200 : Int) < (N : Int)) = false := by simp; omega
  clear hr hn hp hz hzb hyb h0
  go_enter Try.func4, Try.ntmps4
  go_upto_region 8 with (first | (go_at_call 11; refine (putR_yes r _ HT.out HO.out n HN.out).mono ?_; rintro e w3 ⟨ao3, cap3, rfl, d3⟩; obtain ⟨g, rfl, c3, f3, s3⟩ := d3.put i hin; rw [HZ.out] at c3; have S3 := hid (s3 y); have C3 := hid d3.1.caps; clear d3 s3) | (go_at_call 9; refine (rec9 d k s m _ d0 d1 k0 k1 s0 s1 m0 m1).mono ?_; rintro e w2 ⟨rfl, l2⟩; rw [HR.out]; have L2 := hid (sq L1.out l2); clear l2) | (go_at_call 8; refine (known8 _).mono ?_; rintro e w1 ⟨rfl, l1⟩; have L1 := hid l1; clear l1))
  clear c3 f3
  generalize w3.setCell ⟨g, i, none⟩ (.int .u8 y) = w4 at *
  go_cut [63] from 58 to 62 (fun v wx => v = .bool again ∧ w4 = wx)
  case first =>
    have e7 : (6 : Int) < (n : Int) := by omega
    cases again <;> go_wp2 <;> go_meet <;> exact ⟨rfl, rfl⟩
  case rest =>
    obtain ⟨rfl, rfl⟩ := hcut
    go_upto_if 63 with fail
    go_cut [22, 23] from 51 to 98 (fun _ _ wx => ∃ l, Mk w2 wx (.slice (some ⟨g, 0, none⟩) n cap3) n l ∧ Byt l)
    case first =>
      cases again with
      | false =>
        go_wp2
        go_meet
        exact ⟨_, S3.out, HB4.out⟩
      | true =>
        obtain ⟨C1, C2, C4⟩ := C3.out
        obtain ⟨l, hl⟩ : ∃ l, (putL r).set i y = l := ⟨_, rfl⟩
        rw [hl] at S3 HB4
        have q1 : (n : Int) - 4 ≤ (cap3 : Int) := by omega
        have q2 : (2 : Int) ≤ (n : Int) - 4 := by omega
        have q3 : ¬ cap3 = 2 := by omega
        have q4 : ((n : Int) - 4 - 2).toNat = n - 6 := by omega
        have HLL : Hid (l.length = n) := hid S3.out.1.len
        have HGV : Hid (Given w4 (some ⟨g, 2, none⟩) (n - 6) (cap3 - 2) (pc l 2 (n - 6))) := hid ⟨pc_len (by rw [HLL.out]; omega), byt_pc HB4.out _ _, by have := (S3.out.given HB4.out).row.piece 2 (n - 6) (by rw [HLL.out]; omega); rwa [Nat.zero_add] at this, by omega, by omega⟩
        obtain ⟨c, hc⟩ : ∃ c, crcL (pc l 2 (n - 6)) = c := ⟨_, rfl⟩
        have hcw := crcL_w32 (byt_pc HB4.out 2 (n - 6))
        rw [hc] at hcw
        obtain ⟨hc0, hc1⟩ : 0 ≤ c ∧ c < 4294967296 := hcw
        have HC := hid hc
        have p1 : ((n : Int) - 4).toNat = n - 4 := by omega
        have p2 : ((n : Int) - 3).toNat = n - 3 := by omega
        have p3 : ((n : Int) - 2).toNat = n - 2 := by omega
        have p4 : ((n : Int) - 1).toNat = n - 1 := by omega
        clear C1 hl hc
        go_wp2_with (first | (refine st8 D7.out (n - 1) (c % 256) (by omega) rfl _ _ rfl rfl rfl ?_; intro w8 d8; have D8 := hid d8; clear d8) | (refine st8 D6.out (n - 2) (c / 256 % 256) (by omega) rfl _ _ rfl rfl rfl ?_; intro w7 d7; have D7 := hid d7; clear d7) | (refine st8 D5.out (n - 3) (c / 65536 % 256) (by omega) rfl _ _ rfl rfl rfl ?_; intro w6 d6; have D6 := hid d6; clear d6) | (refine st8 S3.out (n - 4) (c / 16777216) (by omega) rfl _ _ rfl rfl rfl ?_; intro w5 d5; have D5 := hid d5; clear d5) | (go_at_call 16; refine (crc_gv HGV.out).mono ?_; rintro e w' ⟨rfl, rfl⟩; rw [HC.out]))
        go_meet
        exact ⟨_, D8.out, byt_set (byt_set (byt_set (byt_set HB4.out (by omega)) (by omega)) (by omega)) (by omega)⟩
    case rest =>
      obtain ⟨l, d4, b4⟩ := hcut
      have D4 := hid d4
      have B4 := hid b4
      clear d4 b4 S3 HB4
      generalize wc = w4 at *
      go_upto_if 99 with fail
      go_cut [19] from 51 to 102 (fun v wx => ∃ nf zs, v = .slice (some ⟨g, 0, none⟩) nf cap3 ∧ Given wx (some ⟨g, 0, none⟩) nf cap3 zs ∧ Below w.heap.size w wx)
      case first =>
        have q5 : (i : Int) ≤ (cap3 : Int) := by have := C3.out.2.1; omega
        cases cut with
        | false =>
          go_wp2
          go_meet
          exact ⟨n, l, rfl, D4.out.given B4.out, sq L2.out D4.out.2⟩
        | true =>
          go_wp2
          go_meet
          exact ⟨i, l.take i, rfl, (D4.out.given B4.out).cut i (by omega), sq L2.out D4.out.2⟩
      case rest =>
        obtain ⟨nf, zs, rfl, gz, lz⟩ := hcut
        have GZ := hid gz
        have LZ := hid lz
        clear gz lz D4 B4
        generalize wc = wA at *
        go_wp2_with (first | (at_builtin; have M5 : Mk wA (wA.alloc (Obj.cells #[Value.int IntKind.u8 165] 5)) (.slice (some ⟨wA.heap.size, 0, none⟩) 1 1) 1 [165] := Mk.new wA [165] 1 rfl (by omega); have R5 : RowAt (wA.alloc (Obj.cells #[Value.int IntKind.u8 165] 5)) a0 raw := row_mono (sq LZ.out (bel1 wA _)) G0.out.giv.row; refine app_row M5.1 R5 G0.out.giv.leq G0.out.nil M5.2.size (by omega) rfl _ _ rfl rfl rfl ?_; intro ao6 cap6 w6 r6 t6; have D6 := hid (M5.next r6 t6); clear M5 R5 r6 t6))
        have L67 := hid (sq D6.out.2 (bel1 w6 (.cells #[Value.slice a0 N cap0, Value.slice (some ⟨g, 0, none⟩) nf cap3, Value.slice ao6 (1 + N) cap6] 30)))
        have L7 := hid (sq LZ.out L67.out)
        have hq : w6.heap.size < (w6.alloc (.cells #[Value.slice a0 N cap0, Value.slice (some ⟨g, 0, none⟩) nf cap3, Value.slice ao6 (1 + N) cap6] 30)).heap.size := by simp
        have HC7 : Hid (∀ j, j < 3 → ∃ ao len cap xs, (w6.alloc (.cells #[Value.slice a0 N cap0, Value.slice (some ⟨g, 0, none⟩) nf cap3, Value.slice ao6 (1 + N) cap6] 30)).cell? ⟨w6.heap.size, j, none⟩ = some (.slice ao len cap) ∧ Given (w6.alloc (.cells #[Value.slice a0 N cap0, Value.slice (some ⟨g, 0, none⟩) nf cap3, Value.slice ao6 (1 + N) cap6] 30)) ao len cap xs) := by
          unfold Hid
          intro j hj
          have h3 : j = 0 ∨ j = 1 ∨ j = 2 := by omega
          rcases h3 with rfl | rfl | rfl
          · exact ⟨_, _, _, raw, cell_of_head (heap_alloc_new w6 _) 0, G0.out.giv.below L7.out⟩
          · exact ⟨_, _, _, zs, cell_of_head (heap_alloc_new w6 _) 1, GZ.out.below L67.out⟩
          · exact ⟨_, _, _, [165] ++ raw, cell_of_head (heap_alloc_new w6 _) 2, (D6.out.given (byt_app byt_a5 G0.out.giv.byt)).below (bel1 w6 _)⟩
        clear L67 D6 GZ
        generalize w6.heap.size = q at *
        generalize w6.alloc (.cells #[Value.slice a0 N cap0, Value.slice (some ⟨g, 0, none⟩) nf cap3, Value.slice ao6 (1 + N) cap6] 30) = w7 at *
        go_loopw [110] (fun i wr => ∃ (j : Nat), j ≤ 3 ∧ i = .int .i64 (j : Int) ∧ Below w7.heap.size w7 wr) (fun i _ => 3 - (intOf i).toNat)
        case atStart => exact ⟨0, by omega, rfl, Below.refl _ _⟩
        case round =>
          obtain ⟨j, hj, rfl, hB⟩ := hrel
          have LB := hid hB
          clear hB
          by_cases hlt : j < 3
          · obtain ⟨ao, len, cap, xs, hc, hg⟩ := HC7.out j hlt
            have ck : wr.cell? ⟨q, j, none⟩ = some (.slice ao len cap) := by rw [LB.out.cell (p := ⟨q, j, none⟩) hq]; exact hc
            have HG := hid (hg.below LB.out)
            obtain ⟨rc, hrc⟩ : ∃ rc, recX xs = rc := ⟨_, rfl⟩
            obtain ⟨ln, hln⟩ : ∃ ln, lenX xs = ln := ⟨_, rfl⟩
            obtain ⟨er, her⟩ : ∃ er, errX xs = er := ⟨_, rfl⟩
            have HRC := hid hrc
            have HLX := hid hln
            have HER := hid her
            have qg := fun u v w => (eqg29 rc rc u v w).2
            have qb := fun w => (bin29 rc w).2
            have i1 : (j : Int) < 3 := by omega
            have i2 : (0 : Int) ≤ (j : Int) := by omega
            clear hc hg hrc hln her
            go_wp2_with (first | (go_at_call 17; have R9 := V9.out.lt; refine (readR_any G9.out).mono ?_; rintro e w10 ⟨rfl, l10⟩; rw [HRC.out, HLX.out, HER.out]; have V10 := hid (V9.out.below l10); have L10 := hid (sq L9.out l10); clear l10 R9) | (go_at_call 14; refine (read_any HG.out).mono ?_; rintro e w8 ⟨rfl, l8⟩; rw [HRC.out, HLX.out, HER.out]; have L8 := hid (sq LB.out l8); have G8 := hid (HG.out.below l8); clear l8) | (refine st29 (r := rc) X11.out L11z.out hb11 rfl _ _ rfl rfl rfl ?_; intro w12 v12 l12; have V12 := hid (V10.out.below l12); have X12 := hid v12; have L12 := hid (sq L10.out l12); clear v12 l12) | (refine al29 rfl rfl ?_; intro b11 w11 hb11 v11 l11; have GG := V10; have X11 := hid v11; have L11z := hid l11; clear v11 l11 GG) | (refine st29 (r := rc) Y9.out L9z.out hb9 rfl _ _ rfl rfl rfl ?_; intro w9 v9 l9; have V9 := hid v9; have L9 := hid (sq L8.out l9); have G9 := hid (G8.out.below l9); clear v9 l9) | (refine al29 rfl rfl ?_; intro b9 w9 hb9 v9 l9; have Y9 := hid v9; have L9z := hid l9; clear v9 l9) | refine ldw29 X12.out _ rfl (by kernel_rfl) rfl ?_ | refine ldw29 V12.out _ rfl (by kernel_rfl) rfl ?_)
            go_roundw
            case rel => exact ⟨j + 1, by omega, by go_num, L12.out⟩
            case measure => simp [intOf]; omega
          · have ej : j = 3 := by omega
            subst ej
            go_wp2
            go_ret
            exact ⟨rfl, sq L7.out LB.out⟩
set_option maxRecDepth 10000 in
set_option maxHeartbeats 1000000 in
theorem reads_long (a0 : Option Addr) (N cap0 : Nat) (d k s m t x : Int) (cut again : Bool) (w : World) (h200 : ¬ N ≤ 200) :
    Calls Try.prog 4 #[.slice a0 N cap0, .int .u8 d, .int .u8 k, .int .u8 s, .int .u16 m, .int .u8 t, .int .u8 x, .bool cut, .bool again] w fun e w' => e = .returned (.bool true) ∧ Below w.heap.size w w' := by
  have i2 : (200 : Int) < (N : Int) := by omega
  go_enter Try.func4, Try.ntmps4
  go_wp2_with (go_at_call 8; refine (known8 _).mono ?_; rintro e w1 ⟨rfl, l1⟩; have L1 := hid l1; clear l1)
  go_ret
  exact ⟨rfl, L1.out⟩
theorem reads_all (a0 : Option Addr) (N cap0 : Nat) (raw : List Int) (d k s m t x : Int) (cut again : Bool) (w : World) (h0 : InB w a0 N cap0 raw) (hd : 0 ≤ d ∧ d < 256) (hk : 0 ≤ k ∧ k < 256) (hs : 0 ≤ s ∧ s < 256) (hm : 0 ≤ m ∧ m < 65536) (ht : 0 ≤ t ∧ t < 256) (hx0 : 0 ≤ x ∧ x < 256) :
    Calls Try.prog 4 #[.slice a0 N cap0, .int .u8 d, .int .u8 k, .int .u8 s, .int .u16 m, .int .u8 t, .int .u8 x, .bool cut, .bool again] w fun e w' => e = .returned (.bool true) ∧ Below w.heap.size w w' := by
  by_cases h200 : N ≤ 200
  · exact reads_walk a0 N cap0 raw d k s m t x cut again w h0 hd hk hs hm ht hx0 h200
  · exact reads_long a0 N cap0 d k s m t x cut again w h200
theorem frameReads_own : ownKnob Try.prog.godebug = none := by kernel_rfl
theorem frameReads_laid : laidOutB Try.prog = true := by kernel_rfl

set_option maxRecDepth 100000 in
set_option maxHeartbeats 1000000 in
theorem frameReads_lifted (os : Os) (started : os.Started) (H : Type) (enc : TypeId × Value → H) :
    ReturnsInHanded {} Try.checked os 4 .any (Rows.frameReadsSpec.pre6 enc Try.prog Try.f4 Rows.frameReadsRow.domain false) (Rows.frameReadsSpec.post enc Try.prog Try.f4 false true false false) := by
  refine returnsInHanded_of_change (C := Try.checked) frameReads_own started (by kernel_rfl) Try.func4
    (ChangeSpec.witness6 (enc := enc) (C := Try.checked) false ⟨#[], #[.slice none 0 0, .int .u8 0, .int .u8 0, .int .u8 0, .int .u16 0, .int .u8 0, .int .u8 0, .bool false, .bool false], []⟩ 8 (by kernel_rfl) (by kernel_rfl) (by kernel_rfl) (by kernel_rfl)) ?_
  intro W base args ds gs before hval0 hW hcnd _
  have hval : ∀ (j : Nat) t v, Try.f4.params[j]? = some t → args[j]? = some v → Value.okWide Try.prog W .any base t v := hval0
  have hW' := hW
  obtain ⟨p, q, hA0, hV, rfl, hfz, hnd⟩ := hW
  have hA : DataW.TrodAll enc Try.prog W 0 (fun _ => true) true Try.f4.params.toList args.toList ds p := hA0
  rw [Try.params4] at hA hval
  obtain ⟨v0, vs0, d0, ds0, p0, q0, hargs, rfl, rfl, h0, r0⟩ := trodAll_cons hA
  obtain ⟨v1, vs1, d1, ds1, p1, q1, rfl, rfl, rfl, h1, r1⟩ := trodAll_cons r0
  obtain ⟨v2, vs2, d2, ds2, p2, q2, rfl, rfl, rfl, h2, r2⟩ := trodAll_cons r1
  obtain ⟨v3, vs3, d3, ds3, p3, q3, rfl, rfl, rfl, h3, r3⟩ := trodAll_cons r2
  obtain ⟨v4, vs4, d4, ds4, p4, q4, rfl, rfl, rfl, h4, r4⟩ := trodAll_cons r3
  obtain ⟨v5, vs5, d5, ds5, p5, q5, rfl, rfl, rfl, h5, r5⟩ := trodAll_cons r4
  obtain ⟨v6, vs6, d6, ds6, p6, q6, rfl, rfl, rfl, h6, r6⟩ := trodAll_cons r5
  obtain ⟨v7, vs7, d7, ds7, p7, q7, rfl, rfl, rfl, h7, r7⟩ := trodAll_cons r6
  obtain ⟨v8, vs8, d8, ds8, p8, q8, rfl, rfl, rfl, h8, r8⟩ := trodAll_cons r7
  obtain ⟨rfl, rfl, rfl⟩ := trodAll_nil r8
  obtain rfl : args = #[v0, v1, v2, v3, v4, v5, v6, v7, v8] := by cases args; simp_all
  obtain ⟨rfl, rfl⟩ := trodVars_none hV
  obtain ⟨x0, y0, z0, rfl⟩ := okWide_slice Try.underlying30 (hval 0 30 v0 rfl rfl)
  have k0 := h0
  have lt0 : ∀ x ∈ p0, x.block < W.heap.size := by obtain ⟨m, hm⟩ := k0; exact DataW.trod_lt m _ _ _ hm
  obtain ⟨a0, len0, cap0, l0, e0, w0⟩ : ∃ a len cap l, Value.slice x0 y0 z0 = .slice a len cap ∧ InB W a len cap l := by
    obtain ⟨fuel, hf⟩ := h0
    exact open_inB hf
  cases e0
  obtain ⟨a1, rfl, rfl, rfl, w1⟩ := open_int Try.underlying5 (hval 1 5 v1 rfl rfl) h1
  obtain ⟨a2, rfl, rfl, rfl, w2⟩ := open_int Try.underlying5 (hval 2 5 v2 rfl rfl) h2
  obtain ⟨a3, rfl, rfl, rfl, w3⟩ := open_int Try.underlying5 (hval 3 5 v3 rfl rfl) h3
  obtain ⟨a4, rfl, rfl, rfl, w4⟩ := open_int Try.underlying22 (hval 4 22 v4 rfl rfl) h4
  obtain ⟨a5, rfl, rfl, rfl, w5⟩ := open_int Try.underlying5 (hval 5 5 v5 rfl rfl) h5
  obtain ⟨a6, rfl, rfl, rfl, w6⟩ := open_int Try.underlying5 (hval 6 5 v6 rfl rfl) h6
  obtain ⟨a7, rfl, rfl, rfl⟩ := open_bool Try.underlying4 (hval 7 4 v7 rfl rfl) h7
  obtain ⟨a8, rfl, rfl, rfl⟩ := open_bool Try.underlying4 (hval 8 4 v8 rfl rfl) h8
  clear hA0 hval0
  refine (reads_all x0 y0 z0 l0 a1 a2 a3 a4 a5 a6 a7 a8 W w0 (by have := bounds_u8 w1; omega) (by have := bounds_u8 w2; omega) (by have := bounds_u8 w3; omega) (by have := bounds_u16 w4; omega) (by have := bounds_u8 w5; omega) (by have := bounds_u8 w6; omega)).mono fun e W' ⟨he, bel⟩ => ?_
  subst he
  exact ⟨_, rfl, _, _, _, [], _, [], hW', trodAll_mk1 (shut_bool Try.underlying4 _), (trodAll_cons_mk (Below.trod frameReads_laid (by kernel_rfl) (of_decide_eq_true (by kernel_rfl)) k0 bel lt0) (trodAll_cons_mk (shut_int Try.underlying5 w1) (trodAll_cons_mk (shut_int Try.underlying5 w2) (trodAll_cons_mk (shut_int Try.underlying5 w3) (trodAll_cons_mk (shut_int Try.underlying22 w4) (trodAll_cons_mk (shut_int Try.underlying5 w5) (trodAll_cons_mk (shut_int Try.underlying5 w6) (trodAll_cons_mk (shut_bool Try.underlying4 _) (trodAll_cons_mk (shut_bool Try.underlying4 _) trodAll_mk0))))))))), rfl, bel.frame _, fun h => by cases h⟩

theorem frameReads_over : Rows.frameReadsRow.holds Try.pinned (OpenSpec.ofChange Rows.frameReadsSpec) :=
  OpenClaim.holds_of_wide 4 Try.f4 rfl rfl rfl rfl rfl rfl rfl ⟨rfl, rfl, rfl, rfl, rfl⟩ rfl rfl rfl rfl rfl (by kernel_rfl) Try.func4 (by kernel_rfl)
    (of_decide_eq_true (by kernel_rfl)) (by unfold Func.isWrapper; first | (rw [if_pos (by decide +kernel)]; kernel_rfl) | (rw [if_neg (by decide +kernel)]; exact ⟨rfl, rfl⟩))
    (fun os started H enc _ => frameReads_lifted os started H enc)

/-- The statement. -/
theorem frameReads_holds : Rows.FrameReadsSaid := frameReads_over
#print axioms frameReads_holds
end Go.Proofs.Ytmojndacjngjpaa
