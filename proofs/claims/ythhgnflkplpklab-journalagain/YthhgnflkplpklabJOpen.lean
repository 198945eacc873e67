/- Open: the records that are on a disk. -/
import Derived.Test.YthhgnflkplpklabJRecs
namespace Go.Proofs.Ythhgnflkplpklab
set_option maxRecDepth 20000
open Go.ChangeShapes Go.WideShapes Go.ChangeAt Go.RowKit
open Dsc (Dk Sec hid sq bel1)
open Frm (Rc putL rightB bytesL num Given Mk Row RowAt RV al29 st29 ld29)

theorem frs_few (l : List Rc) : 42 * l.length ≤ (frs l).length := by
  induction l with
  | nil => simp [frs]
  | cons r l ih => rw [frs_cons, List.length_append, Frm.putL_len, List.length_cons]; omega
theorem take_full (l : List Rc) {k : Nat} (h : k = l.length) : l.take k = l := by subst h; simp
set_option maxHeartbeats 2000000 in
theorem recs_any {w : World} {ao : Option Addr} {len cap : Nat} {l : List Rc} (h : Given w ao len cap (frs l)) (hF : Flat ao len cap) (hg : Good l) (hs : len ≤ 200000) :
    Calls Try.prog 19 #[.slice ao len cap] w fun e w' => ∃ ao' cap', e = .returned (.tuple #[.slice ao' l.length cap', .int .i64 (len : Int)]) ∧ MkR w w' (.slice ao' l.length cap') l.length l := by
  have hl := h.leq
  have c1 := h.cap1
  have c2 := h.cap2
  have hfew := frs_few l
  have H := hid h
  have HG := hid hg
  clear h hg
  rcases hF with ⟨rfl, rfl, rfl⟩ | ⟨b, off, rfl⟩
  · have e0 : l = [] := List.length_eq_zero_iff.1 (by omega)
    subst e0
    have HR := hid (Frm.read_any H.out)
    go_enter Try.func19, Try.ntmps19
    go_wp2
    go_loopw [4, 5] (fun o u wr => u = .int .i64 0 ∧ o = .slice none 0 0 ∧ wr = w) (fun _ _ _ => 0)
    case atStart => exact ⟨rfl, rfl, rfl⟩
    case round =>
      obtain ⟨rfl, rfl, rfl⟩ := hrel
      go_wp2_with (first | (go_at_call 30; refine HR.out.mono ?_; rintro e w1 ⟨rfl, k1⟩; rw [show Frm.errX (frs []) = 23 from rfl]; have K1 := hid k1; clear k1) | (refine st29 V2.out L2.out hb2 rfl _ _ rfl rfl rfl ?_; intro w3 v3 l3; have V3 := hid v3; have L3 := hid l3; clear v3 l3) | (refine al29 rfl rfl ?_; intro b2 w2 hb2 v2 l2; have V2 := hid v2; have L2 := hid l2; clear v2 l2))
      go_ret2
      exact ⟨none, 0, rfl, (MkR.nil _).more (sq K1.out L3.out)⟩
  · go_enter Try.func19, Try.ntmps19
    go_wp2
    go_loopw [4, 5] (fun o u wr => ∃ (k N : Nat) (ao : Option Addr) (cap : Nat), k ≤ l.length ∧ (frs (l.take k)).length = N ∧ u = .int .i64 (N : Int) ∧ o = .slice ao k cap ∧ MkR w wr (.slice ao k cap) k (l.take k)) (fun _ u _ => len - (intOf u).toNat)
    case atStart => exact ⟨0, 0, none, 0, by omega, rfl, rfl, rfl, MkR.nil _⟩
    case round =>
      obtain ⟨k, N, ao3, cap3, hk, hN, rfl, rfl, d3⟩ := hrel
      have D3 := hid d3
      clear d3
      have hNl : N ≤ len := by
        have e : frs l = frs (l.take k) ++ frs (l.drop k) := by rw [← frs_app, List.take_append_drop]
        have := congrArg List.length e
        rw [List.length_append] at this; omega
      by_cases hlt : k < l.length
      · obtain ⟨r, hr⟩ : ∃ r, l[k]? = some r := ⟨l[k], by simp [hlt]⟩
        obtain ⟨x1, x2, x3⟩ := next_yes HG.out hr
        have hT := frs_take hr
        have hTl : (frs (l.take (k + 1))).length = N + (putL r).length := by rw [hT, List.length_append, hN]
        have hNl2 : N + (putL r).length ≤ len := by
          have e : frs l = frs (l.take (k + 1)) ++ frs (l.drop (k + 1)) := by rw [← frs_app, List.take_append_drop]
          have := congrArg List.length e
          rw [List.length_append] at this; omega
        have hP : 42 ≤ (putL r).length := by rw [Frm.putL_len]; omega
        have hTk : l.take (k + 1) = l.take k ++ [r] := by rw [List.take_add_one, hr]; rfl
        obtain ⟨P, hPP⟩ : ∃ P, (putL r).length = P := ⟨_, rfl⟩
        rw [hPP] at x3 hTl hNl2 hP
        rw [hN] at x1 x2 x3
        have X := hid (And.intro x1 (And.intro x2 x3))
        have HT := hid (And.intro hTl hTk)
        clear x1 x2 x3 hTl hTk hT hPP hr
        have hcN : ¬ cap = N := by omega
        have G := hid (Given.sub (H.out.below D3.out.bel) N hNl)
        go_wp2_with (first | (at_builtin; refine app_recs (D3.out.more B7.out) R7.out (m := k + 1) rfl (by omega) rfl _ _ rfl rfl rfl ?_; intro ao8 cap8 w8 d8; have D8 := hid d8; clear d8) | (refine bsR (r := r) rfl _ rfl rfl ?_; intro ao7 w7 r7 b7; have R7 := hid r7; have B7 := hid (sq B6.out b7); clear r7 b7) | refine ld29 V6.out rfl _ rfl rfl ?_ | (refine st29 (r := r) V5.out L5.out hb5 rfl _ _ rfl rfl rfl ?_; intro w6 v6 l6; have V6 := hid v6; have B6 := hid (sq K4.out l6); clear v6 l6) | (refine al29 rfl rfl ?_; intro b5 w5 hb5 v5 l5; have V5 := hid v5; have L5 := hid l5; clear v5 l5) | (go_at_call 30; refine (Frm.read_any G.out).mono ?_; rintro e w4 ⟨rfl, k4⟩; rw [X.out.1, X.out.2.1, X.out.2.2]; have K4 := hid k4; clear k4))
        go_roundw
        case rel => exact ⟨k + 1, N + P, ao8, cap8, by omega, HT.out.1, by go_num, rfl, by have := D8.out; rw [HT.out.2]; exact this⟩
        case measure => simp [intOf]; omega
      · have ek : k = l.length := by omega
        subst ek
        rw [List.take_length] at hN
        have eN : N = len := by omega
        subst eN
        have X := hid (next_no (l := l))
        rw [hN] at X
        have hnl : (frs l).drop N = [] := by rw [← hN]; simp
        by_cases hc : cap = N
        · subst hc
          have G : Hid (Given wr (some ⟨b, off, none⟩) 0 0 ((frs l).drop cap)) := by
            unfold Hid; rw [hnl]; exact ⟨rfl, (fun x hx => by cases hx), .inl rfl, by omega, by omega⟩
          go_wp2_with (first | (go_at_call 30; refine (Frm.read_any G.out).mono ?_; rintro e w4 ⟨rfl, k4⟩; rw [X.out]; have K4 := hid k4; clear k4) | (refine st29 V5.out L5.out hb5 rfl _ _ rfl rfl rfl ?_; intro w6 v6 l6; have V6 := hid v6; have B6 := hid (sq K4.out l6); clear v6 l6) | (refine al29 rfl rfl ?_; intro b5 w5 hb5 v5 l5; have V5 := hid v5; have L5 := hid l5; clear v5 l5))
          go_ret2
          refine ⟨ao3, cap3, rfl, ?_⟩
          have := D3.out.more B6.out
          rwa [List.take_length] at this
        · have G : Hid (Given wr (some ⟨b, off + N, none⟩) 0 (cap - N) ((frs l).drop N)) := by
            unfold Hid
            have := Given.sub (H.out.below D3.out.bel) N hNl
            rwa [Nat.sub_self] at this
          go_wp2_with (first | (go_at_call 30; refine (Frm.read_any G.out).mono ?_; rintro e w4 ⟨rfl, k4⟩; rw [X.out]; have K4 := hid k4; clear k4) | (refine st29 V5.out L5.out hb5 rfl _ _ rfl rfl rfl ?_; intro w6 v6 l6; have V6 := hid v6; have B6 := hid (sq K4.out l6); clear v6 l6) | (refine al29 rfl rfl ?_; intro b5 w5 hb5 v5 l5; have V5 := hid v5; have L5 := hid l5; clear v5 l5))
          go_ret2
          refine ⟨ao3, cap3, rfl, ?_⟩
          have := D3.out.more B6.out
          rwa [List.take_length] at this

theorem n73 : (Try.prog.info? 61).map (fun i => (i.zero, i.size)) = some (some (.agg #[.pointer none, .int .i64 0, .int .i64 0, .int .i64 0, .int .i64 0, .int .i64 0, .int .i64 0]), 7) := by kernel_rfl
theorem zero73 (w : World) : (zeroValue 61).run Try.prog w = .ok (.agg #[.pointer none, .int .i64 0, .int .i64 0, .int .i64 0, .int .i64 0, .int .i64 0, .int .i64 0]) w := (zero_of_info n73).1 w
section
variable {ops : Array Oper} {rest : List Oper} {op : Oper} {a : Act} {w : World} {Q : Exit → Act → World → Prop}
theorem bd73 {p : Nat} {h : Hd} (hgd : op.guard = none) (x y : Operand) (ho : op.op = .build 61 #[(0, x), (1, y)]) (hx : a.eval x = .pointer (some ⟨p, 0, none⟩)) (hy : a.eval y = h.val)
    (hh : wpList Try.prog ops Q rest (a.put op.dst (.agg (logC p h 0))) w) : wpList Try.prog ops Q (op :: rest) a w :=
  wpList_plain hgd fun K hK => by
    have hz0 := zero73 w
    unfold Oper.wp execOp
    simp only [ho, List.map_toArray, List.map_cons, List.map_nil, hx, hy]
    simp [Instr.build, hz0, go_sem, Hd.val]
    exact hK _ _ hh
theorem bx73 {p : Nat} {h : Hd} {n : Nat} (hgd : op.guard = none) (x : Operand) (ho : op.op = .box 61 x) (hx : a.eval x = .agg (logC p h n))
    (hh : ∀ q w', w.heap.size ≤ q → LogAt w' q p h n → Below w.heap.size w w' → wpList Try.prog ops Q rest (a.put op.dst (.pointer (some ⟨q, 0, none⟩))) w') : wpList Try.prog ops Q (op :: rest) a w :=
  wpList_plain hgd fun K hK => by
    unfold Oper.wp execOp
    simp only [ho, hx]
    simp [Instr.box, newVar, newRow, go_sem, Value.cells]
    exact hK _ _ (hh _ _ (Nat.le_refl _) (heap_alloc_new w (.cells (logC p h n) 61)) (bel1 _ _))
end
theorem Row.giv {B : Nat} {w : World} {ao : Option Addr} {n cap : Nat} {l : List Int} (h : Row B w (.slice ao n cap) n l) (hb : Frm.Byt l) : Given w ao n cap l := ⟨h.len, hb, h.at, h.caps.2.1, h.caps.2.2⟩
section
variable {w0 w : World} {p q : Nat} {d : Dk} {h : Hd} {n : Nat}
theorem Kin.drew (w : World) : Kin w w.drew := ⟨rfl, rfl, rfl, Nat.le_refl _, fun _ _ _ _ _ _ _ _ _ => rfl⟩
theorem LogAt.set (k : LogAt w q p h n) (i : Nat) (v : Value) (h' : Hd) (m : Nat) (e : (logC p h n).setIfInBounds i v = logC p h' m) : LogAt (w.setCell ⟨q, i, none⟩ v) q p h' m := by
  unfold LogAt; rw [hset k, e]
theorem LogAt.count (k : LogAt w q p h n) (m : Nat) : LogAt (w.setCell ⟨q, 6, none⟩ (.int .i64 (m : Int))) q p h m := k.set 6 _ h m rfl
theorem LogAt.kin (k : LogAt w q p h n) (i : Nat) (v : Value) : Kin w (w.setCell ⟨q, i, none⟩ v) := by
  refine ⟨rfl, rfl, rfl, by simp [World.setCell], fun b c t f e h1 h2 h3 h4 => hoth (fun eb => ?_) _ _⟩
  subst eb
  rw [show w.heap[b]? = some (.cells (logC p h n) 61 (0, 0)) from k] at e
  cases e; exact h4 rfl
theorem JD.logset (j : JD w0 w p d) (k : LogAt w q p h n) (hq : w0.heap.size ≤ q) (i : Nat) (v : Value) : JD w0 (w.setCell ⟨q, i, none⟩ v) p d := by
  obtain ⟨sv, wv, hd, hf, hb⟩ := j
  refine ⟨sv, wv, hd.kept fun b hb => hoth (fun e => ?_) _ _, hf, hb.setCell hq v⟩
  subst e
  exact not_feet hd k (by decide) (by decide) (by decide) hb
theorem JD.drew (j : JD w0 w p d) : JD w0 w.drew p d := by
  obtain ⟨sv, wv, hd, hf, hb⟩ := j
  exact ⟨sv, wv, hd.drew, hf, hb.drew⟩
end
/-- A journal that is open: its disk is up, nothing waits, and it holds the records l. -/
structure JS (w0 w : World) (p q : Nat) (d : Dk) (h : Hd) (l : List Rc) : Prop where
  log : JL w0 w p q d h l.length
  ok : h.Ok
  up : d.down = false
  rest : d.waits = []
  held : Holds d.secs h.c h.a h.b l
section
variable {w0 w : World} {p : Nat} {d : Dk} {l : List Rc}
set_option maxHeartbeats 2000000 in
theorem open_any {c a b : Nat} (j : JD w0 w p d) (hd : d.down = false) (hw : d.waits = []) (H : Holds d.secs c a b l) :
    Calls Try.prog 6 #[.pointer (some ⟨p, 0, none⟩)] w fun e w' => ∃ q ao cap h, e = .returned (.tuple #[.pointer (some ⟨q, 0, none⟩), .slice ao l.length cap, .int .i64 0]) ∧ JS w0 w' p q d h l ∧ RG w' ao l.length cap l ∧ Below w.heap.size w w' := by
  have hs := j.ok.size
  have h8 := H.n8
  obtain ⟨ho, rfl, rfl, rfl⟩ := held_head H j.ok.secs hs
  have HB : Hid ((secsL d.secs (1 + (hdOf (d.secs.getD 0 [])).a * arS d) (arS d)).take (hdOf (d.secs.getD 0 [])).b = frs l) := held_bytes H j.ok.secs
  have hzs := sec_at j.ok.secs (n := 0) (by omega)
  have hfit := H.fit
  have hgood := H.good
  have HZ := hid (sec_byt hzs)
  have hz1 := hzs.1
  obtain ⟨h, hh⟩ : ∃ h, hdOf (d.secs.getD 0 []) = h := ⟨_, rfl⟩
  rw [hh] at ho H HB hfit
  have HH := hid hh
  have HO := hid ho
  have HL := hid H
  have HG := hid hgood
  have J := hid j
  have hbs : h.b ≤ 200000 := by omega
  have hc : h.c = 0 ∨ h.c = 1 := by have := ho.c; omega
  have HFI := hid hfit
  have hw0 := j.bel.size
  clear hzs hh ho H hgood j hfit
  obtain ⟨N, hN⟩ : ∃ N, d.secs.length = N := ⟨_, rfl⟩
  have HN := hid hN
  rw [hN] at h8 hs
  clear hN hz1
  go_enter Try.func6, Try.ntmps6
  go_wp2_with (first | (go_at_call 19; refine (recs_any G4.out F4.out HG.out hbs).mono ?_; rintro e w5 ⟨ao5, cap5, rfl, d5⟩; have D5 := hid d5; clear d5) | (go_at_call 18; refine (logread_any ⟨J3.out, L3.out, hq3⟩ HO.out (by rw [HN.out]; exact h8) hw hd HFI.out).mono ?_; rintro e w4 ⟨ao4, cap4, rfl, g4, f4, k4⟩; have F4 := hid f4; rw [HB.out] at g4; have G4 := hid g4; have K4 := hid k4; clear k4 g4 f4) | (refine bx73 (h := h) rfl _ rfl rfl ?_; intro q w3 hq l3 k3; have hq3 : w0.heap.size ≤ q := (by have := J2.out.bel.size; omega); have L3 := hid l3; have J3 := hid (J2.out.more k3); have K3 := hid (sq K2.out k3); clear l3 k3) | (refine bd73 (h := h) rfl _ _ rfl rfl rfl ?_) | (go_at_call 17; refine (headOf_any (G1.out) rfl).mono ?_; rintro e w2 ⟨rfl, k2⟩; rw [HH.out]; have J2 := hid (J1.out.more k2); have K2 := hid (sq K1.out k2); clear k2) | (go_at_call 16; refine (read_jd J.out hw hd 0 (by rw [HN.out]; omega) 0 rfl).mono ?_; rintro e w1 ⟨ao1, cap1, rfl, r1, k1⟩; have G1 := hid (Row.giv r1 HZ.out); have J1 := hid (J.out.more k1); have K1 := hid k1; clear r1 k1) | (go_at_call 15; refine (sectors_jd J.out).mono ?_; rintro e w1 ⟨rfl, rfl⟩; rw [HN.out]))
  have LG := hid ((L3.out.below K4.out).below D5.out.bel)
  have B5 := hid (sq (sq K3.out K4.out) D5.out.bel)
  have J5 := hid ((J3.out.more K4.out).more D5.out.bel)
  have hq5 : q < w5.heap.size := LG.out.lt
  have hwq : w.heap.size ≤ q := Nat.le_trans K2.out.size hq
  have c1 := LG.out.c1
  have c3 := LG.out.c3
  have c5 := LG.out.c5
  have c6 := LG.out.c6
  have f3 := LG.out.f 3
  have f5 := LG.out.f 5
  have f6 := LG.out.f 6
  rcases hc with hc | hc
  · rw [hc] at c1
    simp only [Int.natCast_zero] at c1
    go_region
    go_wp2
    go_ret3
    refine ⟨q, ao5, cap5, h, rfl, ?_, ?_, ?_⟩
    · have e1 : LogAt (w5.drew.setCell ⟨q, 3, none⟩ (.int .i64 (h.b : Int))) q p h 0 := LogAt.set (w := w5.drew) LG.out 3 _ h 0 (by rw [show h.b = h.b0 by unfold Hd.b; simp [hc]]; rfl)
      exact ⟨⟨((J5.out.drew.logset LG.out hq3 _ _).logset e1 hq3 _ _), e1.count _, hq3⟩, HO.out, hd, hw, HL.out⟩
    · have e1 : LogAt (w5.drew.setCell ⟨q, 3, none⟩ (.int .i64 (h.b : Int))) q p h 0 := LogAt.set (w := w5.drew) LG.out 3 _ h 0 (by rw [show h.b = h.b0 by unfold Hd.b; simp [hc]]; rfl)
      exact D5.out.given.kin (((Kin.drew _).trans (LogAt.kin (w := w5.drew) LG.out _ _)).trans (e1.kin _ _))
    · exact (B5.out.drew.setCell hwq _).setCell hwq _
  · rw [hc] at c1
    simp only [Int.natCast_one] at c1
    go_region
    go_wp2
    go_ret3
    refine ⟨q, ao5, cap5, h, rfl, ?_, ?_, ?_⟩
    · have e1 : LogAt (w5.drew.setCell ⟨q, 5, none⟩ (.int .i64 (h.b : Int))) q p h 0 := LogAt.set (w := w5.drew) LG.out 5 _ h 0 (by rw [show h.b = h.b1 by unfold Hd.b; simp [hc]]; rfl)
      exact ⟨⟨((J5.out.drew.logset LG.out hq3 _ _).logset e1 hq3 _ _), e1.count _, hq3⟩, HO.out, hd, hw, HL.out⟩
    · have e1 : LogAt (w5.drew.setCell ⟨q, 5, none⟩ (.int .i64 (h.b : Int))) q p h 0 := LogAt.set (w := w5.drew) LG.out 5 _ h 0 (by rw [show h.b = h.b1 by unfold Hd.b; simp [hc]]; rfl)
      exact D5.out.given.kin (((Kin.drew _).trans (LogAt.kin (w := w5.drew) LG.out _ _)).trans (e1.kin _ _))
    · exact (B5.out.drew.setCell hwq _).setCell hwq _
set_option maxHeartbeats 1000000 in
/-- A disk that is too small. -/
theorem open_few (j : JD w0 w p d) (h8 : d.secs.length < 8) :
    Calls Try.prog 6 #[.pointer (some ⟨p, 0, none⟩)] w fun e w' => e = .returned (.tuple #[.pointer none, .slice none 0 0, .int .i64 21]) ∧ w = w' := by
  have J := hid j
  obtain ⟨N, hN⟩ : ∃ N, d.secs.length = N := ⟨_, rfl⟩
  have HN := hid hN
  rw [hN] at h8
  clear hN j
  go_enter Try.func6, Try.ntmps6
  go_wp2_with (go_at_call 15; refine (sectors_jd J.out).mono ?_; rintro e w1 ⟨rfl, rfl⟩; rw [HN.out])
  go_ret3
  exact ⟨rfl, rfl⟩
end
end Go.Proofs.Ythhgnflkplpklab
