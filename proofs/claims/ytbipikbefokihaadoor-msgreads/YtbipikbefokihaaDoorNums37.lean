/- numbers, setNumbers: a message's field told as a row of numbers, set by one. -/
import Derived.Test.YtbipikbefokihaaDoorNm
namespace Go.Proofs.YtbipikbefokihaaDoor
open Go.ChangeShapes Go.WideShapes Go.ChangeAt Go.RowKit

def Ms.Ok (m : Ms) : Prop := (0 ≤ m.term ∧ m.term < 65536) ∧ (0 ≤ m.stan ∧ m.stan < 4294967296)
def NuAns (w : World) (m : Ms) (f : Int) (e : Ending) (w' : World) : Prop := ∃ ao n c, e = .returned (.slice ao n c) ∧ I.Mk w w' (.slice ao n c) n (numsF m f)
theorem nu_one {w w1 : World} {m : Ms} {f x : Int} (hx : numsF m f = [x]) (hb : Below w.heap.size w w1) : NuAns w m f (.returned (.slice (some ⟨w1.heap.size, 0, none⟩) 1 1)) (w1.alloc (.cells #[.int .i64 x] 2)) :=
  ⟨_, 1, 1, rfl, by rw [hx]; have h := I.Mk.new w1 [x] 1 rfl (by omega); exact ⟨h.1.mono hb.size, sq hb h.2⟩⟩
theorem nu_four {w w1 w2 : World} {m : Ms} {f x0 x1 x2 x3 : Int} {ao : Option Addr} {c : Nat} (hx : numsF m f = [x0, x1, x2, x3]) (hb : Below w.heap.size w w1) (h : I.Mk w1 w2 (.slice ao 4 c) 4 [x0, x1, x2, x3]) : NuAns w m f (.returned (.slice ao 4 c)) w2 :=
  ⟨_, 4, c, rfl, by rw [hx]; exact ⟨h.1.mono hb.size, sq hb h.2⟩⟩
set_option maxHeartbeats 4000000 in
theorem numbers37 (m : Ms) (f : Int) (w : World) (hf : f ∈ tenF) (hm : m.Ok) : Calls Tryd.prog 37 #[m.val, .int .i64 f] w (NuAns w m f) := by
  obtain ⟨⟨t0, t1⟩, s0, s1⟩ := hm
  rcases ten_cases hf with rfl | rfl | rfl | rfl | rfl | rfl | rfl | rfl | rfl | rfl
  · go_enter Tryd.func37, Tryd.ntmps37
    go_wp2_with (first | (refine bx27 rfl _ rfl rfl ?_; intro b1 w1 hb1 v1 l1; have V1 := hid v1; have L1 := hid l1; have cc : w1.cell? ⟨b1, 1, none⟩ = some (.int .u16 m.term) := v1.cell 1 rfl; clear v1 l1))
    go_ret
    exact nu_one rfl L1.out
  · go_enter Tryd.func37, Tryd.ntmps37
    go_wp2_with (first | (refine bx27 rfl _ rfl rfl ?_; intro b1 w1 hb1 v1 l1; have V1 := hid v1; have L1 := hid l1; have cc : w1.cell? ⟨b1, 2, none⟩ = some (.int .u32 m.stan) := v1.cell 2 rfl; clear v1 l1))
    go_ret
    exact nu_one rfl L1.out
  · go_enter Tryd.func37, Tryd.ntmps37
    go_wp2_with (first | (refine bx27 rfl _ rfl rfl ?_; intro b1 w1 hb1 v1 l1; have L1 := hid l1; clear v1 l1))
    go_ret
    exact ⟨none, 0, 0, rfl, (I.Mk.nil w).more L1.out⟩
  · go_enter Tryd.func37, Tryd.ntmps37
    go_wp2_with (first | (refine bx27 rfl _ rfl rfl ?_; intro b1 w1 hb1 v1 l1; have V1 := hid v1; have L1 := hid l1; have cc : w1.cell? ⟨b1, 4, none⟩ = some (.int .i64 m.amt) := v1.cell 4 rfl; clear v1 l1))
    go_ret
    exact nu_one rfl L1.out
  · have F4 : Hid ((m.cells.drop 5).take 4 = c4 m.n0 m.n1 m.n2 m.n3) := rfl
    go_enter Tryd.func37, Tryd.ntmps37
    go_wp2_with (first | (go_at_call 48; have kill := L1.out; refine (fromNotes48 _ _ _ _ _).mono ?_; rintro e w2 ⟨a2, c2, rfl, m2⟩; have M2 := hid m2; clear m2) | (have kill := V1.out; refine ld4 V1.out 5 F4.out rfl _ rfl rfl ?_) | (refine bx27 rfl _ rfl rfl ?_; intro b1 w1 hb1 v1 l1; have V1 := hid v1; have L1 := hid l1; clear v1 l1))
    go_ret
    exact nu_four rfl L1.out M2.out
  · have F4 : Hid ((m.cells.drop 9).take 4 = c4 m.j0 m.j1 m.j2 m.j3) := rfl
    go_enter Tryd.func37, Tryd.ntmps37
    go_wp2_with (first | (go_at_call 48; have kill := L1.out; refine (fromNotes48 _ _ _ _ _).mono ?_; rintro e w2 ⟨a2, c2, rfl, m2⟩; have M2 := hid m2; clear m2) | (have kill := V1.out; refine ld4 V1.out 9 F4.out rfl _ rfl rfl ?_) | (refine bx27 rfl _ rfl rfl ?_; intro b1 w1 hb1 v1 l1; have V1 := hid v1; have L1 := hid l1; clear v1 l1))
    go_ret
    exact nu_four rfl L1.out M2.out
  · have F4 : Hid ((m.cells.drop 13).take 4 = c4 m.c0 m.c1 m.c2 m.c3) := rfl
    go_enter Tryd.func37, Tryd.ntmps37
    go_wp2_with (first | (go_at_call 48; have kill := L1.out; refine (fromNotes48 _ _ _ _ _).mono ?_; rintro e w2 ⟨a2, c2, rfl, m2⟩; have M2 := hid m2; clear m2) | (have kill := V1.out; refine ld4 V1.out 13 F4.out rfl _ rfl rfl ?_) | (refine bx27 rfl _ rfl rfl ?_; intro b1 w1 hb1 v1 l1; have V1 := hid v1; have L1 := hid l1; clear v1 l1))
    go_ret
    exact nu_four rfl L1.out M2.out
  · have F4 : Hid ((m.cells.drop 17).take 4 = c4 m.d0 m.d1 m.d2 m.d3) := rfl
    go_enter Tryd.func37, Tryd.ntmps37
    go_wp2_with (first | (go_at_call 48; have kill := L1.out; refine (fromNotes48 _ _ _ _ _).mono ?_; rintro e w2 ⟨a2, c2, rfl, m2⟩; have M2 := hid m2; clear m2) | (have kill := V1.out; refine ld4 V1.out 17 F4.out rfl _ rfl rfl ?_) | (refine bx27 rfl _ rfl rfl ?_; intro b1 w1 hb1 v1 l1; have V1 := hid v1; have L1 := hid l1; clear v1 l1))
    go_ret
    exact nu_four rfl L1.out M2.out
  · go_enter Tryd.func37, Tryd.ntmps37
    go_wp2_with (first | (refine bx27 rfl _ rfl rfl ?_; intro b1 w1 hb1 v1 l1; have V1 := hid v1; have L1 := hid l1; have cc : w1.cell? ⟨b1, 21, none⟩ = some (.int .i64 m.loads) := v1.cell 21 rfl; clear v1 l1))
    go_ret
    exact nu_one rfl L1.out
  · have F4 : Hid ((m.cells.drop 22).take 4 = c4 m.l0 m.l1 m.l2 m.l3) := rfl
    go_enter Tryd.func37, Tryd.ntmps37
    go_wp2_with (first | (go_at_call 48; have kill := L1.out; refine (fromNotes48 _ _ _ _ _).mono ?_; rintro e w2 ⟨a2, c2, rfl, m2⟩; have M2 := hid m2; clear m2) | (have kill := V1.out; refine ld4 V1.out 22 F4.out rfl _ rfl rfl ?_) | (refine bx27 rfl _ rfl rfl ?_; intro b1 w1 hb1 v1 l1; have V1 := hid v1; have L1 := hid l1; clear v1 l1))
    go_ret
    exact nu_four rfl L1.out M2.out
/-- A field's numbers are set. -/
def setN (m : Ms) (f : Int) (l : List Int) : Ms :=
  if f = 0 then { m with term := l.getD 0 0 } else if f = 1 then { m with stan := l.getD 0 0 } else if f = 3 then { m with amt := l.getD 0 0 }
  else if f = 4 then { m with n0 := l.getD 0 0, n1 := l.getD 1 0, n2 := l.getD 2 0, n3 := l.getD 3 0 }
  else if f = 5 then { m with j0 := l.getD 0 0, j1 := l.getD 1 0, j2 := l.getD 2 0, j3 := l.getD 3 0 }
  else if f = 6 then { m with c0 := l.getD 0 0, c1 := l.getD 1 0, c2 := l.getD 2 0, c3 := l.getD 3 0 }
  else if f = 7 then { m with d0 := l.getD 0 0, d1 := l.getD 1 0, d2 := l.getD 2 0, d3 := l.getD 3 0 }
  else if f = 8 then { m with loads := l.getD 0 0 }
  else if f = 9 then { m with l0 := l.getD 0 0, l1 := l.getD 1 0, l2 := l.getD 2 0, l3 := l.getD 3 0 } else m
/-- What setNumbers does: the message at b, of the caller's. -/
def SnAns (w0 : World) (b : Nat) (m : Ms) (f : Int) (l : List Int) (e : Ending) (w' : World) : Prop := e = .returned (.tuple #[]) ∧ RV w' b (setN m f l) ∧ Below w0.heap.size w0 w'
theorem n22 : (Tryd.prog.info? 22).map (·.size) = some 1 := by kernel_rfl
theorem n23 : (Tryd.prog.info? 23).map (·.size) = some 1 := by kernel_rfl
set_option maxHeartbeats 4000000 in
theorem setNumbers46 (m : Ms) (f : Int) (l : List Int) (ao : Option Addr) (n cap b : Nat) (w0 w : World) (hf : f ∈ tenF) (h2 : ¬ f = 2) (hl : l.length = cntF f) (hi : l.all (inB (mostF f)) = true) (hg : I.Given w ao n cap l) (hv : RV w b m) (hb : w0.heap.size ≤ b) (hB : Below w0.heap.size w0 w) :
    Calls Tryd.prog 46 #[.pointer (some ⟨b, 0, none⟩), .int .i64 f, .slice ao n cap] w (SnAns w0 b m f l) := by
  have hn : n = cntF f := by rw [← hg.leq, hl]
  rcases ten_cases hf with rfl | rfl | rfl | rfl | rfl | rfl | rfl | rfl | rfl | rfl
  · have hn1 : n = 1 := hn
    subst hn1
    obtain ⟨x, rfl⟩ : ∃ x, l = [x] := ⟨_, list1 0 hl⟩
    have hx : 0 ≤ x ∧ x ≤ 65535 := by simpa [inB, mostF] using hi
    obtain ⟨p0, p1⟩ := hx
    obtain ⟨bb, oo, rfl, hc⟩ := hg.cell 0 (by omega)
    have hc' : w.cell? ⟨bb, oo, none⟩ = some (.int .i64 x) := hc
    have hcap := hg.cap1
    have V := hid hv
    have HB := hid hB
    clear hg hv hB hi hl hf h2 hn hc
    have FC : Hid ((setN m 0 [x]).cells = m.cells.take 1 ++ [.int .u16 x] ++ m.cells.drop (1 + 1)) := rfl
    go_enter Tryd.func46, Tryd.ntmps46
    go_wp2_with (first | (have kill := V.out; refine rv_store V.out HB.out hb 22 1 [.int .u16 x] (setN m 0 [x]) (by simp) FC.out n22 (one1 rfl) rfl _ _ rfl rfl rfl rfl ?_; intro w3 v3 l3; have V3 := hid v3; have L3 := hid l3; clear v3 l3 kill V))
    go_end0
    exact ⟨rfl, V3.out, L3.out⟩
  · have hn1 : n = 1 := hn
    subst hn1
    obtain ⟨x, rfl⟩ : ∃ x, l = [x] := ⟨_, list1 0 hl⟩
    have hx : 0 ≤ x ∧ x ≤ 999999 := by simpa [inB, mostF] using hi
    obtain ⟨p0, p1⟩ := hx
    obtain ⟨bb, oo, rfl, hc⟩ := hg.cell 0 (by omega)
    have hc' : w.cell? ⟨bb, oo, none⟩ = some (.int .i64 x) := hc
    have hcap := hg.cap1
    have V := hid hv
    have HB := hid hB
    clear hg hv hB hi hl hf h2 hn hc
    have FC : Hid ((setN m 1 [x]).cells = m.cells.take 2 ++ [.int .u32 x] ++ m.cells.drop (2 + 1)) := rfl
    go_enter Tryd.func46, Tryd.ntmps46
    go_wp2_with (first | (have kill := V.out; refine rv_store V.out HB.out hb 23 2 [.int .u32 x] (setN m 1 [x]) (by simp) FC.out n23 (one1 rfl) rfl _ _ rfl rfl rfl rfl ?_; intro w3 v3 l3; have V3 := hid v3; have L3 := hid l3; clear v3 l3 kill V))
    go_end0
    exact ⟨rfl, V3.out, L3.out⟩
  · exact absurd rfl h2
  · have hn1 : n = 1 := hn
    subst hn1
    obtain ⟨x, rfl⟩ : ∃ x, l = [x] := ⟨_, list1 0 hl⟩
    have hx : 0 ≤ x ∧ x ≤ 1000000 := by simpa [inB, mostF] using hi
    obtain ⟨p0, p1⟩ := hx
    obtain ⟨bb, oo, rfl, hc⟩ := hg.cell 0 (by omega)
    have hc' : w.cell? ⟨bb, oo, none⟩ = some (.int .i64 x) := hc
    have hcap := hg.cap1
    have V := hid hv
    have HB := hid hB
    clear hg hv hB hi hl hf h2 hn hc
    have FC : Hid ((setN m 3 [x]).cells = m.cells.take 4 ++ [.int .i64 x] ++ m.cells.drop (4 + 1)) := rfl
    go_enter Tryd.func46, Tryd.ntmps46
    go_wp2_with (first | (have kill := V.out; refine rv_store V.out HB.out hb 2 4 [.int .i64 x] (setN m 3 [x]) (by simp) FC.out n2 (one1 rfl) rfl _ _ rfl rfl rfl rfl ?_; intro w3 v3 l3; have V3 := hid v3; have L3 := hid l3; clear v3 l3 kill V))
    go_end0
    exact ⟨rfl, V3.out, L3.out⟩
  · have hn4 : n = 4 := hn
    subst hn4
    obtain ⟨x0, x1, x2, x3, rfl⟩ : ∃ x0 x1 x2 x3, l = [x0, x1, x2, x3] := ⟨_, _, _, _, list4 0 hl⟩
    have HG := hid hg
    have V := hid hv
    have HB := hid hB
    clear hg hv hB hi hl hf h2 hn
    have FC : Hid ((setN m 4 [x0, x1, x2, x3]).cells = m.cells.take 5 ++ c4 x0 x1 x2 x3 ++ m.cells.drop (5 + (c4 x0 x1 x2 x3).length)) := rfl
    have F1 : Hid (5 + (c4 x0 x1 x2 x3).length ≤ 26) := by unfold Hid; simp [c4]
    go_enter Tryd.func46, Tryd.ntmps46
    go_wp2_with (first | (go_at_call 52; have kill := HG.out; refine (toNotes52 _ _ x0 x1 x2 x3 _ HG.out).mono ?_; rintro e w2 ⟨rfl, l2⟩; have V2 := hid (V.out.below l2); have L2 := hid (HB.out.trans (l2.mono HB.out.size)); clear l2 kill HG) | (have kill := V2.out; refine rv_store V2.out L2.out hb 25 5 (c4 x0 x1 x2 x3) (setN m 4 [x0, x1, x2, x3]) F1.out FC.out n25 (c4_one _ _ _ _) rfl _ _ rfl rfl rfl rfl ?_; intro w3 v3 l3; have V3 := hid v3; have L3 := hid l3; clear v3 l3 kill V2))
    go_end0
    exact ⟨rfl, V3.out, L3.out⟩
  · have hn4 : n = 4 := hn
    subst hn4
    obtain ⟨x0, x1, x2, x3, rfl⟩ : ∃ x0 x1 x2 x3, l = [x0, x1, x2, x3] := ⟨_, _, _, _, list4 0 hl⟩
    have HG := hid hg
    have V := hid hv
    have HB := hid hB
    clear hg hv hB hi hl hf h2 hn
    have FC : Hid ((setN m 5 [x0, x1, x2, x3]).cells = m.cells.take 9 ++ c4 x0 x1 x2 x3 ++ m.cells.drop (9 + (c4 x0 x1 x2 x3).length)) := rfl
    have F1 : Hid (9 + (c4 x0 x1 x2 x3).length ≤ 26) := by unfold Hid; simp [c4]
    go_enter Tryd.func46, Tryd.ntmps46
    go_wp2_with (first | (go_at_call 52; have kill := HG.out; refine (toNotes52 _ _ x0 x1 x2 x3 _ HG.out).mono ?_; rintro e w2 ⟨rfl, l2⟩; have V2 := hid (V.out.below l2); have L2 := hid (HB.out.trans (l2.mono HB.out.size)); clear l2 kill HG) | (have kill := V2.out; refine rv_store V2.out L2.out hb 25 9 (c4 x0 x1 x2 x3) (setN m 5 [x0, x1, x2, x3]) F1.out FC.out n25 (c4_one _ _ _ _) rfl _ _ rfl rfl rfl rfl ?_; intro w3 v3 l3; have V3 := hid v3; have L3 := hid l3; clear v3 l3 kill V2))
    go_end0
    exact ⟨rfl, V3.out, L3.out⟩
  · have hn4 : n = 4 := hn
    subst hn4
    obtain ⟨x0, x1, x2, x3, rfl⟩ : ∃ x0 x1 x2 x3, l = [x0, x1, x2, x3] := ⟨_, _, _, _, list4 0 hl⟩
    have HG := hid hg
    have V := hid hv
    have HB := hid hB
    clear hg hv hB hi hl hf h2 hn
    have FC : Hid ((setN m 6 [x0, x1, x2, x3]).cells = m.cells.take 13 ++ c4 x0 x1 x2 x3 ++ m.cells.drop (13 + (c4 x0 x1 x2 x3).length)) := rfl
    have F1 : Hid (13 + (c4 x0 x1 x2 x3).length ≤ 26) := by unfold Hid; simp [c4]
    go_enter Tryd.func46, Tryd.ntmps46
    go_wp2_with (first | (go_at_call 52; have kill := HG.out; refine (toNotes52 _ _ x0 x1 x2 x3 _ HG.out).mono ?_; rintro e w2 ⟨rfl, l2⟩; have V2 := hid (V.out.below l2); have L2 := hid (HB.out.trans (l2.mono HB.out.size)); clear l2 kill HG) | (have kill := V2.out; refine rv_store V2.out L2.out hb 25 13 (c4 x0 x1 x2 x3) (setN m 6 [x0, x1, x2, x3]) F1.out FC.out n25 (c4_one _ _ _ _) rfl _ _ rfl rfl rfl rfl ?_; intro w3 v3 l3; have V3 := hid v3; have L3 := hid l3; clear v3 l3 kill V2))
    go_end0
    exact ⟨rfl, V3.out, L3.out⟩
  · have hn4 : n = 4 := hn
    subst hn4
    obtain ⟨x0, x1, x2, x3, rfl⟩ : ∃ x0 x1 x2 x3, l = [x0, x1, x2, x3] := ⟨_, _, _, _, list4 0 hl⟩
    have HG := hid hg
    have V := hid hv
    have HB := hid hB
    clear hg hv hB hi hl hf h2 hn
    have FC : Hid ((setN m 7 [x0, x1, x2, x3]).cells = m.cells.take 17 ++ c4 x0 x1 x2 x3 ++ m.cells.drop (17 + (c4 x0 x1 x2 x3).length)) := rfl
    have F1 : Hid (17 + (c4 x0 x1 x2 x3).length ≤ 26) := by unfold Hid; simp [c4]
    go_enter Tryd.func46, Tryd.ntmps46
    go_wp2_with (first | (go_at_call 52; have kill := HG.out; refine (toNotes52 _ _ x0 x1 x2 x3 _ HG.out).mono ?_; rintro e w2 ⟨rfl, l2⟩; have V2 := hid (V.out.below l2); have L2 := hid (HB.out.trans (l2.mono HB.out.size)); clear l2 kill HG) | (have kill := V2.out; refine rv_store V2.out L2.out hb 25 17 (c4 x0 x1 x2 x3) (setN m 7 [x0, x1, x2, x3]) F1.out FC.out n25 (c4_one _ _ _ _) rfl _ _ rfl rfl rfl rfl ?_; intro w3 v3 l3; have V3 := hid v3; have L3 := hid l3; clear v3 l3 kill V2))
    go_end0
    exact ⟨rfl, V3.out, L3.out⟩
  · have hn1 : n = 1 := hn
    subst hn1
    obtain ⟨x, rfl⟩ : ∃ x, l = [x] := ⟨_, list1 0 hl⟩
    have hx : 0 ≤ x ∧ x ≤ 1000000 := by simpa [inB, mostF] using hi
    obtain ⟨p0, p1⟩ := hx
    obtain ⟨bb, oo, rfl, hc⟩ := hg.cell 0 (by omega)
    have hc' : w.cell? ⟨bb, oo, none⟩ = some (.int .i64 x) := hc
    have hcap := hg.cap1
    have V := hid hv
    have HB := hid hB
    clear hg hv hB hi hl hf h2 hn hc
    have FC : Hid ((setN m 8 [x]).cells = m.cells.take 21 ++ [.int .i64 x] ++ m.cells.drop (21 + 1)) := rfl
    go_enter Tryd.func46, Tryd.ntmps46
    go_wp2_with (first | (have kill := V.out; refine rv_store V.out HB.out hb 3 21 [.int .i64 x] (setN m 8 [x]) (by simp) FC.out n3 (one1 rfl) rfl _ _ rfl rfl rfl rfl ?_; intro w3 v3 l3; have V3 := hid v3; have L3 := hid l3; clear v3 l3 kill V))
    go_end0
    exact ⟨rfl, V3.out, L3.out⟩
  · have hn4 : n = 4 := hn
    subst hn4
    obtain ⟨x0, x1, x2, x3, rfl⟩ : ∃ x0 x1 x2 x3, l = [x0, x1, x2, x3] := ⟨_, _, _, _, list4 0 hl⟩
    have HG := hid hg
    have V := hid hv
    have HB := hid hB
    clear hg hv hB hi hl hf h2 hn
    have FC : Hid ((setN m 9 [x0, x1, x2, x3]).cells = m.cells.take 22 ++ c4 x0 x1 x2 x3 ++ m.cells.drop (22 + (c4 x0 x1 x2 x3).length)) := rfl
    have F1 : Hid (22 + (c4 x0 x1 x2 x3).length ≤ 26) := by unfold Hid; simp [c4]
    go_enter Tryd.func46, Tryd.ntmps46
    go_wp2_with (first | (go_at_call 52; have kill := HG.out; refine (toNotes52 _ _ x0 x1 x2 x3 _ HG.out).mono ?_; rintro e w2 ⟨rfl, l2⟩; have V2 := hid (V.out.below l2); have L2 := hid (HB.out.trans (l2.mono HB.out.size)); clear l2 kill HG) | (have kill := V2.out; refine rv_store V2.out L2.out hb 25 22 (c4 x0 x1 x2 x3) (setN m 9 [x0, x1, x2, x3]) F1.out FC.out n25 (c4_one _ _ _ _) rfl _ _ rfl rfl rfl rfl ?_; intro w3 v3 l3; have V3 := hid v3; have L3 := hid l3; clear v3 l3 kill V2))
    go_end0
    exact ⟨rfl, V3.out, L3.out⟩
end Go.Proofs.YtbipikbefokihaaDoor
