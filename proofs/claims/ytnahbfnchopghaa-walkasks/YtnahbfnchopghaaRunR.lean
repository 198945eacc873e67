/- The document's walk, whole: by the same plain function. -/
import Derived.Test.YtnahbfnchopghaaRunP
import Derived.Deep.CutRange
namespace Go.Proofs.Ytnahbfnchopghaa
open Go.ChangeShapes Go.WideShapes Go.ChangeAt Go.RowKit

section
variable {ops : Array Oper} {rest : List Oper} {op : Oper} {a : Act} {w : World} {Q : Exit → Act → World → Prop}
/-- One cell of a result is written. -/
theorem stRc {b i : Nat} {r r' : Rs} {v : Value} (t : TypeId) (hr : RR w b r) (hi : i < 5) (hn : (Try.prog.info? t).map (·.size) = some 1) (hv : v.cells = #[v]) (h1 : v.oneCell' = true)
    (e : r.cells.set i v = r'.cells) (hgd : op.guard = none) (y z : Operand) (ho : op.op = .store t y z) (hx : a.eval y = .pointer (some ⟨b, i, none⟩)) (hy : a.eval z = v)
    (h : ∀ w', RR w' b r' → One b w w' → wpList Try.prog ops Q rest (a.put op.dst undef) w') : wpList Try.prog ops Q (op :: rest) a w :=
  wpList_plain hgd fun K hK => by
    have hs := run_storeVar_cs w b i t v [v] (by rw [hv]) (fun j hj => by
      obtain rfl : j = 0 := by simp at hj; exact hj
      have := hr.th i hi; rwa [Nat.zero_add] at this) hn (fun c hc => by have : c = v := by simpa using hc
                                                                         rw [this]; exact h1)
    unfold Oper.wp execOp
    simp only [ho, hx, hy, Instr.storeAt, Instr.sureAddr, Sem.run_bind, Sem.run_pure, Result.andThen_ok, hs]
    exact hK _ _ (h _ (hr.put hi e) (One.set w b i v))
variable {b : Nat} {r : Rs}
theorem rPos {x : Int} (hr : RR w b r) (hgd : op.guard = none) (y z : Operand) (ho : op.op = .store 3 y z) (hx : a.eval y = .pointer (some ⟨b, 0, none⟩)) (hy : a.eval z = .int .i64 x)
    (h : ∀ w', RR w' b { r with pos := x } → One b w w' → wpList Try.prog ops Q rest (a.put op.dst undef) w') : wpList Try.prog ops Q (op :: rest) a w := stRc 3 hr (by decide) i3 rfl rfl rfl hgd y z ho hx hy h
theorem rSteps {x : Int} (hr : RR w b r) (hgd : op.guard = none) (y z : Operand) (ho : op.op = .store 3 y z) (hx : a.eval y = .pointer (some ⟨b, 1, none⟩)) (hy : a.eval z = .int .i64 x)
    (h : ∀ w', RR w' b { r with steps := x } → One b w w' → wpList Try.prog ops Q rest (a.put op.dst undef) w') : wpList Try.prog ops Q (op :: rest) a w := stRc 3 hr (by decide) i3 rfl rfl rfl hgd y z ho hx hy h
theorem rAsked {x : Bool} (hr : RR w b r) (hgd : op.guard = none) (y z : Operand) (ho : op.op = .store 4 y z) (hx : a.eval y = .pointer (some ⟨b, 2, none⟩)) (hy : a.eval z = .bool x)
    (h : ∀ w', RR w' b { r with asked := x } → One b w w' → wpList Try.prog ops Q rest (a.put op.dst undef) w') : wpList Try.prog ops Q (op :: rest) a w := stRc 4 hr (by decide) i4 rfl rfl rfl hgd y z ho hx hy h
theorem rPan {x : ByteArray} (hr : RR w b r) (hgd : op.guard = none) (y z : Operand) (ho : op.op = .store 9 y z) (hx : a.eval y = .pointer (some ⟨b, 3, none⟩)) (hy : a.eval z = .string x)
    (h : ∀ w', RR w' b { r with pan := x } → One b w w' → wpList Try.prog ops Q rest (a.put op.dst undef) w') : wpList Try.prog ops Q (op :: rest) a w := stRc 9 hr (by decide) i9 rfl rfl rfl hgd y z ho hx hy h
theorem rAmt {x : Int} (hr : RR w b r) (hgd : op.guard = none) (y z : Operand) (ho : op.op = .store 2 y z) (hx : a.eval y = .pointer (some ⟨b, 4, none⟩)) (hy : a.eval z = .int .i64 x)
    (h : ∀ w', RR w' b { r with amt := x } → One b w w' → wpList Try.prog ops Q rest (a.put op.dst undef) w') : wpList Try.prog ops Q (op :: rest) a w := stRc 2 hr (by decide) i2 rfl rfl rfl hgd y z ho hx hy h
end
theorem goes_kind {s : St} (k : Wk) (h : kindB s.kind = false) : goesK s k = false := by
  unfold kindB at h
  simp only [Bool.or_eq_false_iff] at h
  unfold goesK takesB
  rw [h.1.2, h.1.1.2, h.1.1.1.2, h.1.1.1.1.2, h.1.1.1.1.1]; rfl
theorem goes_Z {s : St} (k : Wk) (h : s.kind = 90) : goesK s k = false := by unfold goesK; rw [h]; rfl
theorem kind_cases {c : Int} (h : kindB c = true) (h2 : ¬ c = 90) : c = 73 ∨ takesB c = true := by
  unfold kindB at h
  unfold takesB
  simp only [Bool.or_eq_true, beq_iff_eq] at h ⊢
  omega
theorem not_str {x : ByteArray} {c : UInt8} (h : ¬ x = ⟨#[c]⟩) : (x.toList == [c]) = false := by
  have := ne_bytes (t := ⟨#[c]⟩) h
  rwa [ByteArray.toList_eq ⟨#[c]⟩] at this
theorem pin_4 {x : ByteArray} (h : x.size = 4) : pinB x = numOk x := by unfold pinB numB; rw [decide_eq_true h, decide_eq_true (by omega)]; simp
theorem pin_n4 {x : ByteArray} (h : ¬ x.size = 4) : pinB x = false := by unfold pinB; rw [decide_eq_false h]; simp
theorem num_7 {x : ByteArray} (h : x.size ≤ 7) : numB 7 x = numOk x := (num_fit h).2
theorem num_no {x : ByteArray} (m : Nat) (h : numOk x = false) : numB m x = false := by unfold numB; rw [h]; simp
/-- A round of the document's walk, told by what it leaves. -/
theorem nx_of {l : List St} {k K k' : Wk} {s : St} {p : Int} {n : Nat} (h : runK l (200 - n) k = K) (hn : n < 200) (hs : findL l k.r.pos = s) (hf : foundL l k.r.pos = true) (hg : goesK s k = true) (h1 : stepK s k = k') (h2 : stepT s k = p) : runK l (200 - (n + 1)) (advK k' p) = K := by
  have := run_next h hn hs (go_yes hs hf hg)
  rwa [h1, h2] at this
theorem rs_adv {k : Wk} {p : Int} {n : Nat} (h : k.r.steps = n) : ({ k.r with pos := p, steps := (n : Int) + 1 } : Rs) = (advK k p).r := by unfold advK; rw [h]
/-- The world of the document's walk. -/
structure AtR (w wr : World) (l : List St) (K : Wk) (b q : Nat) (n : Nat) (k : Wk) (ao : Option Addr) (len cap : Nat) : Prop where
  le : n ≤ 200
  steps : k.r.steps = n
  run : runK l (200 - n) k = K
  wv : RR wr b k.r
  giv : T.Given w ao len cap k.ins
  res : RR wr q Rs.zero
  bel : Below w.heap.size w wr
set_option maxRecDepth 20000 in
set_option maxHeartbeats 20000000 in
theorem run11 (ao : Option Addr) (len cap : Nat) (l : List St) (start : Int) (bo : Option Addr) (blen bcap : Nat) (ins : List ByteArray) (w : World) (h : SG w ao len cap l) (g : T.Given w bo blen bcap ins) :
    Calls Try.prog 11 #[.slice ao len cap, .int .i64 start, .slice bo blen bcap] w (RnAns w l start ins) := by
  obtain ⟨n0, t, ht, hn0, hcase, hT⟩ : ∃ (n : Nat) (t : Int), t = n ∧ n ≤ blen ∧ (t = blen ∧ (blen : Int) ≤ 100 ∨ t = 100 ∧ ¬ (blen : Int) ≤ 100) ∧ ins.take n = ins.take 100 := by
    by_cases hb : blen ≤ 100
    · exact ⟨blen, blen, rfl, Nat.le_refl _, .inl ⟨rfl, by omega⟩, by rw [List.take_of_length_le (by rw [g.leq]; exact Nat.le_refl _), List.take_of_length_le (by rw [g.leq]; omega)]⟩
    · exact ⟨100, 100, rfl, by omega, .inr ⟨rfl, by omega⟩, rfl⟩
  obtain ⟨xo, hr, hx⟩ := T.sub_h (ao := bo) (len := blen) (cap := bcap) n0 t ht hn0 g.cap1
  have G0 := hid (hx w ins g)
  rw [hT] at G0
  have HG := hid h
  clear h g hx hT
  obtain ⟨K, hK0⟩ : ∃ K, runK l 200 (Wk.new start (ins.take 100)) = K := ⟨_, rfl⟩
  have HK : Hid (runL l start ins = K.r) := hid (by unfold runL; rw [hK0])
  have HK0 := hid hK0
  clear hK0
  clear ht hn0
  go_enter Try.func11, Try.ntmps11
  go_upto_region 1 with (first | (have kill := HG.out; refine al30 rfl rfl ?_; intro b6 w6 hb6 v6 l6; have R6 := hid v6; have L6 := hid l6; clear v6 l6 kill))
  go_frame
  go_cut [2] from 16 to 20 (fun v wx => wx = w6 ∧ v = .slice xo n0 bcap)
  case first =>
    rcases hcase with ⟨rfl, hle⟩ | ⟨rfl, hle⟩ <;> (
      go_wp2_with fail
      go_meet
      case rel => exact ⟨rfl, rfl⟩)
  case rest =>
  obtain ⟨rfl, rfl⟩ := hcut
  go_wp2_with (first | (have kill := V7.out; refine st30 (r := ⟨start, 0, false, ⟨#[]⟩, 0⟩) V7.out L7.out hb7.out rfl _ _ rfl rfl rfl ?_; intro w8 v8 l8; have V8 : Hid (RR w8 b7 (Wk.new start (ins.take 100)).r) := hid v8; have L8 := hid (sq L6.out l8); have R8 := hid (R6.out.below l8); clear v8 l8 kill V7) | (have kill := R6.out; refine al30 rfl rfl ?_; intro b7 w7 hb v7 l7; have V7 := hid v7; have L7 := hid l7; have hb7 := hid hb; have hb6b : Hid (w.heap.size ≤ b7 ∧ ¬ b6 = b7) := hid ⟨Nat.le_trans L6.out.size hb, fun e => by have := R6.out.lt; omega⟩; clear v7 l7 kill hb) | (refine bdA30 rfl _ rfl rfl ?_))
  have hb6 := hid hb6
  have H0 : Hid (AtR w w8 l K b7 b6 0 (Wk.new start (ins.take 100)) xo n0 bcap) := hid ⟨by omega, rfl, HK0.out, V8.out, G0.out, R8.out, L8.out⟩
  clear HK0 V8 G0 R8 L8 L7 hb7 L6 R6 hr hcase
  (try go_frame)
  go_loopw [2, 8, 9] (fun vi vp va wr => ∃ (n : Nat) (k : Wk) (ao2 : Option Addr) (len2 cap2 : Nat), vi = .slice ao2 len2 cap2 ∧ vp = .string k.pan ∧ va = .int .i64 k.amt ∧ AtR w wr l K b7 b6 n k ao2 len2 cap2) (fun _ _ _ wr => 200 - stepsAt b7 wr)
  case atStart => exact ⟨0, _, xo, n0, bcap, rfl, rfl, rfl, H0.out⟩
  case round =>
    obtain ⟨n, k, ao2, len2, cap2, rfl, rfl, rfl, hat⟩ := hrel
    have A := hid hat
    have A0 := hid hat
    have c0 := hat.wv.cell 0 (v := .int .i64 k.r.pos) rfl
    have c1 := hat.wv.cell 1 (v := .int .i64 k.r.steps) rfl
    rw [hat.steps] at c1
    have M1 := hid (stepsAt_of c1)
    have hle := hat.le
    have hmax : len2 ≤ 9223372036854775807 := Nat.le_trans hat.giv.cap1 hat.giv.cap2
    clear hat H0
    by_cases hn : n < 200
    case neg =>
      have hd : decide ((n : Int) < 200) = false := by simp; omega
      have hnl : ¬ (n : Int) < 200 := by omega
      have HE : Hid (K = k) := hid (by
        have h := A.out.run
        rw [show 200 - n = 0 by omega] at h
        exact h.symm)
      have RA := hid A.out.res
      have BA := hid A.out.bel
      have XA := hid A.out.wv
      clear hn
      go_wp2_with (first | (have kill := RA.out; refine st30 (r := k.r) (w0 := w) RA.out BA.out hb6.out rfl _ _ rfl rfl rfl ?_; intro w9 v9 l9; have R9 := hid v9; have B9 := hid l9; clear v9 l9 kill RA BA) | (have kill := XA.out; refine ld30 XA.out rfl _ rfl rfl ?_; clear kill XA))
      refine bodyPost_ret (res_c0 Try.results11 _ _ rfl R9.out) rfl ⟨?_, B9.out⟩
      rw [HK.out, HE.out]
    have hd : decide ((n : Int) < 200) = true := by simp; omega
    obtain ⟨s, hs⟩ : ∃ s, findL l k.r.pos = s := ⟨_, rfl⟩
    have HS := hid hs
    cases hB : foundL l k.r.pos
    case false =>
      have HB := hid hB
      have HE : Hid (K = k) := hid (run_stop A.out.run (go_no1 hB))
      clear hs hB
      go_wp2_with (first | (have kill := R4.out; refine st30 (r := k.r) (w0 := w) R4.out B4.out hb6.out rfl _ _ rfl rfl rfl ?_; intro w9 v9 l9; have R9 := hid v9; have B9 := hid l9; clear v9 l9 kill R4 B4) | (have kill := X4.out; refine ld30 X4.out rfl _ rfl rfl ?_; clear kill X4) | (have kill := X4.out; go_at_call 17; refine (kind25 s.kind _).mono ?_; rw [HKi.out]; rintro e w2 ⟨rfl, rfl⟩; clear kill) | (have kill := V3.out; refine st34 (r := s) V3.out L3.out hb3 rfl _ _ rfl rfl rfl ?_; intro w4 v4 l4; have X4 := hid (X2.out.below l4); have c2 := X4.out.cell 2 (v := .bool k.r.asked) rfl; have c1 := X4.out.cell 1 (v := .int .i64 k.r.steps) rfl; rw [A0.out.steps] at c1; have s0 := v4.cell 0 (v := .int .i64 s.id) rfl; have s1 := v4.cell 1 (v := .int .u8 s.kind) rfl; have s2 := v4.cell 2 (v := .int .i64 s.next) rfl; have s3 := v4.cell 3 (v := .int .i64 s.other) rfl; have R4 := hid (R2.out.below l4); have B4 := hid (sq B2.out l4); clear v4 l4 kill V3 L3 hb3 X2 R2 B2) | (have kill := X2.out; refine al34 rfl rfl ?_; intro b3 w3 hb3 v3 l3; have V3 := hid v3; have L3 := hid l3; clear v3 l3 kill) | (have kill := A.out; go_at_call 16; refine (find12 ao len cap l k.r.pos _ (HG.out.below A.out.bel)).mono ?_; rintro e w2 ⟨rfl, l2⟩; rw [HS.out, HB.out]; have B2 := hid (sq A.out.bel l2); have X2 := hid (A.out.wv.below l2); have R2 := hid (A.out.res.below l2); clear l2 kill A))
      refine bodyPost_ret (res_c0 Try.results11 _ _ rfl R9.out) rfl ⟨?_, B9.out⟩
      rw [HK.out, HE.out]
    have HB := hid hB
    cases hK : kindB s.kind
    case false =>
      have HKi := hid hK
      have HE : Hid (K = k) := hid (run_stop A.out.run (go_no2 hs (goes_kind k hK)))
      clear hs hB hK
      go_wp2_with (first | (have kill := R4.out; refine st30 (r := k.r) (w0 := w) R4.out B4.out hb6.out rfl _ _ rfl rfl rfl ?_; intro w9 v9 l9; have R9 := hid v9; have B9 := hid l9; clear v9 l9 kill R4 B4) | (have kill := X4.out; refine ld30 X4.out rfl _ rfl rfl ?_; clear kill X4) | (have kill := X4.out; go_at_call 17; refine (kind25 s.kind _).mono ?_; rw [HKi.out]; rintro e w2 ⟨rfl, rfl⟩; clear kill) | (have kill := V3.out; refine st34 (r := s) V3.out L3.out hb3 rfl _ _ rfl rfl rfl ?_; intro w4 v4 l4; have X4 := hid (X2.out.below l4); have c2 := X4.out.cell 2 (v := .bool k.r.asked) rfl; have c1 := X4.out.cell 1 (v := .int .i64 k.r.steps) rfl; rw [A0.out.steps] at c1; have s0 := v4.cell 0 (v := .int .i64 s.id) rfl; have s1 := v4.cell 1 (v := .int .u8 s.kind) rfl; have s2 := v4.cell 2 (v := .int .i64 s.next) rfl; have s3 := v4.cell 3 (v := .int .i64 s.other) rfl; have R4 := hid (R2.out.below l4); have B4 := hid (sq B2.out l4); clear v4 l4 kill V3 L3 hb3 X2 R2 B2) | (have kill := X2.out; refine al34 rfl rfl ?_; intro b3 w3 hb3 v3 l3; have V3 := hid v3; have L3 := hid l3; clear v3 l3 kill) | (have kill := A.out; go_at_call 16; refine (find12 ao len cap l k.r.pos _ (HG.out.below A.out.bel)).mono ?_; rintro e w2 ⟨rfl, l2⟩; rw [HS.out, HB.out]; have B2 := hid (sq A.out.bel l2); have X2 := hid (A.out.wv.below l2); have R2 := hid (A.out.res.below l2); clear l2 kill A))
      refine bodyPost_ret (res_c0 Try.results11 _ _ rfl R9.out) rfl ⟨?_, B9.out⟩
      rw [HK.out, HE.out]
    have HKi := hid hK
    by_cases hZ : s.kind = 90
    case pos =>
      have hz : (s.kind == 90) = true := by simpa using hZ
      have HE : Hid (K = k) := hid (run_stop A.out.run (go_no2 hs (goes_Z k hZ)))
      clear hs hB hK hZ
      go_wp2_with (first | (have kill := R4.out; refine st30 (r := k.r) (w0 := w) R4.out B4.out hb6.out rfl _ _ rfl rfl rfl ?_; intro w9 v9 l9; have R9 := hid v9; have B9 := hid l9; clear v9 l9 kill R4 B4) | (have kill := X4.out; refine ld30 X4.out rfl _ rfl rfl ?_; clear kill X4) | (have kill := X4.out; go_at_call 17; refine (kind25 s.kind _).mono ?_; rw [HKi.out]; rintro e w2 ⟨rfl, rfl⟩; clear kill) | (have kill := V3.out; refine st34 (r := s) V3.out L3.out hb3 rfl _ _ rfl rfl rfl ?_; intro w4 v4 l4; have X4 := hid (X2.out.below l4); have c2 := X4.out.cell 2 (v := .bool k.r.asked) rfl; have c1 := X4.out.cell 1 (v := .int .i64 k.r.steps) rfl; rw [A0.out.steps] at c1; have s0 := v4.cell 0 (v := .int .i64 s.id) rfl; have s1 := v4.cell 1 (v := .int .u8 s.kind) rfl; have s2 := v4.cell 2 (v := .int .i64 s.next) rfl; have s3 := v4.cell 3 (v := .int .i64 s.other) rfl; have R4 := hid (R2.out.below l4); have B4 := hid (sq B2.out l4); clear v4 l4 kill V3 L3 hb3 X2 R2 B2) | (have kill := X2.out; refine al34 rfl rfl ?_; intro b3 w3 hb3 v3 l3; have V3 := hid v3; have L3 := hid l3; clear v3 l3 kill) | (have kill := A.out; go_at_call 16; refine (find12 ao len cap l k.r.pos _ (HG.out.below A.out.bel)).mono ?_; rintro e w2 ⟨rfl, l2⟩; rw [HS.out, HB.out]; have B2 := hid (sq A.out.bel l2); have X2 := hid (A.out.wv.below l2); have R2 := hid (A.out.res.below l2); clear l2 kill A))
      refine bodyPost_ret (res_c0 Try.results11 _ _ rfl R9.out) rfl ⟨?_, B9.out⟩
      rw [HK.out, HE.out]
    have hz : (s.kind == 90) = false := by simpa using hZ
    by_cases h73 : s.kind = 73
    case pos =>
      have hi : (s.kind == 73) = true := by simpa using h73
      have HI := hid (step_I k h73)
      by_cases hp : k.pan = ⟨#[]⟩
      case pos =>
        have hn1 : k.pan.toList.isEmpty = true := by rw [hp, ByteArray.toList_eq]; rfl
        have HE := hid (nx_of A.out.run hn hs hB HI.out.2.2 (HI.out.1.trans (askK_no (hasTo_no2 hp))) HI.out.2.1)
        clear hs hB hK hZ h73 hp
        go_wp2_with (first | (have kill := X6.out; refine rSteps X6.out rfl _ _ rfl rfl rfl ?_; intro w7 v l; have X7 : Hid (RR w7 b7 (advK k s.next).r) := hid (rs_adv (k := k) (p := s.next) A0.out.steps ▸ v); have M7 := hid (stepsAt_of (v.cell 1 (v := .int .i64 ((n + 1 : Nat) : Int)) rfl)); have R7 := hid (R6.out.kept (l.block b6 R6.out.lt hb6b.out.2)); have B7 := hid (One.below l B6.out hb6b.out.1 B6.out.size); clear v l kill X6 R6 B6) | (have kill := X4.out; refine rPos X4.out rfl _ _ rfl rfl rfl ?_; intro w6 v l; have X6 := hid v; have c1 := v.cell 1 (v := .int .i64 k.r.steps) rfl; rw [A0.out.steps] at c1; have R6 := hid (R4.out.kept (l.block b6 R4.out.lt hb6b.out.2)); have B6 := hid (One.below l B4.out hb6b.out.1 B4.out.size); clear v l kill X4 R4 B4) | (have kill := X4.out; go_at_call 17; refine (kind25 s.kind _).mono ?_; rw [HKi.out]; rintro e w2 ⟨rfl, rfl⟩; clear kill) | (have kill := V3.out; refine st34 (r := s) V3.out L3.out hb3 rfl _ _ rfl rfl rfl ?_; intro w4 v4 l4; have X4 := hid (X2.out.below l4); have c2 := X4.out.cell 2 (v := .bool k.r.asked) rfl; have c1 := X4.out.cell 1 (v := .int .i64 k.r.steps) rfl; rw [A0.out.steps] at c1; have s0 := v4.cell 0 (v := .int .i64 s.id) rfl; have s1 := v4.cell 1 (v := .int .u8 s.kind) rfl; have s2 := v4.cell 2 (v := .int .i64 s.next) rfl; have s3 := v4.cell 3 (v := .int .i64 s.other) rfl; have R4 := hid (R2.out.below l4); have B4 := hid (sq B2.out l4); clear v4 l4 kill V3 L3 hb3 X2 R2 B2) | (have kill := X2.out; refine al34 rfl rfl ?_; intro b3 w3 hb3 v3 l3; have V3 := hid v3; have L3 := hid l3; clear v3 l3 kill) | (have kill := A.out; go_at_call 16; refine (find12 ao len cap l k.r.pos _ (HG.out.below A.out.bel)).mono ?_; rintro e w2 ⟨rfl, l2⟩; rw [HS.out, HB.out]; have B2 := hid (sq A.out.bel l2); have X2 := hid (A.out.wv.below l2); have R2 := hid (A.out.res.below l2); clear l2 kill A))
        go_frame
        go_roundw
        case rel => exact ⟨n + 1, advK k s.next, ao2, len2, cap2, rfl, rfl, rfl, ⟨by omega, by unfold advK; simp [A0.out.steps], HE.out, X7.out, A0.out.giv, R7.out, B7.out⟩⟩
        case measure => rw [M7.out, M1.out]; omega
      have hn1 := not_empty hp
      by_cases hm : k.amt = 0
      case pos =>
        have hm0 : (k.amt != 0) = false := by rw [hm]; rfl
        have HM := hid hm
        have HE := hid (nx_of A.out.run hn hs hB HI.out.2.2 (HI.out.1.trans (askK_no (hasTo_no3 hm))) HI.out.2.1)
        clear hs hB hK hZ h73 hp hm
        go_wp2_with (first | (have kill := X6.out; refine rSteps X6.out rfl _ _ rfl rfl rfl ?_; intro w7 v l; have X7 : Hid (RR w7 b7 (advK k s.next).r) := hid (rs_adv (k := k) (p := s.next) A0.out.steps ▸ v); have M7 := hid (stepsAt_of (v.cell 1 (v := .int .i64 ((n + 1 : Nat) : Int)) rfl)); have R7 := hid (R6.out.kept (l.block b6 R6.out.lt hb6b.out.2)); have B7 := hid (One.below l B6.out hb6b.out.1 B6.out.size); clear v l kill X6 R6 B6) | (have kill := X4.out; refine rPos X4.out rfl _ _ rfl rfl rfl ?_; intro w6 v l; have X6 := hid v; have c1 := v.cell 1 (v := .int .i64 k.r.steps) rfl; rw [A0.out.steps] at c1; have R6 := hid (R4.out.kept (l.block b6 R4.out.lt hb6b.out.2)); have B6 := hid (One.below l B4.out hb6b.out.1 B4.out.size); clear v l kill X4 R4 B4) | (have kill := X4.out; go_at_call 17; refine (kind25 s.kind _).mono ?_; rw [HKi.out]; rintro e w2 ⟨rfl, rfl⟩; clear kill) | (have kill := V3.out; refine st34 (r := s) V3.out L3.out hb3 rfl _ _ rfl rfl rfl ?_; intro w4 v4 l4; have X4 := hid (X2.out.below l4); have c2 := X4.out.cell 2 (v := .bool k.r.asked) rfl; have c1 := X4.out.cell 1 (v := .int .i64 k.r.steps) rfl; rw [A0.out.steps] at c1; have s0 := v4.cell 0 (v := .int .i64 s.id) rfl; have s1 := v4.cell 1 (v := .int .u8 s.kind) rfl; have s2 := v4.cell 2 (v := .int .i64 s.next) rfl; have s3 := v4.cell 3 (v := .int .i64 s.other) rfl; have R4 := hid (R2.out.below l4); have B4 := hid (sq B2.out l4); clear v4 l4 kill V3 L3 hb3 X2 R2 B2) | (have kill := X2.out; refine al34 rfl rfl ?_; intro b3 w3 hb3 v3 l3; have V3 := hid v3; have L3 := hid l3; clear v3 l3 kill) | (have kill := A.out; go_at_call 16; refine (find12 ao len cap l k.r.pos _ (HG.out.below A.out.bel)).mono ?_; rintro e w2 ⟨rfl, l2⟩; rw [HS.out, HB.out]; have B2 := hid (sq A.out.bel l2); have X2 := hid (A.out.wv.below l2); have R2 := hid (A.out.res.below l2); clear l2 kill A))
        go_frame
        go_roundw
        case rel => exact ⟨n + 1, advK k s.next, ao2, len2, cap2, rfl, rfl, (by show _ = Value.int .i64 k.amt; first | rfl | rw [HM.out]), ⟨by omega, by unfold advK; simp [A0.out.steps], HE.out, X7.out, A0.out.giv, R7.out, B7.out⟩⟩
        case measure => rw [M7.out, M1.out]; omega
      have hm0 : (k.amt != 0) = true := by simpa using hm
      cases ha : k.r.asked
      case true =>
        have HA := hid ha
        have HE := hid (nx_of A.out.run hn hs hB HI.out.2.2 (HI.out.1.trans (askK_no (hasTo_no1 ha))) HI.out.2.1)
        clear hs hB hK hZ h73 hp hm ha
        go_wp2_with (first | (have kill := X6.out; refine rSteps X6.out rfl _ _ rfl rfl rfl ?_; intro w7 v l; have X7 : Hid (RR w7 b7 (advK k s.next).r) := hid (rs_adv (k := k) (p := s.next) A0.out.steps ▸ v); have M7 := hid (stepsAt_of (v.cell 1 (v := .int .i64 ((n + 1 : Nat) : Int)) rfl)); have R7 := hid (R6.out.kept (l.block b6 R6.out.lt hb6b.out.2)); have B7 := hid (One.below l B6.out hb6b.out.1 B6.out.size); clear v l kill X6 R6 B6) | (have kill := X4.out; refine rPos X4.out rfl _ _ rfl rfl rfl ?_; intro w6 v l; have X6 := hid v; have c1 := v.cell 1 (v := .int .i64 k.r.steps) rfl; rw [A0.out.steps] at c1; have R6 := hid (R4.out.kept (l.block b6 R4.out.lt hb6b.out.2)); have B6 := hid (One.below l B4.out hb6b.out.1 B4.out.size); clear v l kill X4 R4 B4) | (have kill := X4.out; go_at_call 17; refine (kind25 s.kind _).mono ?_; rw [HKi.out]; rintro e w2 ⟨rfl, rfl⟩; clear kill) | (have kill := V3.out; refine st34 (r := s) V3.out L3.out hb3 rfl _ _ rfl rfl rfl ?_; intro w4 v4 l4; have X4 := hid (X2.out.below l4); have c2 := X4.out.cell 2 (v := .bool k.r.asked) rfl; have c1 := X4.out.cell 1 (v := .int .i64 k.r.steps) rfl; rw [A0.out.steps] at c1; have s0 := v4.cell 0 (v := .int .i64 s.id) rfl; have s1 := v4.cell 1 (v := .int .u8 s.kind) rfl; have s2 := v4.cell 2 (v := .int .i64 s.next) rfl; have s3 := v4.cell 3 (v := .int .i64 s.other) rfl; rw [HA.out] at c2; have R4 := hid (R2.out.below l4); have B4 := hid (sq B2.out l4); clear v4 l4 kill V3 L3 hb3 X2 R2 B2) | (have kill := X2.out; refine al34 rfl rfl ?_; intro b3 w3 hb3 v3 l3; have V3 := hid v3; have L3 := hid l3; clear v3 l3 kill) | (have kill := A.out; go_at_call 16; refine (find12 ao len cap l k.r.pos _ (HG.out.below A.out.bel)).mono ?_; rintro e w2 ⟨rfl, l2⟩; rw [HS.out, HB.out]; have B2 := hid (sq A.out.bel l2); have X2 := hid (A.out.wv.below l2); have R2 := hid (A.out.res.below l2); clear l2 kill A))
        go_frame
        go_roundw
        case rel => exact ⟨n + 1, advK k s.next, ao2, len2, cap2, rfl, rfl, rfl, ⟨by omega, by unfold advK; simp [A0.out.steps], HE.out, X7.out, A0.out.giv, R7.out, B7.out⟩⟩
        case measure => rw [M7.out, M1.out]; omega
      have HA := hid ha
      have HE := hid (nx_of A.out.run hn hs hB HI.out.2.2 (HI.out.1.trans (askK_yes (hasTo_yes ha hp hm))) HI.out.2.1)
      clear hs hB hK hZ h73 hp hm ha
      go_wp2_with (first | (have kill := X6.out; refine rSteps X6.out rfl _ _ rfl rfl rfl ?_; intro w7 v l; have X7 : Hid (RR w7 b7 (advK { k with r := { k.r with asked := true, pan := k.pan, amt := k.amt } } s.next).r) := hid (rs_adv (k := { k with r := { k.r with asked := true, pan := k.pan, amt := k.amt } }) (p := s.next) A0.out.steps ▸ v); have M7 := hid (stepsAt_of (v.cell 1 (v := .int .i64 ((n + 1 : Nat) : Int)) rfl)); have R7 := hid (R6.out.kept (l.block b6 R6.out.lt hb6b.out.2)); have B7 := hid (One.below l B6.out hb6b.out.1 B6.out.size); clear v l kill X6 R6 B6) | (have kill := Xc.out; refine rPos Xc.out rfl _ _ rfl rfl rfl ?_; intro w6 v l; have X6 := hid v; have c1 := v.cell 1 (v := .int .i64 k.r.steps) rfl; rw [A0.out.steps] at c1; have R6 := hid (Rc.out.kept (l.block b6 Rc.out.lt hb6b.out.2)); have B6 := hid (One.below l Bc.out hb6b.out.1 Bc.out.size); clear v l kill Xc Rc Bc) | (have kill := Xb.out; refine rAmt Xb.out rfl _ _ rfl rfl rfl ?_; intro w4c v l; have Xc := hid v; have Rc := hid (Rb.out.kept (l.block b6 Rb.out.lt hb6b.out.2)); have Bc := hid (One.below l Bb.out hb6b.out.1 Bb.out.size); clear v l kill Xb Rb Bb) | (have kill := Xa.out; refine rPan Xa.out rfl _ _ rfl rfl rfl ?_; intro w4b v l; have Xb := hid v; have Rb := hid (Ra.out.kept (l.block b6 Ra.out.lt hb6b.out.2)); have Bb := hid (One.below l Ba.out hb6b.out.1 Ba.out.size); clear v l kill Xa Ra Ba) | (have kill := X4.out; refine rAsked X4.out rfl _ _ rfl rfl rfl ?_; intro w4a v l; have Xa := hid v; have Ra := hid (R4.out.kept (l.block b6 R4.out.lt hb6b.out.2)); have Ba := hid (One.below l B4.out hb6b.out.1 B4.out.size); clear v l kill X4 R4 B4) | (have kill := X4.out; go_at_call 17; refine (kind25 s.kind _).mono ?_; rw [HKi.out]; rintro e w2 ⟨rfl, rfl⟩; clear kill) | (have kill := V3.out; refine st34 (r := s) V3.out L3.out hb3 rfl _ _ rfl rfl rfl ?_; intro w4 v4 l4; have X4 := hid (X2.out.below l4); have c2 := X4.out.cell 2 (v := .bool k.r.asked) rfl; have c1 := X4.out.cell 1 (v := .int .i64 k.r.steps) rfl; rw [A0.out.steps] at c1; have s0 := v4.cell 0 (v := .int .i64 s.id) rfl; have s1 := v4.cell 1 (v := .int .u8 s.kind) rfl; have s2 := v4.cell 2 (v := .int .i64 s.next) rfl; have s3 := v4.cell 3 (v := .int .i64 s.other) rfl; rw [HA.out] at c2; have R4 := hid (R2.out.below l4); have B4 := hid (sq B2.out l4); clear v4 l4 kill V3 L3 hb3 X2 R2 B2) | (have kill := X2.out; refine al34 rfl rfl ?_; intro b3 w3 hb3 v3 l3; have V3 := hid v3; have L3 := hid l3; clear v3 l3 kill) | (have kill := A.out; go_at_call 16; refine (find12 ao len cap l k.r.pos _ (HG.out.below A.out.bel)).mono ?_; rintro e w2 ⟨rfl, l2⟩; rw [HS.out, HB.out]; have B2 := hid (sq A.out.bel l2); have X2 := hid (A.out.wv.below l2); have R2 := hid (A.out.res.below l2); clear l2 kill A))
      go_frame
      go_roundw
      case rel => exact ⟨n + 1, advK { k with r := { k.r with asked := true, pan := k.pan, amt := k.amt } } s.next, ao2, len2, cap2, rfl, rfl, rfl, ⟨by omega, by unfold advK; simp [A0.out.steps], HE.out, X7.out, A0.out.giv, R7.out, B7.out⟩⟩
      case measure => rw [M7.out, M1.out]; omega
    have hi : (s.kind == 73) = false := by simpa using h73
    have ht : takesB s.kind = true := by rcases kind_cases hK hZ with h | h; exact absurd h h73; exact h
    cases hins : k.ins with
    | nil =>
      have HE : Hid (K = k) := hid (run_stop A.out.run (go_no2 hs (step_N h73 hins).2.2))
      obtain rfl : len2 = 0 := by have := A.out.giv.leq; rw [hins] at this; exact this.symm
      clear hs hB hK hZ h73 ht hins
      go_wp2_with (first | (have kill := R4.out; refine st30 (r := k.r) (w0 := w) R4.out B4.out hb6.out rfl _ _ rfl rfl rfl ?_; intro w9 v9 l9; have R9 := hid v9; have B9 := hid l9; clear v9 l9 kill R4 B4) | (have kill := X4.out; refine ld30 X4.out rfl _ rfl rfl ?_; clear kill X4) | (have kill := X4.out; go_at_call 17; refine (kind25 s.kind _).mono ?_; rw [HKi.out]; rintro e w2 ⟨rfl, rfl⟩; clear kill) | (have kill := V3.out; refine st34 (r := s) V3.out L3.out hb3 rfl _ _ rfl rfl rfl ?_; intro w4 v4 l4; have X4 := hid (X2.out.below l4); have c2 := X4.out.cell 2 (v := .bool k.r.asked) rfl; have c1 := X4.out.cell 1 (v := .int .i64 k.r.steps) rfl; rw [A0.out.steps] at c1; have s0 := v4.cell 0 (v := .int .i64 s.id) rfl; have s1 := v4.cell 1 (v := .int .u8 s.kind) rfl; have s2 := v4.cell 2 (v := .int .i64 s.next) rfl; have s3 := v4.cell 3 (v := .int .i64 s.other) rfl; have R4 := hid (R2.out.below l4); have B4 := hid (sq B2.out l4); clear v4 l4 kill V3 L3 hb3 X2 R2 B2) | (have kill := X2.out; refine al34 rfl rfl ?_; intro b3 w3 hb3 v3 l3; have V3 := hid v3; have L3 := hid l3; clear v3 l3 kill) | (have kill := A.out; go_at_call 16; refine (find12 ao len cap l k.r.pos _ (HG.out.below A.out.bel)).mono ?_; rintro e w2 ⟨rfl, l2⟩; rw [HS.out, HB.out]; have B2 := hid (sq A.out.bel l2); have X2 := hid (A.out.wv.below l2); have R2 := hid (A.out.res.below l2); clear l2 kill A))
      refine bodyPost_ret (res_c0 Try.results11 _ _ rfl R9.out) rfl ⟨?_, B9.out⟩
      rw [HK.out, HE.out]
    | cons x t =>
      have hl := A.out.giv.leq
      rw [hins] at hl
      obtain ⟨m, rfl⟩ : ∃ m, len2 = m + 1 := ⟨t.length, by simpa using hl.symm⟩
      obtain ⟨ao', hr, hg⟩ : ∃ ao', (∀ w, (Instr.sliceAt 26 (.slice ao2 (m + 1) cap2) (some (.int .i64 1)) none none).run Try.prog w = .ok (.slice ao' m (cap2 - 1)) w) ∧ (∀ w zs, T.Given w ao2 (m + 1) cap2 zs → T.Given w ao' m (cap2 - 1) (zs.drop 1)) := by
        obtain ⟨ao', h1, h2⟩ := T.sub_l (ao := ao2) (len := m + 1) (cap := cap2) 1 1 rfl (by omega) A.out.giv.cap1
        exact ⟨ao', h1, h2⟩
      have GT : Hid (T.Given w ao' m (cap2 - 1) t) := hid (by have := hg w _ A.out.giv; rw [hins] at this; exact this)
      rcases A.out.giv.row with h0 | ⟨q, oq, rfl, hc⟩
      · rw [hins] at h0; cases h0
      have hq := hc 0 (by rw [hins]; simp)
      rw [hins] at hq
      have HQ : Hid (w.cell? ⟨q, oq, none⟩ = some (.string x)) := hid (by simpa using hq)
      have HX := hid (A.out.giv.byt x (by rw [hins]; exact List.mem_cons_self))
      have HTk := hid (step_T h73 ht hins)
      clear hl hg hc hq h73 hZ hK hins
      rcases takes_cases ht with hk | hk | hk | hk
      · have k1 : (s.kind == 65) = true := by simpa using hk
        cases hpn : panB x
        case false =>
          have HL := hid (take_A0 k.pan k.amt hk hpn)
          have HPn := hid hpn
          have HE := hid (nx_of (k' := { k with ins := t }) (p := s.id) A.out.run hn hs hB HTk.out.2.2 (HTk.out.1.trans (by rw [HL.out.2.1, HL.out.2.2])) (HTk.out.2.1.trans HL.out.1))
          have TN := hid True.intro
          have TP := hid True.intro
          clear hs hB ht hk
          clear hpn
          go_wp2_with (first | (have kill := X6.out; refine rSteps X6.out rfl _ _ rfl rfl rfl ?_; intro w7 v l; have X7 : Hid (RR w7 b7 (advK { k with ins := t } s.id).r) := hid (rs_adv (k := { k with ins := t }) (p := s.id) A0.out.steps ▸ v); have M7 := hid (stepsAt_of (v.cell 1 (v := .int .i64 ((n + 1 : Nat) : Int)) rfl)); have R7 := hid (R6.out.kept (l.block b6 R6.out.lt hb6b.out.2)); have B7 := hid (One.below l B6.out hb6b.out.1 B6.out.size); clear v l kill X6 R6 B6) | (have kill := X4.out; refine rPos X4.out rfl _ _ rfl rfl rfl ?_; intro w6 v l; have X6 := hid v; have c1 := v.cell 1 (v := .int .i64 k.r.steps) rfl; rw [A0.out.steps] at c1; have R6 := hid (R4.out.kept (l.block b6 R4.out.lt hb6b.out.2)); have B6 := hid (One.below l B4.out hb6b.out.1 B4.out.size); clear v l kill X4 R4 B4) | (have kill := TP.out; go_at_call 19; refine (pan20 x _ HX.out).mono ?_; rw [HPn.out]; rintro e w5 ⟨rfl, rfl⟩; clear kill TP) | (have kill := TN.out; go_at_call 18; refine (num9 x _ HX.out).mono ?_; rintro e w5 ⟨rfl, rfl⟩; clear kill TN) | (have kill := X4.out; go_at_call 17; refine (kind25 s.kind _).mono ?_; rw [HKi.out]; rintro e w2 ⟨rfl, rfl⟩; clear kill) | (have kill := V3.out; refine st34 (r := s) V3.out L3.out hb3 rfl _ _ rfl rfl rfl ?_; intro w4 v4 l4; have X4 := hid (X2.out.below l4); have c2 := X4.out.cell 2 (v := .bool k.r.asked) rfl; have c1 := X4.out.cell 1 (v := .int .i64 k.r.steps) rfl; rw [A0.out.steps] at c1; have s0 := v4.cell 0 (v := .int .i64 s.id) rfl; have s1 := v4.cell 1 (v := .int .u8 s.kind) rfl; have s2 := v4.cell 2 (v := .int .i64 s.next) rfl; have s3 := v4.cell 3 (v := .int .i64 s.other) rfl; have R4 := hid (R2.out.below l4); have B4 := hid (sq B2.out l4); have cx := cellkept HQ.out B4.out; clear v4 l4 kill V3 L3 hb3 X2 R2 B2) | (have kill := X2.out; refine al34 rfl rfl ?_; intro b3 w3 hb3 v3 l3; have V3 := hid v3; have L3 := hid l3; clear v3 l3 kill) | (have kill := A.out; go_at_call 16; refine (find12 ao len cap l k.r.pos _ (HG.out.below A.out.bel)).mono ?_; rintro e w2 ⟨rfl, l2⟩; rw [HS.out, HB.out]; have B2 := hid (sq A.out.bel l2); have X2 := hid (A.out.wv.below l2); have R2 := hid (A.out.res.below l2); clear l2 kill A))
          go_frame
          go_roundw
          case rel => exact ⟨n + 1, advK { k with ins := t } s.id, ao', m, (cap2 - 1), rfl, rfl, rfl, ⟨by omega, by unfold advK; simp [A0.out.steps], HE.out, X7.out, GT.out, R7.out, B7.out⟩⟩
          case measure => rw [M7.out, M1.out]; omega
        have HL := hid (take_A1 k.pan k.amt hk hpn)
        have HPn := hid hpn
        have HE := hid (nx_of (k' := { k with pan := x, ins := t }) (p := s.next) A.out.run hn hs hB HTk.out.2.2 (HTk.out.1.trans (by rw [HL.out.2.1, HL.out.2.2])) (HTk.out.2.1.trans HL.out.1))
        have TN := hid True.intro
        have TP := hid True.intro
        clear hs hB ht hk
        clear hpn
        go_wp2_with (first | (have kill := X6.out; refine rSteps X6.out rfl _ _ rfl rfl rfl ?_; intro w7 v l; have X7 : Hid (RR w7 b7 (advK { k with pan := x, ins := t } s.next).r) := hid (rs_adv (k := { k with pan := x, ins := t }) (p := s.next) A0.out.steps ▸ v); have M7 := hid (stepsAt_of (v.cell 1 (v := .int .i64 ((n + 1 : Nat) : Int)) rfl)); have R7 := hid (R6.out.kept (l.block b6 R6.out.lt hb6b.out.2)); have B7 := hid (One.below l B6.out hb6b.out.1 B6.out.size); clear v l kill X6 R6 B6) | (have kill := X4.out; refine rPos X4.out rfl _ _ rfl rfl rfl ?_; intro w6 v l; have X6 := hid v; have c1 := v.cell 1 (v := .int .i64 k.r.steps) rfl; rw [A0.out.steps] at c1; have R6 := hid (R4.out.kept (l.block b6 R4.out.lt hb6b.out.2)); have B6 := hid (One.below l B4.out hb6b.out.1 B4.out.size); clear v l kill X4 R4 B4) | (have kill := TP.out; go_at_call 19; refine (pan20 x _ HX.out).mono ?_; rw [HPn.out]; rintro e w5 ⟨rfl, rfl⟩; clear kill TP) | (have kill := TN.out; go_at_call 18; refine (num9 x _ HX.out).mono ?_; rintro e w5 ⟨rfl, rfl⟩; clear kill TN) | (have kill := X4.out; go_at_call 17; refine (kind25 s.kind _).mono ?_; rw [HKi.out]; rintro e w2 ⟨rfl, rfl⟩; clear kill) | (have kill := V3.out; refine st34 (r := s) V3.out L3.out hb3 rfl _ _ rfl rfl rfl ?_; intro w4 v4 l4; have X4 := hid (X2.out.below l4); have c2 := X4.out.cell 2 (v := .bool k.r.asked) rfl; have c1 := X4.out.cell 1 (v := .int .i64 k.r.steps) rfl; rw [A0.out.steps] at c1; have s0 := v4.cell 0 (v := .int .i64 s.id) rfl; have s1 := v4.cell 1 (v := .int .u8 s.kind) rfl; have s2 := v4.cell 2 (v := .int .i64 s.next) rfl; have s3 := v4.cell 3 (v := .int .i64 s.other) rfl; have R4 := hid (R2.out.below l4); have B4 := hid (sq B2.out l4); have cx := cellkept HQ.out B4.out; clear v4 l4 kill V3 L3 hb3 X2 R2 B2) | (have kill := X2.out; refine al34 rfl rfl ?_; intro b3 w3 hb3 v3 l3; have V3 := hid v3; have L3 := hid l3; clear v3 l3 kill) | (have kill := A.out; go_at_call 16; refine (find12 ao len cap l k.r.pos _ (HG.out.below A.out.bel)).mono ?_; rintro e w2 ⟨rfl, l2⟩; rw [HS.out, HB.out]; have B2 := hid (sq A.out.bel l2); have X2 := hid (A.out.wv.below l2); have R2 := hid (A.out.res.below l2); clear l2 kill A))
        go_frame
        go_roundw
        case rel => exact ⟨n + 1, advK { k with pan := x, ins := t } s.next, ao', m, (cap2 - 1), rfl, rfl, rfl, ⟨by omega, by unfold advK; simp [A0.out.steps], HE.out, X7.out, GT.out, R7.out, B7.out⟩⟩
        case measure => rw [M7.out, M1.out]; omega
      · have k1 : (s.kind == 65) = false := by rw [hk]; rfl
        have k2 : (s.kind == 66) = true := by simpa using hk
        by_cases h4 : x.size = 4
        case neg =>
          have hd4 : ((x.size : Int) != 4) = true := by simp; omega
          have HL := hid (take_B0 k.pan k.amt hk (pin_n4 h4))
          have HE := hid (nx_of (k' := { k with ins := t }) (p := s.other) A.out.run hn hs hB HTk.out.2.2 (HTk.out.1.trans (by rw [HL.out.2.1, HL.out.2.2])) (HTk.out.2.1.trans HL.out.1))
          have TN := hid True.intro
          have TP := hid True.intro
          clear hs hB ht hk
          clear h4
          go_wp2_with (first | (have kill := X6.out; refine rSteps X6.out rfl _ _ rfl rfl rfl ?_; intro w7 v l; have X7 : Hid (RR w7 b7 (advK { k with ins := t } s.other).r) := hid (rs_adv (k := { k with ins := t }) (p := s.other) A0.out.steps ▸ v); have M7 := hid (stepsAt_of (v.cell 1 (v := .int .i64 ((n + 1 : Nat) : Int)) rfl)); have R7 := hid (R6.out.kept (l.block b6 R6.out.lt hb6b.out.2)); have B7 := hid (One.below l B6.out hb6b.out.1 B6.out.size); clear v l kill X6 R6 B6) | (have kill := X4.out; refine rPos X4.out rfl _ _ rfl rfl rfl ?_; intro w6 v l; have X6 := hid v; have c1 := v.cell 1 (v := .int .i64 k.r.steps) rfl; rw [A0.out.steps] at c1; have R6 := hid (R4.out.kept (l.block b6 R4.out.lt hb6b.out.2)); have B6 := hid (One.below l B4.out hb6b.out.1 B4.out.size); clear v l kill X4 R4 B4) | (have kill := TP.out; go_at_call 19; refine (pan20 x _ HX.out).mono ?_; rw [HPn.out]; rintro e w5 ⟨rfl, rfl⟩; clear kill TP) | (have kill := TN.out; go_at_call 18; refine (num9 x _ HX.out).mono ?_; rintro e w5 ⟨rfl, rfl⟩; clear kill TN) | (have kill := X4.out; go_at_call 17; refine (kind25 s.kind _).mono ?_; rw [HKi.out]; rintro e w2 ⟨rfl, rfl⟩; clear kill) | (have kill := V3.out; refine st34 (r := s) V3.out L3.out hb3 rfl _ _ rfl rfl rfl ?_; intro w4 v4 l4; have X4 := hid (X2.out.below l4); have c2 := X4.out.cell 2 (v := .bool k.r.asked) rfl; have c1 := X4.out.cell 1 (v := .int .i64 k.r.steps) rfl; rw [A0.out.steps] at c1; have s0 := v4.cell 0 (v := .int .i64 s.id) rfl; have s1 := v4.cell 1 (v := .int .u8 s.kind) rfl; have s2 := v4.cell 2 (v := .int .i64 s.next) rfl; have s3 := v4.cell 3 (v := .int .i64 s.other) rfl; have R4 := hid (R2.out.below l4); have B4 := hid (sq B2.out l4); have cx := cellkept HQ.out B4.out; clear v4 l4 kill V3 L3 hb3 X2 R2 B2) | (have kill := X2.out; refine al34 rfl rfl ?_; intro b3 w3 hb3 v3 l3; have V3 := hid v3; have L3 := hid l3; clear v3 l3 kill) | (have kill := A.out; go_at_call 16; refine (find12 ao len cap l k.r.pos _ (HG.out.below A.out.bel)).mono ?_; rintro e w2 ⟨rfl, l2⟩; rw [HS.out, HB.out]; have B2 := hid (sq A.out.bel l2); have X2 := hid (A.out.wv.below l2); have R2 := hid (A.out.res.below l2); clear l2 kill A))
          go_frame
          go_roundw
          case rel => exact ⟨n + 1, advK { k with ins := t } s.other, ao', m, (cap2 - 1), rfl, rfl, rfl, ⟨by omega, by unfold advK; simp [A0.out.steps], HE.out, X7.out, GT.out, R7.out, B7.out⟩⟩
          case measure => rw [M7.out, M1.out]; omega
        have hd4 : ((x.size : Int) != 4) = false := by simp; omega
        cases hok : numOk x
        case false =>
          have HL := hid (take_B0 k.pan k.amt hk ((pin_4 h4).trans hok))
          have HOk := hid hok
          have HE := hid (nx_of (k' := { k with ins := t }) (p := s.other) A.out.run hn hs hB HTk.out.2.2 (HTk.out.1.trans (by rw [HL.out.2.1, HL.out.2.2])) (HTk.out.2.1.trans HL.out.1))
          have TN := hid True.intro
          have TP := hid True.intro
          clear hs hB ht hk
          clear h4 hok
          go_wp2_with (first | (have kill := X6.out; refine rSteps X6.out rfl _ _ rfl rfl rfl ?_; intro w7 v l; have X7 : Hid (RR w7 b7 (advK { k with ins := t } s.other).r) := hid (rs_adv (k := { k with ins := t }) (p := s.other) A0.out.steps ▸ v); have M7 := hid (stepsAt_of (v.cell 1 (v := .int .i64 ((n + 1 : Nat) : Int)) rfl)); have R7 := hid (R6.out.kept (l.block b6 R6.out.lt hb6b.out.2)); have B7 := hid (One.below l B6.out hb6b.out.1 B6.out.size); clear v l kill X6 R6 B6) | (have kill := X4.out; refine rPos X4.out rfl _ _ rfl rfl rfl ?_; intro w6 v l; have X6 := hid v; have c1 := v.cell 1 (v := .int .i64 k.r.steps) rfl; rw [A0.out.steps] at c1; have R6 := hid (R4.out.kept (l.block b6 R4.out.lt hb6b.out.2)); have B6 := hid (One.below l B4.out hb6b.out.1 B4.out.size); clear v l kill X4 R4 B4) | (have kill := TP.out; go_at_call 19; refine (pan20 x _ HX.out).mono ?_; rw [HPn.out]; rintro e w5 ⟨rfl, rfl⟩; clear kill TP) | (have kill := TN.out; go_at_call 18; refine (num9 x _ HX.out).mono ?_; rw [HOk.out]; rintro e w5 ⟨rfl, rfl⟩; clear kill TN) | (have kill := X4.out; go_at_call 17; refine (kind25 s.kind _).mono ?_; rw [HKi.out]; rintro e w2 ⟨rfl, rfl⟩; clear kill) | (have kill := V3.out; refine st34 (r := s) V3.out L3.out hb3 rfl _ _ rfl rfl rfl ?_; intro w4 v4 l4; have X4 := hid (X2.out.below l4); have c2 := X4.out.cell 2 (v := .bool k.r.asked) rfl; have c1 := X4.out.cell 1 (v := .int .i64 k.r.steps) rfl; rw [A0.out.steps] at c1; have s0 := v4.cell 0 (v := .int .i64 s.id) rfl; have s1 := v4.cell 1 (v := .int .u8 s.kind) rfl; have s2 := v4.cell 2 (v := .int .i64 s.next) rfl; have s3 := v4.cell 3 (v := .int .i64 s.other) rfl; have R4 := hid (R2.out.below l4); have B4 := hid (sq B2.out l4); have cx := cellkept HQ.out B4.out; clear v4 l4 kill V3 L3 hb3 X2 R2 B2) | (have kill := X2.out; refine al34 rfl rfl ?_; intro b3 w3 hb3 v3 l3; have V3 := hid v3; have L3 := hid l3; clear v3 l3 kill) | (have kill := A.out; go_at_call 16; refine (find12 ao len cap l k.r.pos _ (HG.out.below A.out.bel)).mono ?_; rintro e w2 ⟨rfl, l2⟩; rw [HS.out, HB.out]; have B2 := hid (sq A.out.bel l2); have X2 := hid (A.out.wv.below l2); have R2 := hid (A.out.res.below l2); clear l2 kill A))
          go_frame
          go_roundw
          case rel => exact ⟨n + 1, advK { k with ins := t } s.other, ao', m, (cap2 - 1), rfl, rfl, rfl, ⟨by omega, by unfold advK; simp [A0.out.steps], HE.out, X7.out, GT.out, R7.out, B7.out⟩⟩
          case measure => rw [M7.out, M1.out]; omega
        have HL := hid (take_B1 k.pan k.amt hk ((pin_4 h4).trans hok))
        have HOk := hid hok
        have HE := hid (nx_of (k' := { k with ins := t }) (p := s.next) A.out.run hn hs hB HTk.out.2.2 (HTk.out.1.trans (by rw [HL.out.2.1, HL.out.2.2])) (HTk.out.2.1.trans HL.out.1))
        have TN := hid True.intro
        have TP := hid True.intro
        clear hs hB ht hk
        clear h4 hok
        go_wp2_with (first | (have kill := X6.out; refine rSteps X6.out rfl _ _ rfl rfl rfl ?_; intro w7 v l; have X7 : Hid (RR w7 b7 (advK { k with ins := t } s.next).r) := hid (rs_adv (k := { k with ins := t }) (p := s.next) A0.out.steps ▸ v); have M7 := hid (stepsAt_of (v.cell 1 (v := .int .i64 ((n + 1 : Nat) : Int)) rfl)); have R7 := hid (R6.out.kept (l.block b6 R6.out.lt hb6b.out.2)); have B7 := hid (One.below l B6.out hb6b.out.1 B6.out.size); clear v l kill X6 R6 B6) | (have kill := X4.out; refine rPos X4.out rfl _ _ rfl rfl rfl ?_; intro w6 v l; have X6 := hid v; have c1 := v.cell 1 (v := .int .i64 k.r.steps) rfl; rw [A0.out.steps] at c1; have R6 := hid (R4.out.kept (l.block b6 R4.out.lt hb6b.out.2)); have B6 := hid (One.below l B4.out hb6b.out.1 B4.out.size); clear v l kill X4 R4 B4) | (have kill := TP.out; go_at_call 19; refine (pan20 x _ HX.out).mono ?_; rw [HPn.out]; rintro e w5 ⟨rfl, rfl⟩; clear kill TP) | (have kill := TN.out; go_at_call 18; refine (num9 x _ HX.out).mono ?_; rw [HOk.out]; rintro e w5 ⟨rfl, rfl⟩; clear kill TN) | (have kill := X4.out; go_at_call 17; refine (kind25 s.kind _).mono ?_; rw [HKi.out]; rintro e w2 ⟨rfl, rfl⟩; clear kill) | (have kill := V3.out; refine st34 (r := s) V3.out L3.out hb3 rfl _ _ rfl rfl rfl ?_; intro w4 v4 l4; have X4 := hid (X2.out.below l4); have c2 := X4.out.cell 2 (v := .bool k.r.asked) rfl; have c1 := X4.out.cell 1 (v := .int .i64 k.r.steps) rfl; rw [A0.out.steps] at c1; have s0 := v4.cell 0 (v := .int .i64 s.id) rfl; have s1 := v4.cell 1 (v := .int .u8 s.kind) rfl; have s2 := v4.cell 2 (v := .int .i64 s.next) rfl; have s3 := v4.cell 3 (v := .int .i64 s.other) rfl; have R4 := hid (R2.out.below l4); have B4 := hid (sq B2.out l4); have cx := cellkept HQ.out B4.out; clear v4 l4 kill V3 L3 hb3 X2 R2 B2) | (have kill := X2.out; refine al34 rfl rfl ?_; intro b3 w3 hb3 v3 l3; have V3 := hid v3; have L3 := hid l3; clear v3 l3 kill) | (have kill := A.out; go_at_call 16; refine (find12 ao len cap l k.r.pos _ (HG.out.below A.out.bel)).mono ?_; rintro e w2 ⟨rfl, l2⟩; rw [HS.out, HB.out]; have B2 := hid (sq A.out.bel l2); have X2 := hid (A.out.wv.below l2); have R2 := hid (A.out.res.below l2); clear l2 kill A))
        go_frame
        go_roundw
        case rel => exact ⟨n + 1, advK { k with ins := t } s.next, ao', m, (cap2 - 1), rfl, rfl, rfl, ⟨by omega, by unfold advK; simp [A0.out.steps], HE.out, X7.out, GT.out, R7.out, B7.out⟩⟩
        case measure => rw [M7.out, M1.out]; omega
      · have k1 : (s.kind == 65) = false := by rw [hk]; rfl
        have k2 : (s.kind == 66) = false := by rw [hk]; rfl
        have k3 : (s.kind == 68) = true := by simpa using hk
        cases hok : numOk x
        case false =>
          have HL := hid (take_D0 k.pan k.amt hk (num_no 7 hok))
          have HOk := hid hok
          have HE := hid (nx_of (k' := { k with ins := t }) (p := s.other) A.out.run hn hs hB HTk.out.2.2 (HTk.out.1.trans (by rw [HL.out.2.1, HL.out.2.2])) (HTk.out.2.1.trans HL.out.1))
          have TN := hid True.intro
          have TP := hid True.intro
          clear hs hB ht hk
          clear hok
          go_wp2_with (first | (have kill := X6.out; refine rSteps X6.out rfl _ _ rfl rfl rfl ?_; intro w7 v l; have X7 : Hid (RR w7 b7 (advK { k with ins := t } s.other).r) := hid (rs_adv (k := { k with ins := t }) (p := s.other) A0.out.steps ▸ v); have M7 := hid (stepsAt_of (v.cell 1 (v := .int .i64 ((n + 1 : Nat) : Int)) rfl)); have R7 := hid (R6.out.kept (l.block b6 R6.out.lt hb6b.out.2)); have B7 := hid (One.below l B6.out hb6b.out.1 B6.out.size); clear v l kill X6 R6 B6) | (have kill := X4.out; refine rPos X4.out rfl _ _ rfl rfl rfl ?_; intro w6 v l; have X6 := hid v; have c1 := v.cell 1 (v := .int .i64 k.r.steps) rfl; rw [A0.out.steps] at c1; have R6 := hid (R4.out.kept (l.block b6 R4.out.lt hb6b.out.2)); have B6 := hid (One.below l B4.out hb6b.out.1 B4.out.size); clear v l kill X4 R4 B4) | (have kill := TP.out; go_at_call 19; refine (pan20 x _ HX.out).mono ?_; rw [HPn.out]; rintro e w5 ⟨rfl, rfl⟩; clear kill TP) | (have kill := TN.out; go_at_call 18; refine (num9 x _ HX.out).mono ?_; rw [HOk.out]; rintro e w5 ⟨rfl, rfl⟩; clear kill TN) | (have kill := X4.out; go_at_call 17; refine (kind25 s.kind _).mono ?_; rw [HKi.out]; rintro e w2 ⟨rfl, rfl⟩; clear kill) | (have kill := V3.out; refine st34 (r := s) V3.out L3.out hb3 rfl _ _ rfl rfl rfl ?_; intro w4 v4 l4; have X4 := hid (X2.out.below l4); have c2 := X4.out.cell 2 (v := .bool k.r.asked) rfl; have c1 := X4.out.cell 1 (v := .int .i64 k.r.steps) rfl; rw [A0.out.steps] at c1; have s0 := v4.cell 0 (v := .int .i64 s.id) rfl; have s1 := v4.cell 1 (v := .int .u8 s.kind) rfl; have s2 := v4.cell 2 (v := .int .i64 s.next) rfl; have s3 := v4.cell 3 (v := .int .i64 s.other) rfl; have R4 := hid (R2.out.below l4); have B4 := hid (sq B2.out l4); have cx := cellkept HQ.out B4.out; clear v4 l4 kill V3 L3 hb3 X2 R2 B2) | (have kill := X2.out; refine al34 rfl rfl ?_; intro b3 w3 hb3 v3 l3; have V3 := hid v3; have L3 := hid l3; clear v3 l3 kill) | (have kill := A.out; go_at_call 16; refine (find12 ao len cap l k.r.pos _ (HG.out.below A.out.bel)).mono ?_; rintro e w2 ⟨rfl, l2⟩; rw [HS.out, HB.out]; have B2 := hid (sq A.out.bel l2); have X2 := hid (A.out.wv.below l2); have R2 := hid (A.out.res.below l2); clear l2 kill A))
          go_frame
          go_roundw
          case rel => exact ⟨n + 1, advK { k with ins := t } s.other, ao', m, (cap2 - 1), rfl, rfl, rfl, ⟨by omega, by unfold advK; simp [A0.out.steps], HE.out, X7.out, GT.out, R7.out, B7.out⟩⟩
          case measure => rw [M7.out, M1.out]; omega
        by_cases h7 : x.size ≤ 7
        case neg =>
          have hd7 : decide ((x.size : Int) ≤ 7) = false := by simp; omega
          have hd8 : decide (x.size ≤ 7) = false := by simp; omega
          have hd9 : ¬ (x.size : Int) ≤ 7 := by omega
          have HL := hid (take_D0 (x := x) k.pan k.amt hk (num_big (by omega)).2)
          have HOk := hid hok
          have HE := hid (nx_of (k' := { k with ins := t }) (p := s.other) A.out.run hn hs hB HTk.out.2.2 (HTk.out.1.trans (by rw [HL.out.2.1, HL.out.2.2])) (HTk.out.2.1.trans HL.out.1))
          have TN := hid True.intro
          have TP := hid True.intro
          clear hs hB ht hk
          clear hok h7
          go_wp2_with (first | (have kill := X6.out; refine rSteps X6.out rfl _ _ rfl rfl rfl ?_; intro w7 v l; have X7 : Hid (RR w7 b7 (advK { k with ins := t } s.other).r) := hid (rs_adv (k := { k with ins := t }) (p := s.other) A0.out.steps ▸ v); have M7 := hid (stepsAt_of (v.cell 1 (v := .int .i64 ((n + 1 : Nat) : Int)) rfl)); have R7 := hid (R6.out.kept (l.block b6 R6.out.lt hb6b.out.2)); have B7 := hid (One.below l B6.out hb6b.out.1 B6.out.size); clear v l kill X6 R6 B6) | (have kill := X4.out; refine rPos X4.out rfl _ _ rfl rfl rfl ?_; intro w6 v l; have X6 := hid v; have c1 := v.cell 1 (v := .int .i64 k.r.steps) rfl; rw [A0.out.steps] at c1; have R6 := hid (R4.out.kept (l.block b6 R4.out.lt hb6b.out.2)); have B6 := hid (One.below l B4.out hb6b.out.1 B4.out.size); clear v l kill X4 R4 B4) | (have kill := TP.out; go_at_call 19; refine (pan20 x _ HX.out).mono ?_; rw [HPn.out]; rintro e w5 ⟨rfl, rfl⟩; clear kill TP) | (have kill := TN.out; go_at_call 18; refine (num9 x _ HX.out).mono ?_; rw [HOk.out]; rintro e w5 ⟨rfl, rfl⟩; clear kill TN) | (have kill := X4.out; go_at_call 17; refine (kind25 s.kind _).mono ?_; rw [HKi.out]; rintro e w2 ⟨rfl, rfl⟩; clear kill) | (have kill := V3.out; refine st34 (r := s) V3.out L3.out hb3 rfl _ _ rfl rfl rfl ?_; intro w4 v4 l4; have X4 := hid (X2.out.below l4); have c2 := X4.out.cell 2 (v := .bool k.r.asked) rfl; have c1 := X4.out.cell 1 (v := .int .i64 k.r.steps) rfl; rw [A0.out.steps] at c1; have s0 := v4.cell 0 (v := .int .i64 s.id) rfl; have s1 := v4.cell 1 (v := .int .u8 s.kind) rfl; have s2 := v4.cell 2 (v := .int .i64 s.next) rfl; have s3 := v4.cell 3 (v := .int .i64 s.other) rfl; have R4 := hid (R2.out.below l4); have B4 := hid (sq B2.out l4); have cx := cellkept HQ.out B4.out; clear v4 l4 kill V3 L3 hb3 X2 R2 B2) | (have kill := X2.out; refine al34 rfl rfl ?_; intro b3 w3 hb3 v3 l3; have V3 := hid v3; have L3 := hid l3; clear v3 l3 kill) | (have kill := A.out; go_at_call 16; refine (find12 ao len cap l k.r.pos _ (HG.out.below A.out.bel)).mono ?_; rintro e w2 ⟨rfl, l2⟩; rw [HS.out, HB.out]; have B2 := hid (sq A.out.bel l2); have X2 := hid (A.out.wv.below l2); have R2 := hid (A.out.res.below l2); clear l2 kill A))
          go_frame
          go_roundw
          case rel => exact ⟨n + 1, advK { k with ins := t } s.other, ao', m, (cap2 - 1), rfl, rfl, rfl, ⟨by omega, by unfold advK; simp [A0.out.steps], HE.out, X7.out, GT.out, R7.out, B7.out⟩⟩
          case measure => rw [M7.out, M1.out]; omega
        have hd7 : decide ((x.size : Int) ≤ 7) = true := by simp; omega
        have hd8 : decide (x.size ≤ 7) = true := by simp; omega
        have HL := hid ((num_fit h7).1 ▸ take_D1 k.pan k.amt hk ((num_7 h7).trans hok))
        have HOk := hid hok
        have HE := hid (nx_of (k' := { k with amt := numV x, ins := t }) (p := s.next) A.out.run hn hs hB HTk.out.2.2 (HTk.out.1.trans (by rw [HL.out.2.1, HL.out.2.2])) (HTk.out.2.1.trans HL.out.1))
        have TN := hid True.intro
        have TP := hid True.intro
        clear hs hB ht hk
        clear hok h7
        go_wp2_with (first | (have kill := X6.out; refine rSteps X6.out rfl _ _ rfl rfl rfl ?_; intro w7 v l; have X7 : Hid (RR w7 b7 (advK { k with amt := numV x, ins := t } s.next).r) := hid (rs_adv (k := { k with amt := numV x, ins := t }) (p := s.next) A0.out.steps ▸ v); have M7 := hid (stepsAt_of (v.cell 1 (v := .int .i64 ((n + 1 : Nat) : Int)) rfl)); have R7 := hid (R6.out.kept (l.block b6 R6.out.lt hb6b.out.2)); have B7 := hid (One.below l B6.out hb6b.out.1 B6.out.size); clear v l kill X6 R6 B6) | (have kill := X4.out; refine rPos X4.out rfl _ _ rfl rfl rfl ?_; intro w6 v l; have X6 := hid v; have c1 := v.cell 1 (v := .int .i64 k.r.steps) rfl; rw [A0.out.steps] at c1; have R6 := hid (R4.out.kept (l.block b6 R4.out.lt hb6b.out.2)); have B6 := hid (One.below l B4.out hb6b.out.1 B4.out.size); clear v l kill X4 R4 B4) | (have kill := TP.out; go_at_call 19; refine (pan20 x _ HX.out).mono ?_; rw [HPn.out]; rintro e w5 ⟨rfl, rfl⟩; clear kill TP) | (have kill := TN.out; go_at_call 18; refine (num9 x _ HX.out).mono ?_; rw [HOk.out]; rintro e w5 ⟨rfl, rfl⟩; clear kill TN) | (have kill := X4.out; go_at_call 17; refine (kind25 s.kind _).mono ?_; rw [HKi.out]; rintro e w2 ⟨rfl, rfl⟩; clear kill) | (have kill := V3.out; refine st34 (r := s) V3.out L3.out hb3 rfl _ _ rfl rfl rfl ?_; intro w4 v4 l4; have X4 := hid (X2.out.below l4); have c2 := X4.out.cell 2 (v := .bool k.r.asked) rfl; have c1 := X4.out.cell 1 (v := .int .i64 k.r.steps) rfl; rw [A0.out.steps] at c1; have s0 := v4.cell 0 (v := .int .i64 s.id) rfl; have s1 := v4.cell 1 (v := .int .u8 s.kind) rfl; have s2 := v4.cell 2 (v := .int .i64 s.next) rfl; have s3 := v4.cell 3 (v := .int .i64 s.other) rfl; have R4 := hid (R2.out.below l4); have B4 := hid (sq B2.out l4); have cx := cellkept HQ.out B4.out; clear v4 l4 kill V3 L3 hb3 X2 R2 B2) | (have kill := X2.out; refine al34 rfl rfl ?_; intro b3 w3 hb3 v3 l3; have V3 := hid v3; have L3 := hid l3; clear v3 l3 kill) | (have kill := A.out; go_at_call 16; refine (find12 ao len cap l k.r.pos _ (HG.out.below A.out.bel)).mono ?_; rintro e w2 ⟨rfl, l2⟩; rw [HS.out, HB.out]; have B2 := hid (sq A.out.bel l2); have X2 := hid (A.out.wv.below l2); have R2 := hid (A.out.res.below l2); clear l2 kill A))
        go_frame
        go_roundw
        case rel => exact ⟨n + 1, advK { k with amt := numV x, ins := t } s.next, ao', m, (cap2 - 1), rfl, rfl, rfl, ⟨by omega, by unfold advK; simp [A0.out.steps], HE.out, X7.out, GT.out, R7.out, B7.out⟩⟩
        case measure => rw [M7.out, M1.out]; omega
      · have k1 : (s.kind == 65) = false := by rw [hk]; rfl
        have k2 : (s.kind == 66) = false := by rw [hk]; rfl
        have k3 : (s.kind == 68) = false := by rw [hk]; rfl
        have hE := take_E (s := s) (x := x) k.pan k.amt (by omega) (by omega) (by omega)
        by_cases x2 : x = ⟨#[50]⟩
        case pos =>
          have e2 : (x.toList == [50]) = true := by rw [x2, ByteArray.toList_eq]; rfl
          have HL := hid ((⟨hE.1.trans (by unfold choL; rw [x2]; rfl), hE.2⟩ : takeT s x = s.other ∧ takeP s x k.pan = k.pan ∧ takeA s x k.amt = k.amt))
          have HE := hid (nx_of (k' := { k with ins := t }) (p := s.other) A.out.run hn hs hB HTk.out.2.2 (HTk.out.1.trans (by rw [HL.out.2.1, HL.out.2.2])) (HTk.out.2.1.trans HL.out.1))
          have TN := hid True.intro
          have TP := hid True.intro
          clear hs hB ht hk
          clear x2 hE
          go_wp2_with (first | (have kill := X6.out; refine rSteps X6.out rfl _ _ rfl rfl rfl ?_; intro w7 v l; have X7 : Hid (RR w7 b7 (advK { k with ins := t } s.other).r) := hid (rs_adv (k := { k with ins := t }) (p := s.other) A0.out.steps ▸ v); have M7 := hid (stepsAt_of (v.cell 1 (v := .int .i64 ((n + 1 : Nat) : Int)) rfl)); have R7 := hid (R6.out.kept (l.block b6 R6.out.lt hb6b.out.2)); have B7 := hid (One.below l B6.out hb6b.out.1 B6.out.size); clear v l kill X6 R6 B6) | (have kill := X4.out; refine rPos X4.out rfl _ _ rfl rfl rfl ?_; intro w6 v l; have X6 := hid v; have c1 := v.cell 1 (v := .int .i64 k.r.steps) rfl; rw [A0.out.steps] at c1; have R6 := hid (R4.out.kept (l.block b6 R4.out.lt hb6b.out.2)); have B6 := hid (One.below l B4.out hb6b.out.1 B4.out.size); clear v l kill X4 R4 B4) | (have kill := TP.out; go_at_call 19; refine (pan20 x _ HX.out).mono ?_; rw [HPn.out]; rintro e w5 ⟨rfl, rfl⟩; clear kill TP) | (have kill := TN.out; go_at_call 18; refine (num9 x _ HX.out).mono ?_; rintro e w5 ⟨rfl, rfl⟩; clear kill TN) | (have kill := X4.out; go_at_call 17; refine (kind25 s.kind _).mono ?_; rw [HKi.out]; rintro e w2 ⟨rfl, rfl⟩; clear kill) | (have kill := V3.out; refine st34 (r := s) V3.out L3.out hb3 rfl _ _ rfl rfl rfl ?_; intro w4 v4 l4; have X4 := hid (X2.out.below l4); have c2 := X4.out.cell 2 (v := .bool k.r.asked) rfl; have c1 := X4.out.cell 1 (v := .int .i64 k.r.steps) rfl; rw [A0.out.steps] at c1; have s0 := v4.cell 0 (v := .int .i64 s.id) rfl; have s1 := v4.cell 1 (v := .int .u8 s.kind) rfl; have s2 := v4.cell 2 (v := .int .i64 s.next) rfl; have s3 := v4.cell 3 (v := .int .i64 s.other) rfl; have R4 := hid (R2.out.below l4); have B4 := hid (sq B2.out l4); have cx := cellkept HQ.out B4.out; clear v4 l4 kill V3 L3 hb3 X2 R2 B2) | (have kill := X2.out; refine al34 rfl rfl ?_; intro b3 w3 hb3 v3 l3; have V3 := hid v3; have L3 := hid l3; clear v3 l3 kill) | (have kill := A.out; go_at_call 16; refine (find12 ao len cap l k.r.pos _ (HG.out.below A.out.bel)).mono ?_; rintro e w2 ⟨rfl, l2⟩; rw [HS.out, HB.out]; have B2 := hid (sq A.out.bel l2); have X2 := hid (A.out.wv.below l2); have R2 := hid (A.out.res.below l2); clear l2 kill A))
          go_frame
          go_roundw
          case rel => exact ⟨n + 1, advK { k with ins := t } s.other, ao', m, (cap2 - 1), rfl, rfl, rfl, ⟨by omega, by unfold advK; simp [A0.out.steps], HE.out, X7.out, GT.out, R7.out, B7.out⟩⟩
          case measure => rw [M7.out, M1.out]; omega
        have e2 := not_str x2
        by_cases x1 : x = ⟨#[49]⟩
        case pos =>
          have e1 : (x.toList == [49]) = true := by rw [x1, ByteArray.toList_eq]; rfl
          have HL := hid ((⟨hE.1.trans (by unfold choL; rw [if_pos x1]), hE.2⟩ : takeT s x = s.next ∧ takeP s x k.pan = k.pan ∧ takeA s x k.amt = k.amt))
          have HE := hid (nx_of (k' := { k with ins := t }) (p := s.next) A.out.run hn hs hB HTk.out.2.2 (HTk.out.1.trans (by rw [HL.out.2.1, HL.out.2.2])) (HTk.out.2.1.trans HL.out.1))
          have TN := hid True.intro
          have TP := hid True.intro
          clear hs hB ht hk
          clear x2 x1 hE
          go_wp2_with (first | (have kill := X6.out; refine rSteps X6.out rfl _ _ rfl rfl rfl ?_; intro w7 v l; have X7 : Hid (RR w7 b7 (advK { k with ins := t } s.next).r) := hid (rs_adv (k := { k with ins := t }) (p := s.next) A0.out.steps ▸ v); have M7 := hid (stepsAt_of (v.cell 1 (v := .int .i64 ((n + 1 : Nat) : Int)) rfl)); have R7 := hid (R6.out.kept (l.block b6 R6.out.lt hb6b.out.2)); have B7 := hid (One.below l B6.out hb6b.out.1 B6.out.size); clear v l kill X6 R6 B6) | (have kill := X4.out; refine rPos X4.out rfl _ _ rfl rfl rfl ?_; intro w6 v l; have X6 := hid v; have c1 := v.cell 1 (v := .int .i64 k.r.steps) rfl; rw [A0.out.steps] at c1; have R6 := hid (R4.out.kept (l.block b6 R4.out.lt hb6b.out.2)); have B6 := hid (One.below l B4.out hb6b.out.1 B4.out.size); clear v l kill X4 R4 B4) | (have kill := TP.out; go_at_call 19; refine (pan20 x _ HX.out).mono ?_; rw [HPn.out]; rintro e w5 ⟨rfl, rfl⟩; clear kill TP) | (have kill := TN.out; go_at_call 18; refine (num9 x _ HX.out).mono ?_; rintro e w5 ⟨rfl, rfl⟩; clear kill TN) | (have kill := X4.out; go_at_call 17; refine (kind25 s.kind _).mono ?_; rw [HKi.out]; rintro e w2 ⟨rfl, rfl⟩; clear kill) | (have kill := V3.out; refine st34 (r := s) V3.out L3.out hb3 rfl _ _ rfl rfl rfl ?_; intro w4 v4 l4; have X4 := hid (X2.out.below l4); have c2 := X4.out.cell 2 (v := .bool k.r.asked) rfl; have c1 := X4.out.cell 1 (v := .int .i64 k.r.steps) rfl; rw [A0.out.steps] at c1; have s0 := v4.cell 0 (v := .int .i64 s.id) rfl; have s1 := v4.cell 1 (v := .int .u8 s.kind) rfl; have s2 := v4.cell 2 (v := .int .i64 s.next) rfl; have s3 := v4.cell 3 (v := .int .i64 s.other) rfl; have R4 := hid (R2.out.below l4); have B4 := hid (sq B2.out l4); have cx := cellkept HQ.out B4.out; clear v4 l4 kill V3 L3 hb3 X2 R2 B2) | (have kill := X2.out; refine al34 rfl rfl ?_; intro b3 w3 hb3 v3 l3; have V3 := hid v3; have L3 := hid l3; clear v3 l3 kill) | (have kill := A.out; go_at_call 16; refine (find12 ao len cap l k.r.pos _ (HG.out.below A.out.bel)).mono ?_; rintro e w2 ⟨rfl, l2⟩; rw [HS.out, HB.out]; have B2 := hid (sq A.out.bel l2); have X2 := hid (A.out.wv.below l2); have R2 := hid (A.out.res.below l2); clear l2 kill A))
          go_frame
          go_roundw
          case rel => exact ⟨n + 1, advK { k with ins := t } s.next, ao', m, (cap2 - 1), rfl, rfl, rfl, ⟨by omega, by unfold advK; simp [A0.out.steps], HE.out, X7.out, GT.out, R7.out, B7.out⟩⟩
          case measure => rw [M7.out, M1.out]; omega
        have e1 := not_str x1
        have HL := hid ((⟨hE.1.trans (by unfold choL; rw [if_neg x1, if_neg x2]), hE.2⟩ : takeT s x = s.id ∧ takeP s x k.pan = k.pan ∧ takeA s x k.amt = k.amt))
        have HE := hid (nx_of (k' := { k with ins := t }) (p := s.id) A.out.run hn hs hB HTk.out.2.2 (HTk.out.1.trans (by rw [HL.out.2.1, HL.out.2.2])) (HTk.out.2.1.trans HL.out.1))
        have TN := hid True.intro
        have TP := hid True.intro
        clear hs hB ht hk
        clear x2 x1 hE
        go_wp2_with (first | (have kill := X6.out; refine rSteps X6.out rfl _ _ rfl rfl rfl ?_; intro w7 v l; have X7 : Hid (RR w7 b7 (advK { k with ins := t } s.id).r) := hid (rs_adv (k := { k with ins := t }) (p := s.id) A0.out.steps ▸ v); have M7 := hid (stepsAt_of (v.cell 1 (v := .int .i64 ((n + 1 : Nat) : Int)) rfl)); have R7 := hid (R6.out.kept (l.block b6 R6.out.lt hb6b.out.2)); have B7 := hid (One.below l B6.out hb6b.out.1 B6.out.size); clear v l kill X6 R6 B6) | (have kill := X4.out; refine rPos X4.out rfl _ _ rfl rfl rfl ?_; intro w6 v l; have X6 := hid v; have c1 := v.cell 1 (v := .int .i64 k.r.steps) rfl; rw [A0.out.steps] at c1; have R6 := hid (R4.out.kept (l.block b6 R4.out.lt hb6b.out.2)); have B6 := hid (One.below l B4.out hb6b.out.1 B4.out.size); clear v l kill X4 R4 B4) | (have kill := TP.out; go_at_call 19; refine (pan20 x _ HX.out).mono ?_; rw [HPn.out]; rintro e w5 ⟨rfl, rfl⟩; clear kill TP) | (have kill := TN.out; go_at_call 18; refine (num9 x _ HX.out).mono ?_; rintro e w5 ⟨rfl, rfl⟩; clear kill TN) | (have kill := X4.out; go_at_call 17; refine (kind25 s.kind _).mono ?_; rw [HKi.out]; rintro e w2 ⟨rfl, rfl⟩; clear kill) | (have kill := V3.out; refine st34 (r := s) V3.out L3.out hb3 rfl _ _ rfl rfl rfl ?_; intro w4 v4 l4; have X4 := hid (X2.out.below l4); have c2 := X4.out.cell 2 (v := .bool k.r.asked) rfl; have c1 := X4.out.cell 1 (v := .int .i64 k.r.steps) rfl; rw [A0.out.steps] at c1; have s0 := v4.cell 0 (v := .int .i64 s.id) rfl; have s1 := v4.cell 1 (v := .int .u8 s.kind) rfl; have s2 := v4.cell 2 (v := .int .i64 s.next) rfl; have s3 := v4.cell 3 (v := .int .i64 s.other) rfl; have R4 := hid (R2.out.below l4); have B4 := hid (sq B2.out l4); have cx := cellkept HQ.out B4.out; clear v4 l4 kill V3 L3 hb3 X2 R2 B2) | (have kill := X2.out; refine al34 rfl rfl ?_; intro b3 w3 hb3 v3 l3; have V3 := hid v3; have L3 := hid l3; clear v3 l3 kill) | (have kill := A.out; go_at_call 16; refine (find12 ao len cap l k.r.pos _ (HG.out.below A.out.bel)).mono ?_; rintro e w2 ⟨rfl, l2⟩; rw [HS.out, HB.out]; have B2 := hid (sq A.out.bel l2); have X2 := hid (A.out.wv.below l2); have R2 := hid (A.out.res.below l2); clear l2 kill A))
        go_frame
        go_roundw
        case rel => exact ⟨n + 1, advK { k with ins := t } s.id, ao', m, (cap2 - 1), rfl, rfl, rfl, ⟨by omega, by unfold advK; simp [A0.out.steps], HE.out, X7.out, GT.out, R7.out, B7.out⟩⟩
        case measure => rw [M7.out, M1.out]; omega
end Go.Proofs.Ytnahbfnchopghaa
