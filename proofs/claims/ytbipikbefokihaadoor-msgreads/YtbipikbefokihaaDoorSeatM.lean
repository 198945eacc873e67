/- The seat's messages: of few numbers, all of them right. -/
import Derived.Test.YtbipikbefokihaaDoorPutR
namespace Go.Proofs.YtbipikbefokihaaDoor
open Go.ChangeShapes Go.WideShapes Go.ChangeAt Go.RowKit

theorem tk_four {ops : Array Oper} {Q : Exit → Act → World → Prop} {md : Region.Mode} {S : World → Prop} {oi : Oper} {fuel : Nat} {listed : Array Bool} {a : Act} {w : World} (i : Nat) (d : Option Tmp) (x0 x1 x2 x3 : Int)
    (hi : ops[i]? = some oi) (hd : oi.dst = d) (hs : Region.noSelect ops = true) (hf : Region.free md ops listed i = true) (hr : (Region.ready md ops listed).contains i = true)
    (hQ : ∀ c a w, Q (.panic c) (a.put d (.agg #[.int .i64 x0, .int .i64 x1, .int .i64 x2, .int .i64 x3])) w → Q (.panic c) a w) (hw : Region.wanted oi (yielded ops a.tmps) = true)
    (x : Operand) (ho : oi.op = .load 25 x) {b : Nat} (hx : a.eval x = .pointer (some ⟨b, 0, none⟩)) (hc : ∀ w, S w → w.rangeAt b 0 (c4 x0 x1 x2 x3)) (hS : S w)
    (h : wpAnyH Tryd.prog md ops Q S fuel (listed.setIfInBounds i true) (a.put d (.agg #[.int .i64 x0, .int .i64 x1, .int .i64 x2, .int .i64 x3])) w) : wpAnyH Tryd.prog md ops Q S (fuel + 1) listed a w := by
  subst hd; exact wpAnyH_take hi hs hf hr hQ (yieldsIf_load_mid hw 25 x ho b 0 hx (c4 x0 x1 x2 x3) _ hc Tryd.underlying25 rfl n25) hS h
theorem step_of {P : Program} {ops : Array Oper} {o : Oper} {a : Act} {w : World} {K : Act → World → Prop} {Q : Exit → Act → World → Prop} {E : Prop} (hg : o.guard = none) (h : Oper.wp P o a w K Q) :
    if Region.wanted o (yielded ops a.tmps) = true then Oper.wp P o a w K Q else E := by
  rw [if_pos (by simp [Region.wanted, hg])]; exact h
theorem st_csw {op : Oper} {a : Act} {w : World} {K : Act → World → Prop} {Q : Exit → Act → World → Prop} {b o : Nat} (ty : TypeId) (cs : List Value) (ht : w.there b o cs.length) (hi : (Tryd.prog.info? ty).map (·.size) = some cs.length) (h1 : ∀ c ∈ cs, c.oneCell' = true)
    (x y : Operand) (ho : op.op = .store ty x y) (hx : a.eval x = .pointer (some ⟨b, o, none⟩)) {v : Value} (hy : a.eval y = v) (hv : v.cells = cs.toArray)
    (h : K (a.put op.dst undef) (w.setCells b o cs)) : op.wp Tryd.prog a w K Q := by
  unfold Oper.wp execOp
  simp only [ho, hx, hy, Instr.storeAt, Instr.sureAddr, Sem.run_bind, Sem.run_pure, Result.andThen_ok, run_storeVar_cs w b o ty v cs hv ht hi h1]
  exact h
/-- One store of a message's cells, where the order is drawn. -/
theorem rv_csw {op : Oper} {a : Act} {w0 w : World} {K : Act → World → Prop} {Q : Exit → Act → World → Prop} {b : Nat} {r : Ms} (h : RV w b r) (hB : Below w0.heap.size w0 w) (hb : w0.heap.size ≤ b) (ty : TypeId) (o : Nat) (cs : List Value) (r' : Ms)
    (hl : o + cs.length ≤ 26) (he : r'.cells = r.cells.take o ++ cs ++ r.cells.drop (o + cs.length)) (hi : (Tryd.prog.info? ty).map (·.size) = some cs.length) (h1 : ∀ c ∈ cs, c.oneCell' = true)
    (x y : Operand) (ho : op.op = .store ty x y) (hx : a.eval x = .pointer (some ⟨b, o, none⟩)) {v : Value} (hy : a.eval y = v) (hv : v.cells = cs.toArray)
    (hh : ∀ w', RV w' b r' → Below w0.heap.size w0 w' → (∀ k, k < w.heap.size → ¬ k = b → w'.heap[k]? = w.heap[k]?) → K (a.put op.dst undef) w') : op.wp Tryd.prog a w K Q :=
  st_csw ty cs (fun j hj => by have := h.th (o + j) (by omega); rwa [Nat.zero_add] at this) hi h1 x y ho hx hy hv (hh _ (h.part hl he) (setCells_in hB hb o) (fun k hk hn => (turned_setCells w b o cs).block k hk hn))
/-- A message of its kind and terminal. -/
theorem bdKT {ops : Array Oper} {rest : List Oper} {op : Oper} {a : Act} {w : World} {Q : Exit → Act → World → Prop} {k t : Int} (hgd : op.guard = none) (x y : Operand) (ho : op.op = .build 27 #[(0, x), (1, y)]) (hx : a.eval x = .int .i64 k) (hy : a.eval y = .int .u16 t)
    (h : wpList Tryd.prog ops Q rest (a.put op.dst ({ Ms.of k with term := t } : Ms).val) w) : wpList Tryd.prog ops Q (op :: rest) a w :=
  wpList_plain hgd fun K hK => by
    have hz0 := zero27 w
    unfold Oper.wp execOp
    simp only [ho, List.map_toArray, List.map_cons, List.map_nil, hx, hy]
    simp [Instr.build, hz0, go_sem, Ms.val, Ms.cells, Ms.zero]
    exact hK _ _ h
theorem lt_range {w : World} {b : Nat} {x0 x1 x2 x3 : Int} (h : w.rangeAt b 0 (c4 x0 x1 x2 x3)) : b < w.heap.size := World.block_lt_of_cell? w _ (h 0 _ rfl)
/-- A store of some cells, all of them: and what other blocks hold. -/
theorem rv_store2 {ops : Array Oper} {rest : List Oper} {op : Oper} {a : Act} {w0 w : World} {Q : Exit → Act → World → Prop} {b : Nat} {r : Ms} (h : RV w b r) (hB : Below w0.heap.size w0 w) (hb : w0.heap.size ≤ b) (ty : TypeId) (o : Nat) (cs : List Value) (r' : Ms)
    (hl : o + cs.length ≤ 26) (he : r'.cells = r.cells.take o ++ cs ++ r.cells.drop (o + cs.length)) (hi : (Tryd.prog.info? ty).map (·.size) = some cs.length) (h1 : ∀ c ∈ cs, c.oneCell' = true)
    (hgd : op.guard = none) (x y : Operand) (ho : op.op = .store ty x y) (hx : a.eval x = .pointer (some ⟨b, o, none⟩)) {v : Value} (hy : a.eval y = v) (hv : v.cells = cs.toArray)
    (hh : ∀ w', RV w' b r' → Below w0.heap.size w0 w' → (∀ k, k < w.heap.size → ¬ k = b → w'.heap[k]? = w.heap[k]?) → wpList Tryd.prog ops Q rest (a.put op.dst undef) w') : wpList Tryd.prog ops Q (op :: rest) a w :=
  st_cs ty cs (fun j hj => by have := h.th (o + j) (by omega); rwa [Nat.zero_add] at this) hi h1 hgd x y ho hx hy hv (hh _ (h.part hl he) (setCells_in hB hb o) (fun k hk hn => (turned_setCells w b o cs).block k hk hn))
theorem rv_whole {ops : Array Oper} {rest : List Oper} {op : Oper} {a : Act} {w0 w : World} {Q : Exit → Act → World → Prop} {b : Nat} {r : Ms} (h : RV w b r) (hB : Below w0.heap.size w0 w) (hb : w0.heap.size ≤ b) (r' : Ms)
    (hgd : op.guard = none) (x y : Operand) (ho : op.op = .store 27 x y) (hx : a.eval x = .pointer (some ⟨b, 0, none⟩)) (hy : a.eval y = r'.val)
    (hh : ∀ w', RV w' b r' → Below w0.heap.size w0 w' → (∀ k, k < w.heap.size → ¬ k = b → w'.heap[k]? = w.heap[k]?) → wpList Tryd.prog ops Q rest (a.put op.dst undef) w') : wpList Tryd.prog ops Q (op :: rest) a w := by
  refine rv_store2 h hB hb 27 0 r'.cells r' (by simp [Ms.len]) ?_ (by rw [n27]; rfl) r'.one hgd x y ho hx hy rfl hh
  rw [List.take_zero, List.nil_append, Nat.zero_add, Ms.len, List.drop_of_length_le (by rw [Ms.len]; omega), List.append_nil]
def panK (j : Int) : ByteArray := if j = 0 then ⟨#[52, 48, 48, 48, 49, 50, 51, 52, 49, 50, 51, 52, 49, 50, 51, 52]⟩ else if j = 1 then ⟨#[53, 49]⟩ else if j = 2 then ⟨#[57]⟩ else ⟨#[54, 48, 49, 49, 48, 48, 48, 57, 57, 48, 49, 51, 57, 52, 50, 52]⟩
set_option maxHeartbeats 1000000 in
theorem pan17 (k : Int) (w : World) (h0 : 0 ≤ k) :
    Calls Tryd.prog 17 #[.int .u8 k] w fun e w' => e = .returned (.string (panK (k % 4))) ∧ Below w.heap.size w w' := by
  have h4 : k % 4 = 0 ∨ k % 4 = 1 ∨ k % 4 = 2 ∨ k % 4 = 3 := by omega
  rcases h4 with h | h | h | h <;> rw [h] <;> (
    have h' := Int.tmod_eq_emod_of_nonneg (b := 4) h0
    rw [h] at h'
    go_enter Tryd.func17, Tryd.ntmps17
    go_wp2
    go_ret
    exact ⟨rfl, bel1 _ _⟩)
/-- The seat's message. -/
def seatM (d k s a : Int) : Ms :=
  let b : Ms := { Ms.of (d % 7 + 1) with term := k % 3 }
  if d % 7 = 0 then { b with stan := s % 6, pan := panK (k / 3 % 4), amt := a }
  else if d % 7 = 1 then { b with stan := s % 6, n0 := k % 5, n1 := k / 5 % 5, n2 := s % 3, n3 := a % 4, j0 := k / 128 }
  else if d % 7 = 2 then b
  else if d % 7 = 3 then { b with stan := s % 6, n0 := k % 5, n1 := k / 5 % 5, n2 := s % 3, n3 := a % 4, c0 := a, c1 := s, d1 := k, loads := k % 2, l0 := k % 5, l1 := k / 5 % 5, l2 := s % 3, l3 := a % 4 }
  else if d % 7 = 4 then { b with stan := s % 6, n0 := k % 5, n1 := k / 5 % 5, n2 := s % 3, n3 := a % 4, amt := a }
  else { b with stan := s % 6 }
set_option maxRecDepth 20000 in
set_option maxHeartbeats 8000000 in
theorem msg8_1 (d k s m : Int) (w : World) (d0 : 0 ≤ d) (d1 : d < 256) (k0 : 0 ≤ k) (k1 : k < 256) (s0 : 0 ≤ s) (s1 : s < 65536) (m0 : 0 ≤ m) (m1 : m < 65536) (h : d % 7 = 0) :
    Calls Tryd.prog 8 #[.int .u8 d, .int .u8 k, .int .u16 s, .int .u16 m] w fun e w' => e = .returned (seatM d k s m).val ∧ Below w.heap.size w w' := by
  have HS0 : Hid (seatM d k s m = ({ Ms.of (0 + 1) with term := k % 3, stan := s % 6, pan := panK (k / 3 % 4), amt := m } : Ms)) := by
    unfold Hid seatM
    simp only []
    rw [if_pos h]; rw [h]
  have hyy := And.intro d1 (And.intro s1 m1)
  clear hyy
  have hd7 : d.tmod 7 = 0 := by rw [Int.tmod_eq_emod_of_nonneg d0]; exact h
  obtain ⟨T, hT⟩ : ∃ T, k % 3 = T := ⟨_, rfl⟩
  have hk3 : k.tmod 3 = T := by rw [Int.tmod_eq_emod_of_nonneg k0]; exact hT
  have T0 : 0 ≤ T ∧ T < 3 := by omega
  obtain ⟨T0, T1⟩ := T0
  obtain ⟨A, hA⟩ : ∃ A, k % 5 = A := ⟨_, rfl⟩
  have hk5 : k.tmod 5 = A := by rw [Int.tmod_eq_emod_of_nonneg k0]; exact hA
  obtain ⟨A0, A1⟩ : 0 ≤ A ∧ A < 5 := by omega
  obtain ⟨B1, hB1⟩ : ∃ B, k / 5 = B := ⟨_, rfl⟩
  have hkd5 : k.tdiv 5 = B1 := by rw [Int.tdiv_eq_ediv_of_nonneg k0]; exact hB1
  obtain ⟨B10, B11⟩ : 0 ≤ B1 ∧ B1 < 256 := by omega
  obtain ⟨B, hB⟩ : ∃ B, B1 % 5 = B := ⟨_, rfl⟩
  have hb5 : B1.tmod 5 = B := by rw [Int.tmod_eq_emod_of_nonneg B10]; exact hB
  obtain ⟨B0, B2⟩ : 0 ≤ B ∧ B < 5 := by omega
  obtain ⟨D, hD⟩ : ∃ D, s % 3 = D := ⟨_, rfl⟩
  have hs3 : s.tmod 3 = D := by rw [Int.tmod_eq_emod_of_nonneg s0]; exact hD
  obtain ⟨D0, D1⟩ : 0 ≤ D ∧ D < 3 := by omega
  obtain ⟨E, hE⟩ : ∃ E, m % 4 = E := ⟨_, rfl⟩
  have hm4 : m.tmod 4 = E := by rw [Int.tmod_eq_emod_of_nonneg m0]; exact hE
  obtain ⟨E0, E1⟩ : 0 ≤ E ∧ E < 4 := by omega
  obtain ⟨F, hF⟩ : ∃ F, s % 6 = F := ⟨_, rfl⟩
  have hs6 : s.tmod 6 = F := by rw [Int.tmod_eq_emod_of_nonneg s0]; exact hF
  obtain ⟨F0, F1⟩ : 0 ≤ F ∧ F < 6 := by omega
  obtain ⟨G, hG⟩ : ∃ G, k / 3 = G := ⟨_, rfl⟩
  have hkd3 : k.tdiv 3 = G := by rw [Int.tdiv_eq_ediv_of_nonneg k0]; exact hG
  obtain ⟨G0, G1⟩ : 0 ≤ G ∧ G < 256 := by omega
  obtain ⟨PK, hPK⟩ : ∃ P, panK (G % 4) = P := ⟨_, rfl⟩
  have HPK := hid hPK
  have hGx : k / 3 % 4 = G % 4 := by rw [hG]
  have HS : Hid (seatM d k s m = ({ Ms.of 1 with term := T, stan := F, pan := PK, amt := m } : Ms)) := by
    unfold Hid; rw [HS0.out]; simp only [hT, hF, hG, hPK]
    rfl
  clear HS0 hT hA hB1 hB hD hE hF hG hPK hGx
  have FC0 : Hid (({ Ms.of 1 with term := T, stan := F } : Ms).cells = ({ Ms.of 1 with term := T } : Ms).cells.take 2 ++ ([.int .u32 F] : List Value) ++ ({ Ms.of 1 with term := T } : Ms).cells.drop (2 + ([.int .u32 F] : List Value).length)) := rfl
  have FL0 : Hid (2 + ([.int .u32 F] : List Value).length ≤ 26) := by unfold Hid; simp
  have FC1 : Hid (({ Ms.of 1 with term := T, stan := F, pan := PK } : Ms).cells = ({ Ms.of 1 with term := T, stan := F } : Ms).cells.take 3 ++ ([.string PK] : List Value) ++ ({ Ms.of 1 with term := T, stan := F } : Ms).cells.drop (3 + ([.string PK] : List Value).length)) := rfl
  have FL1 : Hid (3 + ([.string PK] : List Value).length ≤ 26) := by unfold Hid; simp
  have FC2 : Hid (({ Ms.of 1 with term := T, stan := F, pan := PK, amt := m } : Ms).cells = ({ Ms.of 1 with term := T, stan := F, pan := PK } : Ms).cells.take 4 ++ ([.int .i64 m] : List Value) ++ ({ Ms.of 1 with term := T, stan := F, pan := PK } : Ms).cells.drop (4 + ([.int .i64 m] : List Value).length)) := rfl
  have FL2 : Hid (4 + ([.int .i64 m] : List Value).length ≤ 26) := by unfold Hid; simp
  go_enter Tryd.func8, Tryd.ntmps8
  go_wp2_with (first | (have kill := Z6.out; refine st27 (r := ({ Ms.of 1 with term := T, stan := F, pan := PK, amt := m } : Ms)) Z6.out L6.out hb8 rfl _ _ rfl rfl rfl ?_; intro w9 v9 l9; have V9 := hid v9; have L9 := hid l9; clear v9 l9 kill Z6) | (have kill := V6.out; refine ld27 V6.out rfl _ rfl rfl ?_) | (have kill := V5.out; refine rv_store2 V5.out L5.out hb9 2 4 [.int .i64 m] ({ Ms.of 1 with term := T, stan := F, pan := PK, amt := m } : Ms) FL2.out FC2.out n2 (one1 rfl) rfl _ _ rfl rfl rfl rfl ?_; intro w' v' l' kk; have V6 := hid v'; have cc := (v'.cell 0 rfl : w'.cell? ⟨b9, 0, none⟩ = some (.int .i64 1)); have L6 := hid l'; have Z6 := hid (Z5.out.kept (kk _ Z5.out.lt NE.out)); have Q6 := hid (Q5.out.kept (kk _ Q5.out.lt NF.out)); clear v' l' kk kill V5) | (have kill := V4.out; refine rv_store2 V4.out L4.out hb9 9 3 [.string PK] ({ Ms.of 1 with term := T, stan := F, pan := PK } : Ms) FL1.out FC1.out n9 (one1 rfl) rfl _ _ rfl rfl rfl rfl ?_; intro w' v' l' kk; have V5 := hid v'; have cc := (v'.cell 0 rfl : w'.cell? ⟨b9, 0, none⟩ = some (.int .i64 1)); have L5 := hid l'; have Z5 := hid (Z4.out.kept (kk _ Z4.out.lt NE.out)); have Q5 := hid (Q4.out.kept (kk _ Q4.out.lt NF.out)); clear v' l' kk kill V4) | (have kill := V3.out; refine rv_store2 V3.out L3.out hb9 23 2 [.int .u32 F] ({ Ms.of 1 with term := T, stan := F } : Ms) FL0.out FC0.out n23 (one1 rfl) rfl _ _ rfl rfl rfl rfl ?_; intro w' v' l' kk; have V4 := hid v'; have cc := (v'.cell 0 rfl : w'.cell? ⟨b9, 0, none⟩ = some (.int .i64 1)); have L4 := hid l'; have Z4 := hid (Z3.out.kept (kk _ Z3.out.lt NE.out)); have Q4 := hid (Q3.out.kept (kk _ Q3.out.lt NF.out)); clear v' l' kk kill V3) | (go_at_call 17; have kill := V4.out; refine (pan17 G _ G0).mono ?_; rintro e w' ⟨rfl, l'⟩; rw [HPK.out]; have VV := hid (V4.out.below l'); have LL := hid (sq L4.out l'); have ZZ := hid (Z4.out.below l'); have QQ := hid (Q4.out.below l'); clear V4 L4 Z4 Q4 kill; have V4 := VV; have L4 := LL; have Z4 := ZZ; have Q4 := QQ; clear VV LL ZZ QQ l') | (have kill := Q6.out; refine ld25 Q6.out rfl _ rfl rfl ?_) | (have kill := Q5.out; refine ld25 Q5.out rfl _ rfl rfl ?_) | (have kill := Q4.out; refine ld25 Q4.out rfl _ rfl rfl ?_) | (have kill := Q3.out; refine ld25 Q3.out rfl _ rfl rfl ?_) | (have kill := Q2.out; refine st25 Q2.out rfl _ _ rfl rfl rfl ?_; intro w' q' t'; have Q3 := hid q'; have V3 := hid (V2.out.kept (t'.block _ V2.out.lt N9.out)); have Z3 := hid (Z2.out.kept (t'.block _ Z2.out.lt N8.out)); have L3 := hid (L2.out.trans (t'.below (fun k e => (by rw [e]; exact hb10)) L2.out.size)); have cc := (V3.out.cell 0 rfl : w'.cell? ⟨b9, 0, none⟩ = some (.int .i64 1)); clear q' t' kill Q2 V2 Z2 L2) | (refine al25 rfl rfl ?_; have kill := V1.out; intro b10 w' hx v' l'; have Q2 := hid v'; have V2 := hid (V1.out.below l'); have Z2 := hid (Z1.out.below l'); have L2 := hid (sq L1.out l'); have hb10 : w.heap.size ≤ b10 := Nat.le_trans L1.out.size hx; have N9 : Hid (¬ b9 = b10) := hid (Nat.ne_of_lt (Nat.lt_of_lt_of_le V1.out.lt hx)); have N8 : Hid (¬ b8 = b10) := hid (Nat.ne_of_lt (Nat.lt_of_lt_of_le Z1.out.lt hx)); have NF : Hid (¬ b10 = b9) := hid (fun e => N9.out e.symm); clear v' l' hx kill V1 Z1 L1) | (have kill := V0.out; refine rv_whole V0.out L0.out hb9 ({ Ms.of 1 with term := T } : Ms) rfl _ _ rfl rfl rfl ?_; intro w' v' l' kk; have V1 := hid v'; have L1 := hid l'; have Z1 := hid (Z0.out.kept (kk _ Z0.out.lt NE.out)); clear v' l' kk kill V0 Z0 L0) | (refine al27 rfl rfl ?_; have kill := ZA.out; intro b9 w' hx v' l'; have V0 := hid v'; have Z0 := hid (ZA.out.below l'); have L0 := hid (sq LA.out l'); have hb9 : w.heap.size ≤ b9 := Nat.le_trans LA.out.size hx; have NE : Hid (¬ b8 = b9) := hid (Nat.ne_of_lt (Nat.lt_of_lt_of_le ZA.out.lt hx)); clear v' l' hx kill ZA LA) | (refine al27 rfl rfl ?_; intro b8 w' hb8 v' l'; have ZA := hid v'; have LA := hid l'; clear v' l') | (refine bdKT rfl _ _ rfl rfl rfl ?_))
  refine bodyPost_ret (results_c0 Tryd.results8 _ _ rfl V9.out) rfl ⟨?_, L9.out⟩
  rw [HS.out]
set_option maxRecDepth 20000 in
set_option maxHeartbeats 8000000 in
theorem msg8_2 (d k s m : Int) (w : World) (d0 : 0 ≤ d) (d1 : d < 256) (k0 : 0 ≤ k) (k1 : k < 256) (s0 : 0 ≤ s) (s1 : s < 65536) (m0 : 0 ≤ m) (m1 : m < 65536) (h : d % 7 = 1) :
    Calls Tryd.prog 8 #[.int .u8 d, .int .u8 k, .int .u16 s, .int .u16 m] w fun e w' => e = .returned (seatM d k s m).val ∧ Below w.heap.size w w' := by
  have HS0 : Hid (seatM d k s m = ({ Ms.of (1 + 1) with term := k % 3, stan := s % 6, n0 := k % 5, n1 := k / 5 % 5, n2 := s % 3, n3 := m % 4, j0 := k / 128 } : Ms)) := by
    unfold Hid seatM
    simp only []
    rw [if_neg (by omega), if_pos h]; rw [h]
  have hyy := And.intro d1 (And.intro s1 m1)
  clear hyy
  have hd7 : d.tmod 7 = 1 := by rw [Int.tmod_eq_emod_of_nonneg d0]; exact h
  obtain ⟨T, hT⟩ : ∃ T, k % 3 = T := ⟨_, rfl⟩
  have hk3 : k.tmod 3 = T := by rw [Int.tmod_eq_emod_of_nonneg k0]; exact hT
  have T0 : 0 ≤ T ∧ T < 3 := by omega
  obtain ⟨T0, T1⟩ := T0
  obtain ⟨A, hA⟩ : ∃ A, k % 5 = A := ⟨_, rfl⟩
  have hk5 : k.tmod 5 = A := by rw [Int.tmod_eq_emod_of_nonneg k0]; exact hA
  obtain ⟨A0, A1⟩ : 0 ≤ A ∧ A < 5 := by omega
  obtain ⟨B1, hB1⟩ : ∃ B, k / 5 = B := ⟨_, rfl⟩
  have hkd5 : k.tdiv 5 = B1 := by rw [Int.tdiv_eq_ediv_of_nonneg k0]; exact hB1
  obtain ⟨B10, B11⟩ : 0 ≤ B1 ∧ B1 < 256 := by omega
  obtain ⟨B, hB⟩ : ∃ B, B1 % 5 = B := ⟨_, rfl⟩
  have hb5 : B1.tmod 5 = B := by rw [Int.tmod_eq_emod_of_nonneg B10]; exact hB
  obtain ⟨B0, B2⟩ : 0 ≤ B ∧ B < 5 := by omega
  obtain ⟨D, hD⟩ : ∃ D, s % 3 = D := ⟨_, rfl⟩
  have hs3 : s.tmod 3 = D := by rw [Int.tmod_eq_emod_of_nonneg s0]; exact hD
  obtain ⟨D0, D1⟩ : 0 ≤ D ∧ D < 3 := by omega
  obtain ⟨E, hE⟩ : ∃ E, m % 4 = E := ⟨_, rfl⟩
  have hm4 : m.tmod 4 = E := by rw [Int.tmod_eq_emod_of_nonneg m0]; exact hE
  obtain ⟨E0, E1⟩ : 0 ≤ E ∧ E < 4 := by omega
  obtain ⟨F, hF⟩ : ∃ F, s % 6 = F := ⟨_, rfl⟩
  have hs6 : s.tmod 6 = F := by rw [Int.tmod_eq_emod_of_nonneg s0]; exact hF
  obtain ⟨F0, F1⟩ : 0 ≤ F ∧ F < 6 := by omega
  obtain ⟨G, hG⟩ : ∃ G, k / 128 = G := ⟨_, rfl⟩
  have hkd128 : k.tdiv 128 = G := by rw [Int.tdiv_eq_ediv_of_nonneg k0]; exact hG
  obtain ⟨G0, G1⟩ : 0 ≤ G ∧ G < 256 := by omega
  have HS : Hid (seatM d k s m = ({ Ms.of 2 with term := T, stan := F, n0 := A, n1 := B, n2 := D, n3 := E, j0 := G } : Ms)) := by
    unfold Hid; rw [HS0.out]; simp only [hT, hA, hB1, hB, hD, hE, hF, hG]
    rfl
  clear HS0 hT hA hB1 hB hD hE hF hG
  have FC0 : Hid (({ Ms.of 2 with term := T, stan := F } : Ms).cells = ({ Ms.of 2 with term := T } : Ms).cells.take 2 ++ ([.int .u32 F] : List Value) ++ ({ Ms.of 2 with term := T } : Ms).cells.drop (2 + ([.int .u32 F] : List Value).length)) := rfl
  have FL0 : Hid (2 + ([.int .u32 F] : List Value).length ≤ 26) := by unfold Hid; simp
  have FC1 : Hid (({ Ms.of 2 with term := T, stan := F, n0 := A, n1 := B, n2 := D, n3 := E } : Ms).cells = ({ Ms.of 2 with term := T, stan := F } : Ms).cells.take 5 ++ ((c4 A B D E) : List Value) ++ ({ Ms.of 2 with term := T, stan := F } : Ms).cells.drop (5 + ((c4 A B D E) : List Value).length)) := rfl
  have FL1 : Hid (5 + ((c4 A B D E) : List Value).length ≤ 26) := by unfold Hid; simp [c4]
  have FC2 : Hid (({ Ms.of 2 with term := T, stan := F, n0 := A, n1 := B, n2 := D, n3 := E, j0 := G } : Ms).cells = ({ Ms.of 2 with term := T, stan := F, n0 := A, n1 := B, n2 := D, n3 := E } : Ms).cells.take 9 ++ ((c4 G 0 0 0) : List Value) ++ ({ Ms.of 2 with term := T, stan := F, n0 := A, n1 := B, n2 := D, n3 := E } : Ms).cells.drop (9 + ((c4 G 0 0 0) : List Value).length)) := rfl
  have FL2 : Hid (9 + ((c4 G 0 0 0) : List Value).length ≤ 26) := by unfold Hid; simp [c4]
  go_enter Tryd.func8, Tryd.ntmps8
  go_wp2_with (first | (have kill := Z6.out; refine st27 (r := ({ Ms.of 2 with term := T, stan := F, n0 := A, n1 := B, n2 := D, n3 := E, j0 := G } : Ms)) Z6.out L6.out hb8 rfl _ _ rfl rfl rfl ?_; intro w9 v9 l9; have V9 := hid v9; have L9 := hid l9; clear v9 l9 kill Z6) | (have kill := V6.out; refine ld27 V6.out rfl _ rfl rfl ?_) | (have kill := V5.out; refine rv_store2 V5.out L5.out hb9 25 9 (c4 G 0 0 0) ({ Ms.of 2 with term := T, stan := F, n0 := A, n1 := B, n2 := D, n3 := E, j0 := G } : Ms) FL2.out FC2.out n25 (c4_one _ _ _ _) rfl _ _ rfl rfl rfl rfl ?_; intro w' v' l' kk; have V6 := hid v'; have cc := (v'.cell 0 rfl : w'.cell? ⟨b9, 0, none⟩ = some (.int .i64 2)); have L6 := hid l'; have Z6 := hid (Z5.out.kept (kk _ Z5.out.lt NE.out)); have Q6 := hid (Q5.out.kept (kk _ Q5.out.lt NF.out)); clear v' l' kk kill V5) | (have kill := V4.out; refine rv_store2 V4.out L4.out hb9 25 5 (c4 A B D E) ({ Ms.of 2 with term := T, stan := F, n0 := A, n1 := B, n2 := D, n3 := E } : Ms) FL1.out FC1.out n25 (c4_one _ _ _ _) rfl _ _ rfl rfl rfl rfl ?_; intro w' v' l' kk; have V5 := hid v'; have cc := (v'.cell 0 rfl : w'.cell? ⟨b9, 0, none⟩ = some (.int .i64 2)); have L5 := hid l'; have Z5 := hid (Z4.out.kept (kk _ Z4.out.lt NE.out)); have Q5 := hid (Q4.out.kept (kk _ Q4.out.lt NF.out)); clear v' l' kk kill V4) | (have kill := V3.out; refine rv_store2 V3.out L3.out hb9 23 2 [.int .u32 F] ({ Ms.of 2 with term := T, stan := F } : Ms) FL0.out FC0.out n23 (one1 rfl) rfl _ _ rfl rfl rfl rfl ?_; intro w' v' l' kk; have V4 := hid v'; have cc := (v'.cell 0 rfl : w'.cell? ⟨b9, 0, none⟩ = some (.int .i64 2)); have L4 := hid l'; have Z4 := hid (Z3.out.kept (kk _ Z3.out.lt NE.out)); have Q4 := hid (Q3.out.kept (kk _ Q3.out.lt NF.out)); clear v' l' kk kill V3) | (have kill := Q6.out; refine ld25 Q6.out rfl _ rfl rfl ?_) | (have kill := Q5.out; refine ld25 Q5.out rfl _ rfl rfl ?_) | (have kill := Q4.out; refine ld25 Q4.out rfl _ rfl rfl ?_) | (have kill := Q3.out; refine ld25 Q3.out rfl _ rfl rfl ?_) | (have kill := Q2.out; refine st25 Q2.out rfl _ _ rfl rfl rfl ?_; intro w' q' t'; have Q3 := hid q'; have V3 := hid (V2.out.kept (t'.block _ V2.out.lt N9.out)); have Z3 := hid (Z2.out.kept (t'.block _ Z2.out.lt N8.out)); have L3 := hid (L2.out.trans (t'.below (fun k e => (by rw [e]; exact hb10)) L2.out.size)); have cc := (V3.out.cell 0 rfl : w'.cell? ⟨b9, 0, none⟩ = some (.int .i64 2)); clear q' t' kill Q2 V2 Z2 L2) | (refine al25 rfl rfl ?_; have kill := V1.out; intro b10 w' hx v' l'; have Q2 := hid v'; have V2 := hid (V1.out.below l'); have Z2 := hid (Z1.out.below l'); have L2 := hid (sq L1.out l'); have hb10 : w.heap.size ≤ b10 := Nat.le_trans L1.out.size hx; have N9 : Hid (¬ b9 = b10) := hid (Nat.ne_of_lt (Nat.lt_of_lt_of_le V1.out.lt hx)); have N8 : Hid (¬ b8 = b10) := hid (Nat.ne_of_lt (Nat.lt_of_lt_of_le Z1.out.lt hx)); have NF : Hid (¬ b10 = b9) := hid (fun e => N9.out e.symm); clear v' l' hx kill V1 Z1 L1) | (have kill := V0.out; refine rv_whole V0.out L0.out hb9 ({ Ms.of 2 with term := T } : Ms) rfl _ _ rfl rfl rfl ?_; intro w' v' l' kk; have V1 := hid v'; have L1 := hid l'; have Z1 := hid (Z0.out.kept (kk _ Z0.out.lt NE.out)); clear v' l' kk kill V0 Z0 L0) | (refine al27 rfl rfl ?_; have kill := ZA.out; intro b9 w' hx v' l'; have V0 := hid v'; have Z0 := hid (ZA.out.below l'); have L0 := hid (sq LA.out l'); have hb9 : w.heap.size ≤ b9 := Nat.le_trans LA.out.size hx; have NE : Hid (¬ b8 = b9) := hid (Nat.ne_of_lt (Nat.lt_of_lt_of_le ZA.out.lt hx)); clear v' l' hx kill ZA LA) | (refine al27 rfl rfl ?_; intro b8 w' hb8 v' l'; have ZA := hid v'; have LA := hid l'; clear v' l') | (refine bdKT rfl _ _ rfl rfl rfl ?_))
  refine bodyPost_ret (results_c0 Tryd.results8 _ _ rfl V9.out) rfl ⟨?_, L9.out⟩
  rw [HS.out]
set_option maxRecDepth 20000 in
set_option maxHeartbeats 8000000 in
theorem msg8_3 (d k s m : Int) (w : World) (d0 : 0 ≤ d) (d1 : d < 256) (k0 : 0 ≤ k) (k1 : k < 256) (s0 : 0 ≤ s) (s1 : s < 65536) (m0 : 0 ≤ m) (m1 : m < 65536) (h : d % 7 = 2) :
    Calls Tryd.prog 8 #[.int .u8 d, .int .u8 k, .int .u16 s, .int .u16 m] w fun e w' => e = .returned (seatM d k s m).val ∧ Below w.heap.size w w' := by
  have HS0 : Hid (seatM d k s m = ({ Ms.of (2 + 1) with term := k % 3 } : Ms)) := by
    unfold Hid seatM
    simp only []
    rw [if_neg (by omega), if_neg (by omega), if_pos h]; rw [h]
  have hyy := And.intro d1 (And.intro s1 m1)
  clear hyy
  have hd7 : d.tmod 7 = 2 := by rw [Int.tmod_eq_emod_of_nonneg d0]; exact h
  obtain ⟨T, hT⟩ : ∃ T, k % 3 = T := ⟨_, rfl⟩
  have hk3 : k.tmod 3 = T := by rw [Int.tmod_eq_emod_of_nonneg k0]; exact hT
  have T0 : 0 ≤ T ∧ T < 3 := by omega
  obtain ⟨T0, T1⟩ := T0
  obtain ⟨A, hA⟩ : ∃ A, k % 5 = A := ⟨_, rfl⟩
  have hk5 : k.tmod 5 = A := by rw [Int.tmod_eq_emod_of_nonneg k0]; exact hA
  obtain ⟨A0, A1⟩ : 0 ≤ A ∧ A < 5 := by omega
  obtain ⟨B1, hB1⟩ : ∃ B, k / 5 = B := ⟨_, rfl⟩
  have hkd5 : k.tdiv 5 = B1 := by rw [Int.tdiv_eq_ediv_of_nonneg k0]; exact hB1
  obtain ⟨B10, B11⟩ : 0 ≤ B1 ∧ B1 < 256 := by omega
  obtain ⟨B, hB⟩ : ∃ B, B1 % 5 = B := ⟨_, rfl⟩
  have hb5 : B1.tmod 5 = B := by rw [Int.tmod_eq_emod_of_nonneg B10]; exact hB
  obtain ⟨B0, B2⟩ : 0 ≤ B ∧ B < 5 := by omega
  obtain ⟨D, hD⟩ : ∃ D, s % 3 = D := ⟨_, rfl⟩
  have hs3 : s.tmod 3 = D := by rw [Int.tmod_eq_emod_of_nonneg s0]; exact hD
  obtain ⟨D0, D1⟩ : 0 ≤ D ∧ D < 3 := by omega
  obtain ⟨E, hE⟩ : ∃ E, m % 4 = E := ⟨_, rfl⟩
  have hm4 : m.tmod 4 = E := by rw [Int.tmod_eq_emod_of_nonneg m0]; exact hE
  obtain ⟨E0, E1⟩ : 0 ≤ E ∧ E < 4 := by omega
  obtain ⟨F, hF⟩ : ∃ F, s % 6 = F := ⟨_, rfl⟩
  have hs6 : s.tmod 6 = F := by rw [Int.tmod_eq_emod_of_nonneg s0]; exact hF
  obtain ⟨F0, F1⟩ : 0 ≤ F ∧ F < 6 := by omega
  have HS : Hid (seatM d k s m = ({ Ms.of 3 with term := T } : Ms)) := by
    unfold Hid; rw [HS0.out]; simp only [hT]
    rfl
  clear HS0 hT hA hB1 hB hD hE hF
  go_enter Tryd.func8, Tryd.ntmps8
  go_wp2_with (first | (have kill := Z3.out; refine st27 (r := ({ Ms.of 3 with term := T } : Ms)) Z3.out L3.out hb8 rfl _ _ rfl rfl rfl ?_; intro w9 v9 l9; have V9 := hid v9; have L9 := hid l9; clear v9 l9 kill Z3) | (have kill := V3.out; refine ld27 V3.out rfl _ rfl rfl ?_) | (have kill := Q3.out; refine ld25 Q3.out rfl _ rfl rfl ?_) | (have kill := Q2.out; refine st25 Q2.out rfl _ _ rfl rfl rfl ?_; intro w' q' t'; have Q3 := hid q'; have V3 := hid (V2.out.kept (t'.block _ V2.out.lt N9.out)); have Z3 := hid (Z2.out.kept (t'.block _ Z2.out.lt N8.out)); have L3 := hid (L2.out.trans (t'.below (fun k e => (by rw [e]; exact hb10)) L2.out.size)); have cc := (V3.out.cell 0 rfl : w'.cell? ⟨b9, 0, none⟩ = some (.int .i64 3)); clear q' t' kill Q2 V2 Z2 L2) | (refine al25 rfl rfl ?_; have kill := V1.out; intro b10 w' hx v' l'; have Q2 := hid v'; have V2 := hid (V1.out.below l'); have Z2 := hid (Z1.out.below l'); have L2 := hid (sq L1.out l'); have hb10 : w.heap.size ≤ b10 := Nat.le_trans L1.out.size hx; have N9 : Hid (¬ b9 = b10) := hid (Nat.ne_of_lt (Nat.lt_of_lt_of_le V1.out.lt hx)); have N8 : Hid (¬ b8 = b10) := hid (Nat.ne_of_lt (Nat.lt_of_lt_of_le Z1.out.lt hx)); have NF : Hid (¬ b10 = b9) := hid (fun e => N9.out e.symm); clear v' l' hx kill V1 Z1 L1) | (have kill := V0.out; refine rv_whole V0.out L0.out hb9 ({ Ms.of 3 with term := T } : Ms) rfl _ _ rfl rfl rfl ?_; intro w' v' l' kk; have V1 := hid v'; have L1 := hid l'; have Z1 := hid (Z0.out.kept (kk _ Z0.out.lt NE.out)); clear v' l' kk kill V0 Z0 L0) | (refine al27 rfl rfl ?_; have kill := ZA.out; intro b9 w' hx v' l'; have V0 := hid v'; have Z0 := hid (ZA.out.below l'); have L0 := hid (sq LA.out l'); have hb9 : w.heap.size ≤ b9 := Nat.le_trans LA.out.size hx; have NE : Hid (¬ b8 = b9) := hid (Nat.ne_of_lt (Nat.lt_of_lt_of_le ZA.out.lt hx)); clear v' l' hx kill ZA LA) | (refine al27 rfl rfl ?_; intro b8 w' hb8 v' l'; have ZA := hid v'; have LA := hid l'; clear v' l') | (refine bdKT rfl _ _ rfl rfl rfl ?_))
  refine bodyPost_ret (results_c0 Tryd.results8 _ _ rfl V9.out) rfl ⟨?_, L9.out⟩
  rw [HS.out]
set_option maxRecDepth 20000 in
set_option maxHeartbeats 8000000 in
theorem msg8_5 (d k s m : Int) (w : World) (d0 : 0 ≤ d) (d1 : d < 256) (k0 : 0 ≤ k) (k1 : k < 256) (s0 : 0 ≤ s) (s1 : s < 65536) (m0 : 0 ≤ m) (m1 : m < 65536) (h : d % 7 = 4) :
    Calls Tryd.prog 8 #[.int .u8 d, .int .u8 k, .int .u16 s, .int .u16 m] w fun e w' => e = .returned (seatM d k s m).val ∧ Below w.heap.size w w' := by
  have HS0 : Hid (seatM d k s m = ({ Ms.of (4 + 1) with term := k % 3, stan := s % 6, amt := m, n0 := k % 5, n1 := k / 5 % 5, n2 := s % 3, n3 := m % 4 } : Ms)) := by
    unfold Hid seatM
    simp only []
    rw [if_neg (by omega), if_neg (by omega), if_neg (by omega), if_neg (by omega), if_pos h]; rw [h]
  have hyy := And.intro d1 (And.intro s1 m1)
  clear hyy
  have hd7 : d.tmod 7 = 4 := by rw [Int.tmod_eq_emod_of_nonneg d0]; exact h
  obtain ⟨T, hT⟩ : ∃ T, k % 3 = T := ⟨_, rfl⟩
  have hk3 : k.tmod 3 = T := by rw [Int.tmod_eq_emod_of_nonneg k0]; exact hT
  have T0 : 0 ≤ T ∧ T < 3 := by omega
  obtain ⟨T0, T1⟩ := T0
  obtain ⟨A, hA⟩ : ∃ A, k % 5 = A := ⟨_, rfl⟩
  have hk5 : k.tmod 5 = A := by rw [Int.tmod_eq_emod_of_nonneg k0]; exact hA
  obtain ⟨A0, A1⟩ : 0 ≤ A ∧ A < 5 := by omega
  obtain ⟨B1, hB1⟩ : ∃ B, k / 5 = B := ⟨_, rfl⟩
  have hkd5 : k.tdiv 5 = B1 := by rw [Int.tdiv_eq_ediv_of_nonneg k0]; exact hB1
  obtain ⟨B10, B11⟩ : 0 ≤ B1 ∧ B1 < 256 := by omega
  obtain ⟨B, hB⟩ : ∃ B, B1 % 5 = B := ⟨_, rfl⟩
  have hb5 : B1.tmod 5 = B := by rw [Int.tmod_eq_emod_of_nonneg B10]; exact hB
  obtain ⟨B0, B2⟩ : 0 ≤ B ∧ B < 5 := by omega
  obtain ⟨D, hD⟩ : ∃ D, s % 3 = D := ⟨_, rfl⟩
  have hs3 : s.tmod 3 = D := by rw [Int.tmod_eq_emod_of_nonneg s0]; exact hD
  obtain ⟨D0, D1⟩ : 0 ≤ D ∧ D < 3 := by omega
  obtain ⟨E, hE⟩ : ∃ E, m % 4 = E := ⟨_, rfl⟩
  have hm4 : m.tmod 4 = E := by rw [Int.tmod_eq_emod_of_nonneg m0]; exact hE
  obtain ⟨E0, E1⟩ : 0 ≤ E ∧ E < 4 := by omega
  obtain ⟨F, hF⟩ : ∃ F, s % 6 = F := ⟨_, rfl⟩
  have hs6 : s.tmod 6 = F := by rw [Int.tmod_eq_emod_of_nonneg s0]; exact hF
  obtain ⟨F0, F1⟩ : 0 ≤ F ∧ F < 6 := by omega
  have HS : Hid (seatM d k s m = ({ Ms.of 5 with term := T, stan := F, amt := m, n0 := A, n1 := B, n2 := D, n3 := E } : Ms)) := by
    unfold Hid; rw [HS0.out]; simp only [hT, hA, hB1, hB, hD, hE, hF]
    rfl
  clear HS0 hT hA hB1 hB hD hE hF
  have FC0 : Hid (({ Ms.of 5 with term := T, stan := F } : Ms).cells = ({ Ms.of 5 with term := T } : Ms).cells.take 2 ++ ([.int .u32 F] : List Value) ++ ({ Ms.of 5 with term := T } : Ms).cells.drop (2 + ([.int .u32 F] : List Value).length)) := rfl
  have FL0 : Hid (2 + ([.int .u32 F] : List Value).length ≤ 26) := by unfold Hid; simp
  have FC1 : Hid (({ Ms.of 5 with term := T, stan := F, n0 := A, n1 := B, n2 := D, n3 := E } : Ms).cells = ({ Ms.of 5 with term := T, stan := F } : Ms).cells.take 5 ++ ((c4 A B D E) : List Value) ++ ({ Ms.of 5 with term := T, stan := F } : Ms).cells.drop (5 + ((c4 A B D E) : List Value).length)) := rfl
  have FL1 : Hid (5 + ((c4 A B D E) : List Value).length ≤ 26) := by unfold Hid; simp [c4]
  have FC2 : Hid (({ Ms.of 5 with term := T, stan := F, amt := m, n0 := A, n1 := B, n2 := D, n3 := E } : Ms).cells = ({ Ms.of 5 with term := T, stan := F, n0 := A, n1 := B, n2 := D, n3 := E } : Ms).cells.take 4 ++ ([.int .i64 m] : List Value) ++ ({ Ms.of 5 with term := T, stan := F, n0 := A, n1 := B, n2 := D, n3 := E } : Ms).cells.drop (4 + ([.int .i64 m] : List Value).length)) := rfl
  have FL2 : Hid (4 + ([.int .i64 m] : List Value).length ≤ 26) := by unfold Hid; simp
  go_enter Tryd.func8, Tryd.ntmps8
  go_wp2_with (first | (have kill := Z6.out; refine st27 (r := ({ Ms.of 5 with term := T, stan := F, amt := m, n0 := A, n1 := B, n2 := D, n3 := E } : Ms)) Z6.out L6.out hb8 rfl _ _ rfl rfl rfl ?_; intro w9 v9 l9; have V9 := hid v9; have L9 := hid l9; clear v9 l9 kill Z6) | (have kill := V6.out; refine ld27 V6.out rfl _ rfl rfl ?_) | (have kill := V5.out; refine rv_store2 V5.out L5.out hb9 2 4 [.int .i64 m] ({ Ms.of 5 with term := T, stan := F, amt := m, n0 := A, n1 := B, n2 := D, n3 := E } : Ms) FL2.out FC2.out n2 (one1 rfl) rfl _ _ rfl rfl rfl rfl ?_; intro w' v' l' kk; have V6 := hid v'; have cc := (v'.cell 0 rfl : w'.cell? ⟨b9, 0, none⟩ = some (.int .i64 5)); have L6 := hid l'; have Z6 := hid (Z5.out.kept (kk _ Z5.out.lt NE.out)); have Q6 := hid (Q5.out.kept (kk _ Q5.out.lt NF.out)); clear v' l' kk kill V5) | (have kill := V4.out; refine rv_store2 V4.out L4.out hb9 25 5 (c4 A B D E) ({ Ms.of 5 with term := T, stan := F, n0 := A, n1 := B, n2 := D, n3 := E } : Ms) FL1.out FC1.out n25 (c4_one _ _ _ _) rfl _ _ rfl rfl rfl rfl ?_; intro w' v' l' kk; have V5 := hid v'; have cc := (v'.cell 0 rfl : w'.cell? ⟨b9, 0, none⟩ = some (.int .i64 5)); have L5 := hid l'; have Z5 := hid (Z4.out.kept (kk _ Z4.out.lt NE.out)); have Q5 := hid (Q4.out.kept (kk _ Q4.out.lt NF.out)); clear v' l' kk kill V4) | (have kill := V3.out; refine rv_store2 V3.out L3.out hb9 23 2 [.int .u32 F] ({ Ms.of 5 with term := T, stan := F } : Ms) FL0.out FC0.out n23 (one1 rfl) rfl _ _ rfl rfl rfl rfl ?_; intro w' v' l' kk; have V4 := hid v'; have cc := (v'.cell 0 rfl : w'.cell? ⟨b9, 0, none⟩ = some (.int .i64 5)); have L4 := hid l'; have Z4 := hid (Z3.out.kept (kk _ Z3.out.lt NE.out)); have Q4 := hid (Q3.out.kept (kk _ Q3.out.lt NF.out)); clear v' l' kk kill V3) | (have kill := Q6.out; refine ld25 Q6.out rfl _ rfl rfl ?_) | (have kill := Q5.out; refine ld25 Q5.out rfl _ rfl rfl ?_) | (have kill := Q4.out; refine ld25 Q4.out rfl _ rfl rfl ?_) | (have kill := Q3.out; refine ld25 Q3.out rfl _ rfl rfl ?_) | (have kill := Q2.out; refine st25 Q2.out rfl _ _ rfl rfl rfl ?_; intro w' q' t'; have Q3 := hid q'; have V3 := hid (V2.out.kept (t'.block _ V2.out.lt N9.out)); have Z3 := hid (Z2.out.kept (t'.block _ Z2.out.lt N8.out)); have L3 := hid (L2.out.trans (t'.below (fun k e => (by rw [e]; exact hb10)) L2.out.size)); have cc := (V3.out.cell 0 rfl : w'.cell? ⟨b9, 0, none⟩ = some (.int .i64 5)); clear q' t' kill Q2 V2 Z2 L2) | (refine al25 rfl rfl ?_; have kill := V1.out; intro b10 w' hx v' l'; have Q2 := hid v'; have V2 := hid (V1.out.below l'); have Z2 := hid (Z1.out.below l'); have L2 := hid (sq L1.out l'); have hb10 : w.heap.size ≤ b10 := Nat.le_trans L1.out.size hx; have N9 : Hid (¬ b9 = b10) := hid (Nat.ne_of_lt (Nat.lt_of_lt_of_le V1.out.lt hx)); have N8 : Hid (¬ b8 = b10) := hid (Nat.ne_of_lt (Nat.lt_of_lt_of_le Z1.out.lt hx)); have NF : Hid (¬ b10 = b9) := hid (fun e => N9.out e.symm); clear v' l' hx kill V1 Z1 L1) | (have kill := V0.out; refine rv_whole V0.out L0.out hb9 ({ Ms.of 5 with term := T } : Ms) rfl _ _ rfl rfl rfl ?_; intro w' v' l' kk; have V1 := hid v'; have L1 := hid l'; have Z1 := hid (Z0.out.kept (kk _ Z0.out.lt NE.out)); clear v' l' kk kill V0 Z0 L0) | (refine al27 rfl rfl ?_; have kill := ZA.out; intro b9 w' hx v' l'; have V0 := hid v'; have Z0 := hid (ZA.out.below l'); have L0 := hid (sq LA.out l'); have hb9 : w.heap.size ≤ b9 := Nat.le_trans LA.out.size hx; have NE : Hid (¬ b8 = b9) := hid (Nat.ne_of_lt (Nat.lt_of_lt_of_le ZA.out.lt hx)); clear v' l' hx kill ZA LA) | (refine al27 rfl rfl ?_; intro b8 w' hb8 v' l'; have ZA := hid v'; have LA := hid l'; clear v' l') | (refine bdKT rfl _ _ rfl rfl rfl ?_))
  refine bodyPost_ret (results_c0 Tryd.results8 _ _ rfl V9.out) rfl ⟨?_, L9.out⟩
  rw [HS.out]
set_option maxRecDepth 20000 in
set_option maxHeartbeats 8000000 in
theorem msg8_6 (d k s m : Int) (w : World) (d0 : 0 ≤ d) (d1 : d < 256) (k0 : 0 ≤ k) (k1 : k < 256) (s0 : 0 ≤ s) (s1 : s < 65536) (m0 : 0 ≤ m) (m1 : m < 65536) (h : d % 7 = 5) :
    Calls Tryd.prog 8 #[.int .u8 d, .int .u8 k, .int .u16 s, .int .u16 m] w fun e w' => e = .returned (seatM d k s m).val ∧ Below w.heap.size w w' := by
  have HS0 : Hid (seatM d k s m = ({ Ms.of (5 + 1) with term := k % 3, stan := s % 6 } : Ms)) := by
    unfold Hid seatM
    simp only []
    rw [if_neg (by omega), if_neg (by omega), if_neg (by omega), if_neg (by omega), if_neg (by omega)]; rw [h]
  have hyy := And.intro d1 (And.intro s1 m1)
  clear hyy
  have hd7 : d.tmod 7 = 5 := by rw [Int.tmod_eq_emod_of_nonneg d0]; exact h
  obtain ⟨T, hT⟩ : ∃ T, k % 3 = T := ⟨_, rfl⟩
  have hk3 : k.tmod 3 = T := by rw [Int.tmod_eq_emod_of_nonneg k0]; exact hT
  have T0 : 0 ≤ T ∧ T < 3 := by omega
  obtain ⟨T0, T1⟩ := T0
  obtain ⟨A, hA⟩ : ∃ A, k % 5 = A := ⟨_, rfl⟩
  have hk5 : k.tmod 5 = A := by rw [Int.tmod_eq_emod_of_nonneg k0]; exact hA
  obtain ⟨A0, A1⟩ : 0 ≤ A ∧ A < 5 := by omega
  obtain ⟨B1, hB1⟩ : ∃ B, k / 5 = B := ⟨_, rfl⟩
  have hkd5 : k.tdiv 5 = B1 := by rw [Int.tdiv_eq_ediv_of_nonneg k0]; exact hB1
  obtain ⟨B10, B11⟩ : 0 ≤ B1 ∧ B1 < 256 := by omega
  obtain ⟨B, hB⟩ : ∃ B, B1 % 5 = B := ⟨_, rfl⟩
  have hb5 : B1.tmod 5 = B := by rw [Int.tmod_eq_emod_of_nonneg B10]; exact hB
  obtain ⟨B0, B2⟩ : 0 ≤ B ∧ B < 5 := by omega
  obtain ⟨D, hD⟩ : ∃ D, s % 3 = D := ⟨_, rfl⟩
  have hs3 : s.tmod 3 = D := by rw [Int.tmod_eq_emod_of_nonneg s0]; exact hD
  obtain ⟨D0, D1⟩ : 0 ≤ D ∧ D < 3 := by omega
  obtain ⟨E, hE⟩ : ∃ E, m % 4 = E := ⟨_, rfl⟩
  have hm4 : m.tmod 4 = E := by rw [Int.tmod_eq_emod_of_nonneg m0]; exact hE
  obtain ⟨E0, E1⟩ : 0 ≤ E ∧ E < 4 := by omega
  obtain ⟨F, hF⟩ : ∃ F, s % 6 = F := ⟨_, rfl⟩
  have hs6 : s.tmod 6 = F := by rw [Int.tmod_eq_emod_of_nonneg s0]; exact hF
  obtain ⟨F0, F1⟩ : 0 ≤ F ∧ F < 6 := by omega
  have HS : Hid (seatM d k s m = ({ Ms.of 6 with term := T, stan := F } : Ms)) := by
    unfold Hid; rw [HS0.out]; simp only [hT, hF]
    rfl
  clear HS0 hT hA hB1 hB hD hE hF
  have FC0 : Hid (({ Ms.of 6 with term := T, stan := F } : Ms).cells = ({ Ms.of 6 with term := T } : Ms).cells.take 2 ++ ([.int .u32 F] : List Value) ++ ({ Ms.of 6 with term := T } : Ms).cells.drop (2 + ([.int .u32 F] : List Value).length)) := rfl
  have FL0 : Hid (2 + ([.int .u32 F] : List Value).length ≤ 26) := by unfold Hid; simp
  go_enter Tryd.func8, Tryd.ntmps8
  go_wp2_with (first | (have kill := Z4.out; refine st27 (r := ({ Ms.of 6 with term := T, stan := F } : Ms)) Z4.out L4.out hb8 rfl _ _ rfl rfl rfl ?_; intro w9 v9 l9; have V9 := hid v9; have L9 := hid l9; clear v9 l9 kill Z4) | (have kill := V4.out; refine ld27 V4.out rfl _ rfl rfl ?_) | (have kill := V3.out; refine rv_store2 V3.out L3.out hb9 23 2 [.int .u32 F] ({ Ms.of 6 with term := T, stan := F } : Ms) FL0.out FC0.out n23 (one1 rfl) rfl _ _ rfl rfl rfl rfl ?_; intro w' v' l' kk; have V4 := hid v'; have cc := (v'.cell 0 rfl : w'.cell? ⟨b9, 0, none⟩ = some (.int .i64 6)); have L4 := hid l'; have Z4 := hid (Z3.out.kept (kk _ Z3.out.lt NE.out)); have Q4 := hid (Q3.out.kept (kk _ Q3.out.lt NF.out)); clear v' l' kk kill V3) | (have kill := Q4.out; refine ld25 Q4.out rfl _ rfl rfl ?_) | (have kill := Q3.out; refine ld25 Q3.out rfl _ rfl rfl ?_) | (have kill := Q2.out; refine st25 Q2.out rfl _ _ rfl rfl rfl ?_; intro w' q' t'; have Q3 := hid q'; have V3 := hid (V2.out.kept (t'.block _ V2.out.lt N9.out)); have Z3 := hid (Z2.out.kept (t'.block _ Z2.out.lt N8.out)); have L3 := hid (L2.out.trans (t'.below (fun k e => (by rw [e]; exact hb10)) L2.out.size)); have cc := (V3.out.cell 0 rfl : w'.cell? ⟨b9, 0, none⟩ = some (.int .i64 6)); clear q' t' kill Q2 V2 Z2 L2) | (refine al25 rfl rfl ?_; have kill := V1.out; intro b10 w' hx v' l'; have Q2 := hid v'; have V2 := hid (V1.out.below l'); have Z2 := hid (Z1.out.below l'); have L2 := hid (sq L1.out l'); have hb10 : w.heap.size ≤ b10 := Nat.le_trans L1.out.size hx; have N9 : Hid (¬ b9 = b10) := hid (Nat.ne_of_lt (Nat.lt_of_lt_of_le V1.out.lt hx)); have N8 : Hid (¬ b8 = b10) := hid (Nat.ne_of_lt (Nat.lt_of_lt_of_le Z1.out.lt hx)); have NF : Hid (¬ b10 = b9) := hid (fun e => N9.out e.symm); clear v' l' hx kill V1 Z1 L1) | (have kill := V0.out; refine rv_whole V0.out L0.out hb9 ({ Ms.of 6 with term := T } : Ms) rfl _ _ rfl rfl rfl ?_; intro w' v' l' kk; have V1 := hid v'; have L1 := hid l'; have Z1 := hid (Z0.out.kept (kk _ Z0.out.lt NE.out)); clear v' l' kk kill V0 Z0 L0) | (refine al27 rfl rfl ?_; have kill := ZA.out; intro b9 w' hx v' l'; have V0 := hid v'; have Z0 := hid (ZA.out.below l'); have L0 := hid (sq LA.out l'); have hb9 : w.heap.size ≤ b9 := Nat.le_trans LA.out.size hx; have NE : Hid (¬ b8 = b9) := hid (Nat.ne_of_lt (Nat.lt_of_lt_of_le ZA.out.lt hx)); clear v' l' hx kill ZA LA) | (refine al27 rfl rfl ?_; intro b8 w' hb8 v' l'; have ZA := hid v'; have LA := hid l'; clear v' l') | (refine bdKT rfl _ _ rfl rfl rfl ?_))
  refine bodyPost_ret (results_c0 Tryd.results8 _ _ rfl V9.out) rfl ⟨?_, L9.out⟩
  rw [HS.out]
set_option maxRecDepth 20000 in
set_option maxHeartbeats 8000000 in
theorem msg8_7 (d k s m : Int) (w : World) (d0 : 0 ≤ d) (d1 : d < 256) (k0 : 0 ≤ k) (k1 : k < 256) (s0 : 0 ≤ s) (s1 : s < 65536) (m0 : 0 ≤ m) (m1 : m < 65536) (h : d % 7 = 6) :
    Calls Tryd.prog 8 #[.int .u8 d, .int .u8 k, .int .u16 s, .int .u16 m] w fun e w' => e = .returned (seatM d k s m).val ∧ Below w.heap.size w w' := by
  have HS0 : Hid (seatM d k s m = ({ Ms.of (6 + 1) with term := k % 3, stan := s % 6 } : Ms)) := by
    unfold Hid seatM
    simp only []
    rw [if_neg (by omega), if_neg (by omega), if_neg (by omega), if_neg (by omega), if_neg (by omega)]; rw [h]
  have hyy := And.intro d1 (And.intro s1 m1)
  clear hyy
  have hd7 : d.tmod 7 = 6 := by rw [Int.tmod_eq_emod_of_nonneg d0]; exact h
  obtain ⟨T, hT⟩ : ∃ T, k % 3 = T := ⟨_, rfl⟩
  have hk3 : k.tmod 3 = T := by rw [Int.tmod_eq_emod_of_nonneg k0]; exact hT
  have T0 : 0 ≤ T ∧ T < 3 := by omega
  obtain ⟨T0, T1⟩ := T0
  obtain ⟨A, hA⟩ : ∃ A, k % 5 = A := ⟨_, rfl⟩
  have hk5 : k.tmod 5 = A := by rw [Int.tmod_eq_emod_of_nonneg k0]; exact hA
  obtain ⟨A0, A1⟩ : 0 ≤ A ∧ A < 5 := by omega
  obtain ⟨B1, hB1⟩ : ∃ B, k / 5 = B := ⟨_, rfl⟩
  have hkd5 : k.tdiv 5 = B1 := by rw [Int.tdiv_eq_ediv_of_nonneg k0]; exact hB1
  obtain ⟨B10, B11⟩ : 0 ≤ B1 ∧ B1 < 256 := by omega
  obtain ⟨B, hB⟩ : ∃ B, B1 % 5 = B := ⟨_, rfl⟩
  have hb5 : B1.tmod 5 = B := by rw [Int.tmod_eq_emod_of_nonneg B10]; exact hB
  obtain ⟨B0, B2⟩ : 0 ≤ B ∧ B < 5 := by omega
  obtain ⟨D, hD⟩ : ∃ D, s % 3 = D := ⟨_, rfl⟩
  have hs3 : s.tmod 3 = D := by rw [Int.tmod_eq_emod_of_nonneg s0]; exact hD
  obtain ⟨D0, D1⟩ : 0 ≤ D ∧ D < 3 := by omega
  obtain ⟨E, hE⟩ : ∃ E, m % 4 = E := ⟨_, rfl⟩
  have hm4 : m.tmod 4 = E := by rw [Int.tmod_eq_emod_of_nonneg m0]; exact hE
  obtain ⟨E0, E1⟩ : 0 ≤ E ∧ E < 4 := by omega
  obtain ⟨F, hF⟩ : ∃ F, s % 6 = F := ⟨_, rfl⟩
  have hs6 : s.tmod 6 = F := by rw [Int.tmod_eq_emod_of_nonneg s0]; exact hF
  obtain ⟨F0, F1⟩ : 0 ≤ F ∧ F < 6 := by omega
  have HS : Hid (seatM d k s m = ({ Ms.of 7 with term := T, stan := F } : Ms)) := by
    unfold Hid; rw [HS0.out]; simp only [hT, hF]
    rfl
  clear HS0 hT hA hB1 hB hD hE hF
  have FC0 : Hid (({ Ms.of 7 with term := T, stan := F } : Ms).cells = ({ Ms.of 7 with term := T } : Ms).cells.take 2 ++ ([.int .u32 F] : List Value) ++ ({ Ms.of 7 with term := T } : Ms).cells.drop (2 + ([.int .u32 F] : List Value).length)) := rfl
  have FL0 : Hid (2 + ([.int .u32 F] : List Value).length ≤ 26) := by unfold Hid; simp
  go_enter Tryd.func8, Tryd.ntmps8
  go_wp2_with (first | (have kill := Z4.out; refine st27 (r := ({ Ms.of 7 with term := T, stan := F } : Ms)) Z4.out L4.out hb8 rfl _ _ rfl rfl rfl ?_; intro w9 v9 l9; have V9 := hid v9; have L9 := hid l9; clear v9 l9 kill Z4) | (have kill := V4.out; refine ld27 V4.out rfl _ rfl rfl ?_) | (have kill := V3.out; refine rv_store2 V3.out L3.out hb9 23 2 [.int .u32 F] ({ Ms.of 7 with term := T, stan := F } : Ms) FL0.out FC0.out n23 (one1 rfl) rfl _ _ rfl rfl rfl rfl ?_; intro w' v' l' kk; have V4 := hid v'; have cc := (v'.cell 0 rfl : w'.cell? ⟨b9, 0, none⟩ = some (.int .i64 7)); have L4 := hid l'; have Z4 := hid (Z3.out.kept (kk _ Z3.out.lt NE.out)); have Q4 := hid (Q3.out.kept (kk _ Q3.out.lt NF.out)); clear v' l' kk kill V3) | (have kill := Q4.out; refine ld25 Q4.out rfl _ rfl rfl ?_) | (have kill := Q3.out; refine ld25 Q3.out rfl _ rfl rfl ?_) | (have kill := Q2.out; refine st25 Q2.out rfl _ _ rfl rfl rfl ?_; intro w' q' t'; have Q3 := hid q'; have V3 := hid (V2.out.kept (t'.block _ V2.out.lt N9.out)); have Z3 := hid (Z2.out.kept (t'.block _ Z2.out.lt N8.out)); have L3 := hid (L2.out.trans (t'.below (fun k e => (by rw [e]; exact hb10)) L2.out.size)); have cc := (V3.out.cell 0 rfl : w'.cell? ⟨b9, 0, none⟩ = some (.int .i64 7)); clear q' t' kill Q2 V2 Z2 L2) | (refine al25 rfl rfl ?_; have kill := V1.out; intro b10 w' hx v' l'; have Q2 := hid v'; have V2 := hid (V1.out.below l'); have Z2 := hid (Z1.out.below l'); have L2 := hid (sq L1.out l'); have hb10 : w.heap.size ≤ b10 := Nat.le_trans L1.out.size hx; have N9 : Hid (¬ b9 = b10) := hid (Nat.ne_of_lt (Nat.lt_of_lt_of_le V1.out.lt hx)); have N8 : Hid (¬ b8 = b10) := hid (Nat.ne_of_lt (Nat.lt_of_lt_of_le Z1.out.lt hx)); have NF : Hid (¬ b10 = b9) := hid (fun e => N9.out e.symm); clear v' l' hx kill V1 Z1 L1) | (have kill := V0.out; refine rv_whole V0.out L0.out hb9 ({ Ms.of 7 with term := T } : Ms) rfl _ _ rfl rfl rfl ?_; intro w' v' l' kk; have V1 := hid v'; have L1 := hid l'; have Z1 := hid (Z0.out.kept (kk _ Z0.out.lt NE.out)); clear v' l' kk kill V0 Z0 L0) | (refine al27 rfl rfl ?_; have kill := ZA.out; intro b9 w' hx v' l'; have V0 := hid v'; have Z0 := hid (ZA.out.below l'); have L0 := hid (sq LA.out l'); have hb9 : w.heap.size ≤ b9 := Nat.le_trans LA.out.size hx; have NE : Hid (¬ b8 = b9) := hid (Nat.ne_of_lt (Nat.lt_of_lt_of_le ZA.out.lt hx)); clear v' l' hx kill ZA LA) | (refine al27 rfl rfl ?_; intro b8 w' hb8 v' l'; have ZA := hid v'; have LA := hid l'; clear v' l') | (refine bdKT rfl _ _ rfl rfl rfl ?_))
  refine bodyPost_ret (results_c0 Tryd.results8 _ _ rfl V9.out) rfl ⟨?_, L9.out⟩
  rw [HS.out]
end Go.Proofs.YtbipikbefokihaaDoor
