/- For every a, b, s, keep and torn the function DiskClones answers true: what is done to a clone isn't done to the disk, and what was synced stays. -/
import Derived.Test.YtfpgdbmglpejcaaTwo
namespace Go.Proofs.Ytfpgdbmglpejcaa
open Go.ChangeShapes Go.WideShapes Go.ChangeAt Go.RowKit

/-- A disk of which nothing is to be cut. -/
def Free (d : Dk) : Prop := d.left = 0 ∧ d.down = false
theorem Free.step {d : Dk} (h : Free d) : stepD d = d := step_still (by rw [h.1]; decide)
theorem Free.reach {d : Dk} (h : Free d) {n : Nat} (hn : n < d.secs.length) : reachZ d n = 0 := by
  unfold reachZ
  rw [h.2]
  have : ¬ ((n : Int) < 0 ∨ (d.secs.length : Int) ≤ n) := by omega
  simp; omega
theorem Free.writeZ {d : Dk} (h : Free d) {n : Nat} (hn : n < d.secs.length) : writeZ d n = 0 := by
  unfold Go.Proofs.Ytfpgdbmglpejcaa.writeZ; rw [h.reach hn, h.step, h.2]; rfl
theorem Free.writeD {d : Dk} (h : Free d) {n : Nat} (hn : n < d.secs.length) (l : List Int) : writeD d n l = { d with waits := d.waits ++ [(n, padS l)] } := by
  unfold Go.Proofs.Ytfpgdbmglpejcaa.writeD; rw [h.reach hn, h.step]; simp [h.2]
theorem Free.syncD {d : Dk} (h : Free d) : syncD d = { d with secs := layAll d.secs d.waits, waits := [] } := by
  unfold Go.Proofs.Ytfpgdbmglpejcaa.syncD; rw [h.step]; simp [h.2]
theorem readB_none {d : Dk} (h : Free d) (hw : d.waits = []) {n : Nat} {s : List Int} (hs : d.secs[n]? = some s) : readB d n = s := by
  have hn : n < d.secs.length := (List.getElem?_eq_some_iff.1 hs).1
  unfold readB
  rw [h.reach hn]
  simp [readS, hw, lastW, hs]
theorem newD_free (n : Nat) : Free (newD n) := ⟨rfl, rfl⟩
/-- What the clone, and the disk, come to. -/
def cl2 (k : Nat) (a : List Int) : Dk := ⟨(List.replicate 4 zer).set k (padS a), [], 0, false⟩
def cl1 (k : Nat) (a : List Int) : Dk := ⟨List.replicate 4 zer, [(k, padS a)], 0, false⟩
def clc1 (k : Nat) (a b : List Int) : Dk := ⟨(List.replicate 4 zer).set k (padS a), [(k, padS b)], 0, false⟩
def clc2 (k : Nat) (a b : List Int) : Dk := ⟨((List.replicate 4 zer).set k (padS a)).set k (padS b), [], 0, false⟩
def cld3 (k j : Nat) (a b : List Int) : Dk := ⟨(List.replicate 4 zer).set k (padS a), [(j, padS b)], 0, false⟩
theorem cl_facts {k : Nat} (hk : k < 4) (a b : List Int) {j : Nat} (hj : j < 4) : writeZ (newD 4) k = 0 ∧ writeD (newD 4) k a = cl1 k a ∧ errZ (stepD (cl1 k a)).down = 0 ∧ syncD (cl1 k a) = cl2 k a ∧
    writeZ (cl2 k a) k = 0 ∧ writeD (cl2 k a) k b = clc1 k a b ∧ errZ (stepD (clc1 k a b)).down = 0 ∧ syncD (clc1 k a b) = clc2 k a b ∧ writeD (cl2 k a) j b = cld3 k j a b := by
  have f2 : Free (cl2 k a) := ⟨rfl, rfl⟩
  have h2 : k < (cl2 k a).secs.length := by simp [cl2]; exact hk
  have h3 : j < (cl2 k a).secs.length := by simp [cl2]; exact hj
  refine ⟨(newD_free 4).writeZ (by simp [newD]; exact hk), (newD_free 4).writeD (by simp [newD]; exact hk) a, rfl, ?_, f2.writeZ h2, f2.writeD h2 b, rfl, ?_, f2.writeD h3 b⟩
  · rw [Free.syncD ⟨rfl, rfl⟩]; rfl
  · rw [Free.syncD ⟨rfl, rfl⟩]; rfl
theorem cl_reads {k j : Nat} (hk : k < 4) (hjk : j ≠ k) (a b : List Int) (bs : List Bool) (torn : Int) :
    reachZ (reopD (cld3 k j a b) bs torn) k = 0 ∧ readB (reopD (cld3 k j a b) bs torn) k = padS a ∧ reachZ (clc2 k a b) k = 0 ∧ readB (clc2 k a b) k = padS b := by
  have f4 : Free (reopD (cld3 k j a b) bs torn) := ⟨rfl, rfl⟩
  have f2 : Free (clc2 k a b) := ⟨rfl, rfl⟩
  have s2 : (clc2 k a b).secs[k]? = some (padS b) := List.getElem?_set_self (by rw [List.length_set, List.length_replicate]; exact hk)
  have s3 : ((List.replicate 4 zer).set k (padS a))[k]? = some (padS a) := List.getElem?_set_self (by rw [List.length_replicate]; exact hk)
  have s4 : (reopD (cld3 k j a b) bs torn).secs[k]? = some (padS a) := by
    show (crash1 bs _ _ ((List.replicate 4 zer).set k (padS a)) 0 (j, padS b))[k]? = _
    unfold crash1
    split
    · rw [List.getElem?_set_ne hjk]; exact s3
    · split
      · rw [List.getElem?_set_ne hjk]; exact s3
      · exact s3
  have l4 := (List.getElem?_eq_some_iff.1 s4).1
  have l2 := (List.getElem?_eq_some_iff.1 s2).1
  exact ⟨f4.reach l4, readB_none f4 rfl s4, f2.reach l2, readB_none f2 rfl s2⟩

theorem z49 : (Try.prog.info? 49).map (fun i => (i.zero, i.size)) = some (some (.agg (by8 zer).toArray), 64) := by kernel_rfl
theorem al49 {ops : Array Oper} {rest : List Oper} {op : Oper} {a : Act} {w : World} {Q : Exit → Act → World → Prop} (hgd : op.guard = none) (ho : op.op = .alloc 49)
    (h : ∀ w', w.alloc (.cells (by8 zer).toArray 49) = w' → wpList Try.prog ops Q rest (a.put op.dst (.pointer (some ⟨w.heap.size, 0, none⟩))) w') : wpList Try.prog ops Q (op :: rest) a w :=
  wpList_plain hgd fun K hK => by
    have hz := (zero_of_info z49).1 w
    unfold Oper.wp execOp
    simp only [ho, Instr.alloc, Sem.run_bind, hz, Result.andThen_ok, newVar, newRow]
    exact hK _ _ (h _ rfl)
theorem size_setCells (b : Nat) : ∀ (vs : List Value) (o : Nat) (w : World), (w.setCells b o vs).heap.size = w.heap.size
  | [], _, _ => rfl
  | v :: r, o, w => by rw [World.setCells, size_setCells b r]; simp [World.setCell]
theorem Turned.setCellsT {F : Nat → Prop} (w : World) (b o : Nat) {vs : List Value} (hb : F b) : Turned F w (w.setCells b o vs) := by
  induction vs generalizing w o with
  | nil => exact Turned.refl _ _
  | cons v r ih => exact ((Turned.refl F w).setCell ⟨b, o, none⟩ v hb).then (ih _ (o + 1))
theorem pad_at {w : World} {b : Nat} {l : List Int} (hr : w.rangeAt b 0 (by8 zer)) (ht : w.there b 0 64) : (w.setCells b 0 (by8 (l.take 64))).rangeAt b 0 (by8 (padS l)) := by
  intro j v hv
  rw [Nat.zero_add]
  have hz : zer.length = 64 := by decide
  have hlen : (by8 (l.take 64)).length = min 64 l.length := by simp
  have hj : j < 64 := by
    have := (List.getElem?_eq_some_iff.1 hv).1
    simp only [by8, padS, lay, List.length_map, List.length_append, List.length_take, List.length_drop, hz] at this; omega
  by_cases hq : j < min 64 l.length
  · have := World.cell?_setCells_in b (by8 (l.take 64)) 0 w (fun i hi => (ht i (by omega)).1) j (by omega)
    rw [Nat.zero_add] at this
    rw [this, ← hv, ← List.getElem?_eq_getElem]
    simp only [by8, padS, lay, List.map_append, List.getElem?_map]
    rw [List.getElem?_append_left (by simp; omega)]
    simp [hq]
  · rw [World.cell?_setCells_out b _ 0 w ⟨b, j, none⟩ (fun _ _ => .inr (by show 0 + _ ≤ j; omega))]
    have := hr j v (by
      rw [← hv]
      simp only [by8, padS, lay, List.map_append]
      rw [List.getElem?_append_right (by simp; omega)]
      simp only [List.length_map, List.length_take, List.getElem?_map, List.getElem?_drop]
      congr 2; omega)
    rw [Nat.zero_add] at this; exact this
theorem two_pads {w w1 w2 w3 w4 : World} {a b : List Int} (e1 : w.alloc (.cells (by8 zer).toArray 49) = w1) (e2 : w1.alloc (.cells (by8 zer).toArray 49) = w2)
    (e3 : w2.setCells w.heap.size 0 (by8 (a.take 64)) = w3) (e4 : w3.setCells w1.heap.size 0 (by8 (b.take 64)) = w4) :
    w4.rangeAt w.heap.size 0 (by8 (padS a)) ∧ w4.rangeAt w1.heap.size 0 (by8 (padS b)) ∧ Below w.heap.size w w4 ∧ w.heap.size < w4.heap.size ∧ w1.heap.size < w4.heap.size := by
  have hsz1 : w1.heap.size = w.heap.size + 1 := by rw [← e1]; simp
  have b1 : Below w.heap.size w w1 := by rw [← e1]; exact bel1 _ _
  have b2 : Below w.heap.size w w2 := by rw [← e2]; exact b1.alloc (by omega) _
  have r1 : w1.rangeAt w.heap.size 0 (by8 zer) := by rw [← e1]; exact new_range _ _ _
  have t1 : w1.there w.heap.size 0 64 := by rw [← e1]; exact new_there _ _ _ (by simp [zer])
  have r2 : w2.rangeAt w.heap.size 0 (by8 zer) := by rw [← e2]; exact World.rangeAt_alloc r1 _
  have t2 : w2.there w.heap.size 0 64 := by rw [← e2]; exact World.there_alloc t1 _
  have r2' : w2.rangeAt w1.heap.size 0 (by8 zer) := by rw [← e2]; exact new_range _ _ _
  have t2' : w2.there w1.heap.size 0 64 := by rw [← e2]; exact new_there _ _ _ (by simp [zer])
  have ne : w.heap.size ≠ w1.heap.size := by omega
  have r3 : w3.rangeAt w.heap.size 0 (by8 (padS a)) := by rw [← e3]; exact pad_at r2 t2
  have r3' : w3.rangeAt w1.heap.size 0 (by8 zer) := by rw [← e3]; exact range_kept r2' (block_setCells _ _ _ _ _ (Ne.symm ne))
  have t3' : w3.there w1.heap.size 0 64 := by rw [← e3]; exact World.there_setCells t2' _ _ _
  have b3 : Below w.heap.size w w3 := by rw [← e3]; exact setCells_below b2 0
  have b4 : Below w.heap.size w w4 := by
    rw [← e4]
    exact b3.trans ((Turned.setCellsT (F := fun k => k = w1.heap.size) _ _ _ rfl).below (fun k e => by rw [e]; omega) b3.size)
  have r4 : w4.rangeAt w.heap.size 0 (by8 (padS a)) := by rw [← e4]; exact range_kept r3 (block_setCells _ _ _ _ _ ne)
  have r4' : w4.rangeAt w1.heap.size 0 (by8 (padS b)) := by rw [← e4]; exact pad_at r3' t3'
  have hs3 : w3.heap.size = w2.heap.size := by rw [← e3]; exact size_setCells _ _ _ _
  have hs4 : w4.heap.size = w3.heap.size := by rw [← e4]; exact size_setCells _ _ _ _
  have hs2 : w2.heap.size = w1.heap.size + 1 := by rw [← e2]; simp
  exact ⟨r4, r4', b4, by omega, by omega⟩
theorem row_in {w w10 w' : World} {ao : Option Addr} {len : Nat} {l : List Int} (h : InB w ao len l) (hb : Below w.heap.size w w10) (hb' : Below w10.heap.size w10 w') : RowOf (Value.int .u8) w' ao l := h.2.2.1.keep h.2.2.2 (sq hb hb')
theorem set_bel0 {w w1 w2 : World} (e1 : w.alloc (.cells (by8 zer).toArray 49) = w1) (e2 : w1.alloc (.cells (by8 zer).toArray 49) = w2) : Below w.heap.size w w2 := by
  subst e1 e2; exact (bel1 _ _).alloc (by simp) _
theorem one_there {w w1 w2 : World} (e1 : w.alloc (.cells (by8 zer).toArray 49) = w1) (e2 : w1.alloc (.cells (by8 zer).toArray 49) = w2) : w2.there w.heap.size 0 64 := by
  subst e1 e2; exact World.there_alloc (new_there _ _ _ (by simp [zer])) _
theorem set_bel {w w1 w2 w3 : World} {vs : List Value} (e1 : w.alloc (.cells (by8 zer).toArray 49) = w1) (e2 : w1.alloc (.cells (by8 zer).toArray 49) = w2) (e3 : w2.setCells w.heap.size 0 vs = w3) : Below w.heap.size w w3 := by
  rw [← e3]; exact setCells_below (set_bel0 e1 e2) 0
theorem two_there {w w1 w2 w3 : World} {vs : List Value} (_e1 : w.alloc (.cells (by8 zer).toArray 49) = w1) (e2 : w1.alloc (.cells (by8 zer).toArray 49) = w2) (e3 : w2.setCells w.heap.size 0 vs = w3) : w3.there w1.heap.size 0 64 := by
  rw [← e3, ← e2]; exact World.there_setCells (new_there _ _ _ (by simp [zer])) _ _ _
theorem run_cv (ρ : Operand → Value) (o : Oper) (x : Operand) (ao : Option Addr) (zs : List Int) (len cap : Nat) (ho : o.op = .convert 28 9 x) (hx : ρ x = .slice ao len cap) (w : World) (hl : zs.length = len) (hr : RowOf (Value.int .u8) w ao zs) :
    (execOp ρ o).run Try.prog w = .ok (.value (.string (strOfNums zs))) w := by
  unfold execOp
  simp only [ho, hx, Sem.run_bind, run_str w ao zs len cap hl hr, Result.andThen_ok, Sem.run_pure]

set_option maxHeartbeats 4000000 in
theorem clones_walk (a0 : Option Addr) (len0 cap0 : Nat) (a : List Int) (a1 : Option Addr) (len1 cap1 : Nat) (b : List Int) (s : Nat) (a3 : Option Addr) (len3 cap3 : Nat) (bs : List Bool) (torn : Int) (w : World)
    (h0 : InB w a0 len0 a) (h1 : InB w a1 len1 b) (hs : s ≤ 255) (h3 : InF w a3 len3 bs) (g0 : len0 ≤ 100) (g1 : len1 ≤ 100) (g3 : len3 ≤ 20) :
    Calls Try.prog 4 #[.slice a0 len0 cap0, .slice a1 len1 cap1, .int .u8 (s : Int), .slice a3 len3 cap3, .int .i64 torn] w fun e w' => e = .returned (.bool true) ∧ Below w.heap.size w w' := by
  obtain ⟨k, hk⟩ : ∃ k : Nat, s % 4 = k := ⟨_, rfl⟩
  obtain ⟨j, hj⟩ : ∃ j : Nat, (k + 1) % 4 = j := ⟨_, rfl⟩
  have hk4 : k < 4 := by omega
  have hj4 : j < 4 := by omega
  have hjk : j ≠ k := by omega
  have es : ((s : Int) % 4) = (k : Int) := by omega
  have ej : (((k : Int) + 1) % 4) = (j : Int) := by omega
  obtain ⟨x1, x2, x3, x4, x5, x6, x7, x8, x9⟩ := cl_facts hk4 a b hj4
  obtain ⟨y1, y2, y3, y4⟩ := cl_reads hk4 hjk a b bs torn
  have n1 : (newD 4).waits.length ≤ 1000000 := by decide
  have n2 : (cl2 k a).waits.length ≤ 1000000 := by show 0 ≤ 1000000; omega
  have H0 := hid h0
  have H1 := hid h1
  have H3 := hid h3
  have X2 := hid x2
  have X4 := hid x4
  have X6 := hid x6
  have X8 := hid x8
  have X9 := hid x9
  have N1 := hid n1
  have N2 := hid n2
  have Y2 := hid y2
  have Y4 := hid y4
  have d0 : decide ((100 : Int) < (len0 : Int)) = false := by simp; omega
  have d1 : decide ((100 : Int) < (len1 : Int)) = false := by simp; omega
  have d3 : decide ((20 : Int) < (len3 : Int)) = false := by simp; omega
  obtain ⟨d4, hd4⟩ : ∃ d4, reopD (cld3 k j a b) bs torn = d4 := ⟨_, rfl⟩
  rw [hd4] at y1 Y2
  have HD4 := hid hd4
  have HSA := hid (padS_sec h0.2.1)
  have HSB := hid (padS_sec h1.2.1)
  clear h0 h1 h3 hk hj x2 x4 x6 x8 x9 n1 n2 y2 y4 hd4
  go_enter Try.func4, Try.ntmps4
  go_wp2_with (first | (go_at_call 12; refine (own2_read (k : Int) D15.swap).mono ?_; rintro e w16 ⟨v16, rfl, y16, b16, D16⟩) | (go_at_call 12; refine (own2_read (k : Int) D14).mono ?_; rintro e w15 ⟨v15, rfl, y15, b15, D15⟩) | (refine cp_list rfl _ _ rfl w11.heap.size 0 64 64 a1 len1 cap1 b rfl rfl H1.out.1 (row_in H1.out D10.bel (set_bel e11 e12 e13)) (two_there e11 e12 e13) ?_; intro u14 w14 e14; obtain ⟨r14, r14', b14, l14, l14'⟩ := two_pads e11 e12 e13 e14; clear e11 e12 e13 e14; have D14 := D10.more b14; have R14 := hid r14; have R14' := hid r14'; clear r14 r14') | (refine cp_list rfl _ _ rfl w10.heap.size 0 64 64 a0 len0 cap0 a rfl rfl H0.out.1 (row_in H0.out D10.bel (set_bel0 e11 e12)) (one_there e11 e12) ?_; intro u13 w13 e13) | (have := e11; refine al49 rfl rfl ?_; intro w12 e12) | (refine al49 rfl rfl ?_; intro w11 e11) | (go_at_call 16; refine (own2_reopen a3 cap3 len3 bs torn D9 H3.out).mono ?_; rintro e w10 ⟨rfl, D10⟩; rw [HD4.out] at D10) | (go_at_call 18; refine (own2_write (j : Int) a1 cap1 len1 b D8.swap H1.out N2.out).mono ?_; rintro e w9 ⟨rfl, D9⟩; rw [X9.out] at D9) | (go_at_call 10; refine (own2_sync D7).mono ?_; rintro e w8 ⟨rfl, D8⟩; rw [X8.out] at D8) | (go_at_call 18; refine (own2_write (k : Int) a1 cap1 len1 b D6.swap H1.out N2.out).mono ?_; rintro e w7 ⟨rfl, D7⟩; rw [X6.out] at D7) | (go_at_call 22; refine (own_clone D5 N2.out).mono ?_; rintro e w6 ⟨q, rfl, D6, b6⟩) | (go_at_call 10; refine (own_sync D4).mono ?_; rintro e w5 ⟨rfl, D5⟩; rw [X4.out] at D5) | (go_at_call 18; refine (own_write (k : Int) a0 cap0 len0 a D3 H0.out.1 H0.out.2.1 H0.out.2.2.1 H0.out.2.2.2 N1.out).mono ?_; rintro e w4 ⟨rfl, D4⟩; rw [X2.out] at D4) | (go_at_call 8; refine (own_new 4 b2).mono ?_; rintro e w3 ⟨p, rfl, D3⟩; change Own1 tc w w3 p (newD 4) at D3) | (go_at_call 7; refine (known_any _).mono ?_; rintro e w2 ⟨rfl, b2⟩))
  rw [Y2.out] at y15
  rw [Y4.out] at y16
  obtain ⟨g15, c15, rfl, R15, l15⟩ := y15.form64 HSA.out.1
  obtain ⟨g16, c16, rfl, R16, l16⟩ := y16.form64 HSB.out.1
  have Q15 := hid (range_below R15 l15 b16)
  have Q16 := hid R16
  have Q10 := hid (range_below R14.out l14 (sq b15 b16))
  have Q11 := hid (range_below R14'.out l14' (sq b15 b16))
  clear R15 R16 R14 R14' y15 y16 this
  refine wp_region_noPanic ?_
  refine wp_region_held_drew (S := (fun w' => w'.rangeAt g15 0 (by8 (padS a)) ∧ w'.rangeAt w10.heap.size 0 (by8 (padS a)) ∧ w'.rangeAt g16 0 (by8 (padS b)) ∧ w'.rangeAt w11.heap.size 0 (by8 (padS b)))) (by kernel_rfl) ⟨Q15.out, Q10.out, Q16.out, Q11.out⟩ (fun hHeld => ?_)
  (refine tk_yes (v := ?_) 0 (some 89) rfl rfl (by kernel_rfl) (by kernel_rfl) (by kernel_rfl) (fun _ _ _ h => h) (by rfl) ?_ hHeld ?_; rotate_left; focus (intro w hSw; go_simp; try with_reducible rfl))
  simp only [Act.put, List.setIfInBounds_toArray, List.set_cons_zero, List.set_cons_succ]
  (refine tk_yes (v := ?_) 1 (some 90) rfl rfl (by kernel_rfl) (by kernel_rfl) (by kernel_rfl) (fun _ _ _ h => h) (by rfl) ?_ hHeld ?_; rotate_left; focus (intro w hSw; go_simp; try with_reducible rfl))
  simp only [Act.put, List.setIfInBounds_toArray, List.set_cons_zero, List.set_cons_succ]
  (refine tk_yes (v := ?_) 2 (some 91) rfl rfl (by kernel_rfl) (by kernel_rfl) (by kernel_rfl) (fun _ _ _ h => h) (by rfl) ?_ hHeld ?_; rotate_left; focus (intro w hSw; go_simp; try with_reducible rfl))
  simp only [Act.put, List.setIfInBounds_toArray, List.set_cons_zero, List.set_cons_succ]
  (refine tk_yes (v := ?_) 3 (some 92) rfl rfl (by kernel_rfl) (by kernel_rfl) (by kernel_rfl) (fun _ _ _ h => h) (by rfl) ?_ hHeld ?_; rotate_left; focus (intro w hSw; go_simp; try with_reducible rfl))
  simp only [Act.put, List.setIfInBounds_toArray, List.set_cons_zero, List.set_cons_succ]
  (refine tk_yes (v := ?_) 4 (some 93) rfl rfl (by kernel_rfl) (by kernel_rfl) (by kernel_rfl) (fun _ _ _ h => h) (by rfl) ?_ hHeld ?_; rotate_left; focus (intro w hSw; go_simp; try with_reducible rfl))
  simp only [Act.put, List.setIfInBounds_toArray, List.set_cons_zero, List.set_cons_succ]
  (refine tk_yes (v := ?_) 5 (some 94) rfl rfl (by kernel_rfl) (by kernel_rfl) (by kernel_rfl) (fun _ _ _ h => h) (by rfl) ?_ hHeld ?_; rotate_left; focus (intro w hSw; go_simp; try with_reducible rfl))
  simp only [Act.put, List.setIfInBounds_toArray, List.set_cons_zero, List.set_cons_succ]
  (refine tk_yes (v := .string (strOfNums (padS a))) 6 (some 95) rfl rfl (by kernel_rfl) (by kernel_rfl) (by kernel_rfl) (fun _ _ _ h => h) (by rfl) ?_ hHeld ?_; focus (intro w hSw; exact run_cv _ _ _ (some ⟨g15, 0, none⟩) (padS a) 64 c15 rfl rfl w HSA.out.1 (row_all hSw.1)))
  simp only [Act.put, List.setIfInBounds_toArray, List.set_cons_zero, List.set_cons_succ]
  (refine tk_yes (v := ?_) 7 (some 96) rfl rfl (by kernel_rfl) (by kernel_rfl) (by kernel_rfl) (fun _ _ _ h => h) (by rfl) ?_ hHeld ?_; rotate_left; focus (intro w hSw; go_simp; try with_reducible rfl))
  simp only [Act.put, List.setIfInBounds_toArray, List.set_cons_zero, List.set_cons_succ]
  (refine tk_yes (v := .string (strOfNums (padS a))) 8 (some 97) rfl rfl (by kernel_rfl) (by kernel_rfl) (by kernel_rfl) (fun _ _ _ h => h) (by rfl) ?_ hHeld ?_; focus (intro w hSw; exact run_cv _ _ _ (some ⟨w10.heap.size, 0, none⟩) (padS a) 64 64 rfl rfl w HSA.out.1 (row_all hSw.2.1)))
  simp only [Act.put, List.setIfInBounds_toArray, List.set_cons_zero, List.set_cons_succ]
  (refine tk_yes (v := ?_) 9 (some 98) rfl rfl (by kernel_rfl) (by kernel_rfl) (by kernel_rfl) (fun _ _ _ h => h) (by rfl) ?_ hHeld ?_; rotate_left; focus (intro w hSw; go_simp; try with_reducible rfl))
  simp only [Act.put, List.setIfInBounds_toArray, List.set_cons_zero, List.set_cons_succ]
  (refine tk_yes (v := ?_) 10 (some 99) rfl rfl (by kernel_rfl) (by kernel_rfl) (by kernel_rfl) (fun _ _ _ h => h) (by rfl) ?_ hHeld ?_; rotate_left; focus (intro w hSw; go_simp; try with_reducible rfl))
  simp only [Act.put, List.setIfInBounds_toArray, List.set_cons_zero, List.set_cons_succ]
  (refine tk_yes (v := ?_) 11 (some 100) rfl rfl (by kernel_rfl) (by kernel_rfl) (by kernel_rfl) (fun _ _ _ h => h) (by rfl) ?_ hHeld ?_; rotate_left; focus (intro w hSw; go_simp; try with_reducible rfl))
  simp only [Act.put, List.setIfInBounds_toArray, List.set_cons_zero, List.set_cons_succ]
  (refine tk_yes (v := ?_) 12 (some 101) rfl rfl (by kernel_rfl) (by kernel_rfl) (by kernel_rfl) (fun _ _ _ h => h) (by rfl) ?_ hHeld ?_; rotate_left; focus (intro w hSw; go_simp; try with_reducible rfl))
  simp only [Act.put, List.setIfInBounds_toArray, List.set_cons_zero, List.set_cons_succ]
  (refine tk_yes (v := .string (strOfNums (padS b))) 13 (some 102) rfl rfl (by kernel_rfl) (by kernel_rfl) (by kernel_rfl) (fun _ _ _ h => h) (by rfl) ?_ hHeld ?_; focus (intro w hSw; exact run_cv _ _ _ (some ⟨g16, 0, none⟩) (padS b) 64 c16 rfl rfl w HSB.out.1 (row_all hSw.2.2.1)))
  simp only [Act.put, List.setIfInBounds_toArray, List.set_cons_zero, List.set_cons_succ]
  (refine tk_yes (v := ?_) 14 (some 103) rfl rfl (by kernel_rfl) (by kernel_rfl) (by kernel_rfl) (fun _ _ _ h => h) (by rfl) ?_ hHeld ?_; rotate_left; focus (intro w hSw; go_simp; try with_reducible rfl))
  simp only [Act.put, List.setIfInBounds_toArray, List.set_cons_zero, List.set_cons_succ]
  (refine tk_yes (v := .string (strOfNums (padS b))) 15 (some 104) rfl rfl (by kernel_rfl) (by kernel_rfl) (by kernel_rfl) (fun _ _ _ h => h) (by rfl) ?_ hHeld ?_; focus (intro w hSw; exact run_cv _ _ _ (some ⟨w11.heap.size, 0, none⟩) (padS b) 64 64 rfl rfl w HSB.out.1 (row_all hSw.2.2.2)))
  simp only [Act.put, List.setIfInBounds_toArray, List.set_cons_zero, List.set_cons_succ]
  (refine tk_yes (v := ?_) 16 (some 105) rfl rfl (by kernel_rfl) (by kernel_rfl) (by kernel_rfl) (fun _ _ _ h => h) (by rfl) ?_ hHeld ?_; rotate_left; focus (intro w hSw; go_simp; try with_reducible rfl))
  simp only [Act.put, List.setIfInBounds_toArray, List.set_cons_zero, List.set_cons_succ]
  (refine tk_yes (v := ?_) 17 (some 106) rfl rfl (by kernel_rfl) (by kernel_rfl) (by kernel_rfl) (fun _ _ _ h => h) (by rfl) ?_ hHeld ?_; rotate_left; focus (intro w hSw; go_simp; try with_reducible rfl))
  simp only [Act.put, List.setIfInBounds_toArray, List.set_cons_zero, List.set_cons_succ]
  (refine tk_yes (v := ?_) 18 (some 10) rfl rfl (by kernel_rfl) (by kernel_rfl) (by kernel_rfl) (fun _ _ _ h => h) (by rfl) ?_ hHeld ?_; rotate_left; focus (intro w hSw; go_simp; try with_reducible rfl))
  simp only [Act.put, List.setIfInBounds_toArray, List.set_cons_zero, List.set_cons_succ]
  refine wpAnyH_done (by kernel_rfl) ?_ _
  refine NoPanic.normal ?_
  go_wp2
  go_ret
  exact ⟨rfl, D16.bel.drew⟩
theorem clones_long (a0 : Option Addr) (len0 cap0 : Nat) (a1 : Option Addr) (len1 cap1 : Nat) (s : Int) (a3 : Option Addr) (len3 cap3 : Nat) (torn : Int) (w : World) (h : 100 < len0 ∨ 100 < len1 ∨ 20 < len3) :
    Calls Try.prog 4 #[.slice a0 len0 cap0, .slice a1 len1 cap1, .int .u8 s, .slice a3 len3 cap3, .int .i64 torn] w fun e w' => e = .returned (.bool true) ∧ Below w.heap.size w w' := by
  go_enter Try.func4, Try.ntmps4
  by_cases h0 : 100 < len0
  · clear h
    go_wp2_with (go_at_call 7; refine (known_any _).mono ?_; rintro e w2 ⟨rfl, b2⟩)
    go_ret
    exact ⟨rfl, b2⟩
  · by_cases h1 : 100 < len1
    · clear h
      go_wp2_with (go_at_call 7; refine (known_any _).mono ?_; rintro e w2 ⟨rfl, b2⟩)
      go_ret
      exact ⟨rfl, b2⟩
    · have h3 : 20 < len3 := by omega
      clear h
      go_wp2_with (go_at_call 7; refine (known_any _).mono ?_; rintro e w2 ⟨rfl, b2⟩)
      go_ret
      exact ⟨rfl, b2⟩
theorem clones_all (a0 : Option Addr) (len0 cap0 : Nat) (a : List Int) (a1 : Option Addr) (len1 cap1 : Nat) (b : List Int) (s : Int) (a3 : Option Addr) (len3 cap3 : Nat) (bs : List Bool) (torn : Int) (w : World)
    (h0 : InB w a0 len0 a) (h1 : InB w a1 len1 b) (h2 : (Lit.int .u8 s).wf = true) (h3 : InF w a3 len3 bs) (_h4 : (Lit.int .i64 torn).wf = true) :
    Calls Try.prog 4 #[.slice a0 len0 cap0, .slice a1 len1 cap1, .int .u8 s, .slice a3 len3 cap3, .int .i64 torn] w fun e w' => e = .returned (.bool true) ∧ Below w.heap.size w w' := by
  by_cases h : 100 < len0 ∨ 100 < len1 ∨ 20 < len3
  · exact clones_long a0 len0 cap0 a1 len1 cap1 s a3 len3 cap3 torn w h
  · have c := bounds_u8 h2
    obtain ⟨s, rfl⟩ := Int.eq_ofNat_of_zero_le c.1
    exact clones_walk a0 len0 cap0 a a1 len1 cap1 b s a3 len3 cap3 bs torn w h0 h1 (by omega) h3 (by omega) (by omega) (by omega)
theorem diskClones_own : ownKnob Try.prog.godebug = none := by kernel_rfl
theorem diskClones_laid : laidOutB Try.prog = true := by kernel_rfl

set_option maxRecDepth 100000 in
theorem diskClones_lifted (os : Os) (started : os.Started) (H : Type) (enc : TypeId × Value → H) :
    ReturnsInHanded {} Try.checked os 4 .any (Rows.diskClonesSpec.pre6 enc Try.prog Try.f4 Rows.diskClonesRow.domain false) (Rows.diskClonesSpec.post enc Try.prog Try.f4 false true false false) := by
  refine returnsInHanded_of_change (C := Try.checked) diskClones_own started (by kernel_rfl) Try.func4
    (ChangeSpec.witness6 (enc := enc) (C := Try.checked) false ⟨#[], #[.slice none 0 0, .slice none 0 0, .int .u8 0, .slice none 0 0, .int .i64 0], []⟩ 8 (by kernel_rfl) (by kernel_rfl) (by kernel_rfl) (by kernel_rfl)) ?_
  intro W base args ds gs before hval0 hW hcnd _
  have hval : ∀ (j : Nat) t v, Try.f4.params[j]? = some t → args[j]? = some v → Value.okWide Try.prog W .any base t v := hval0
  have hW' := hW
  obtain ⟨p, q, hA0, hV, rfl, hfz, hnd⟩ := hW
  have hA : DataW.TrodAll enc Try.prog W 0 (fun _ => true) true Try.f4.params.toList args.toList ds p := hA0
  rw [Try.params4] at hA hval
  obtain ⟨v0, vs0, d0, ds0, p0, q0, hargs, rfl, rfl, h0, r0⟩ := trodAll_cons hA
  obtain ⟨v1, vs1, d1, ds1, p1, q1, rfl, rfl, rfl, h1, r1⟩ := trodAll_cons r0
  obtain ⟨v2, vs2, d2, ds2, p2, q2, rfl, rfl, rfl, h2, r2⟩ := trodAll_cons r1
  obtain ⟨v3, vs3, d3, ds3, p3, q3, rfl, rfl, rfl, h3, r3⟩ := trodAll_cons r2
  obtain ⟨v4, vs4, d4, ds4, p4, q4, rfl, rfl, rfl, h4, r4⟩ := trodAll_cons r3
  obtain ⟨rfl, rfl, rfl⟩ := trodAll_nil r4
  obtain rfl : args = #[v0, v1, v2, v3, v4] := by cases args; simp_all
  obtain ⟨rfl, rfl⟩ := trodVars_none hV
  obtain ⟨x0, y0, z0, rfl⟩ := okWide_slice Try.underlying28 (hval 0 28 v0 rfl rfl)
  have k0 := h0
  have lt0 : ∀ x ∈ p0, x.block < W.heap.size := by obtain ⟨m, hm⟩ := k0; exact DataW.trod_lt m _ _ _ hm
  obtain ⟨a0, len0, cap0, l0, e0, w0⟩ : ∃ a len cap l, Value.slice x0 y0 z0 = .slice a len cap ∧ InB W a len l := by
    obtain ⟨fuel, hf⟩ := h0
    exact open_inB hf
  cases e0
  obtain ⟨x1, y1, z1, rfl⟩ := okWide_slice Try.underlying28 (hval 1 28 v1 rfl rfl)
  have k1 := h1
  have lt1 : ∀ x ∈ p1, x.block < W.heap.size := by obtain ⟨m, hm⟩ := k1; exact DataW.trod_lt m _ _ _ hm
  obtain ⟨a1, len1, cap1, l1, e1, w1⟩ : ∃ a len cap l, Value.slice x1 y1 z1 = .slice a len cap ∧ InB W a len l := by
    obtain ⟨fuel, hf⟩ := h1
    exact open_inB hf
  cases e1
  obtain ⟨a2, rfl, rfl, rfl, w2⟩ := open_int Try.underlying5 (hval 2 5 v2 rfl rfl) h2
  obtain ⟨x3, y3, z3, rfl⟩ := okWide_slice Try.underlying29 (hval 3 29 v3 rfl rfl)
  have k3 := h3
  have lt3 : ∀ x ∈ p3, x.block < W.heap.size := by obtain ⟨m, hm⟩ := k3; exact DataW.trod_lt m _ _ _ hm
  obtain ⟨a3, len3, cap3, l3, e3, w3⟩ : ∃ a len cap l, Value.slice x3 y3 z3 = .slice a len cap ∧ InF W a len l := by
    obtain ⟨fuel, hf⟩ := h3
    exact open_inF hf
  cases e3
  obtain ⟨a4, rfl, rfl, rfl, w4⟩ := open_int Try.underlying3 (hval 4 3 v4 rfl rfl) h4
  clear hA0 hval0
  refine (clones_all x0 y0 z0 l0 x1 y1 z1 l1 a2 x3 y3 z3 l3 a4 W w0 w1 w2 w3 w4).mono fun e W' ⟨he, bel⟩ => ?_
  subst he
  exact ⟨_, rfl, _, _, _, [], _, [], hW', trodAll_mk1 (shut_bool Try.underlying4 _), (trodAll_cons_mk (Below.trod diskClones_laid (by kernel_rfl) (of_decide_eq_true (by kernel_rfl)) k0 bel lt0) (trodAll_cons_mk (Below.trod diskClones_laid (by kernel_rfl) (of_decide_eq_true (by kernel_rfl)) k1 bel lt1) (trodAll_cons_mk (shut_int Try.underlying5 w2) (trodAll_cons_mk (Below.trod diskClones_laid (by kernel_rfl) (of_decide_eq_true (by kernel_rfl)) k3 bel lt3) (trodAll_cons_mk (shut_int Try.underlying3 w4) trodAll_mk0))))), rfl, bel.frame _, fun h => by cases h⟩

theorem diskClones_over : Rows.diskClonesRow.holds Try.pinned (OpenSpec.ofChange Rows.diskClonesSpec) :=
  OpenClaim.holds_of_wide 4 Try.f4 rfl rfl rfl rfl rfl rfl rfl ⟨rfl, rfl, rfl, rfl, rfl⟩ rfl rfl rfl rfl rfl (by kernel_rfl) Try.func4 (by kernel_rfl)
    (of_decide_eq_true (by kernel_rfl)) (by unfold Func.isWrapper; first | (rw [if_pos (by decide +kernel)]; kernel_rfl) | (rw [if_neg (by decide +kernel)]; exact ⟨rfl, rfl⟩))
    (fun os started H enc _ => diskClones_lifted os started H enc)

/-- The statement. -/
theorem diskClones_holds : Rows.DiskClonesSaid := diskClones_over
#print axioms diskClones_holds
end Go.Proofs.Ytfpgdbmglpejcaa
