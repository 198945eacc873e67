/- The journal's small functions. -/
import Derived.Test.YthhgnflkplpklabJMem
namespace Go.Proofs.Ythhgnflkplpklab
set_option maxRecDepth 20000
open Go.ChangeShapes Go.WideShapes Go.ChangeAt Go.RowKit
open Dsc (Dk Dat Feet tc Dsk hid sq bel1 cell_of_head froz_of_head)
open Frm (Rc)

theorem Hd.now0 {h : Hd} (e : h.c = 0) : mkV h.a h.b = .agg #[.int .i64 (h.a0 : Int), .int .i64 (h.b0 : Int)] := by unfold mkV Hd.a Hd.b; rw [if_pos e, if_pos e]
theorem Hd.now1 {h : Hd} (e : h.c = 1) : mkV h.a h.b = .agg #[.int .i64 (h.a1 : Int), .int .i64 (h.b1 : Int)] := by unfold mkV Hd.a Hd.b; rw [if_neg (by omega), if_neg (by omega)]
theorem wr64 {n : Int} (h : -9223372036854775808 ≤ n ∧ n ≤ 9223372036854775807) : IntKind.i64.wrap n = n := by rw [IntKind.wrap_i64]; omega
theorem n67 : (Try.prog.info? 55).map (·.size) = some 2 := by kernel_rfl
theorem n70 : (Try.prog.info? 58).map (·.size) = some 5 := by kernel_rfl
theorem row67 : ∃ d, Try.prog.underlying 55 = some d ∧ d.isRow = true := ⟨_, Try.underlying55, rfl⟩
theorem row70 : ∃ d, Try.prog.underlying 58 = some d ∧ d.isRow = true := ⟨_, Try.underlying58, rfl⟩
theorem range_drew {w : World} {b o : Nat} {cs : List Value} (h : w.rangeAt b o cs) : w.drew.rangeAt b o cs := fun j v hv => h j v hv
theorem ret67 {fn : Func} {t : Tmp} {b : Nat} {x y : Value} (h : fn.results = #[.cell t 55]) (tmps : Array Value) (w : World) (ht : tmps.getD t undef = .pointer (some ⟨b, 0, none⟩)) (hr : w.rangeAt b 0 [x, y]) :
    (results fn tmps).run Try.prog w = .ok (.agg #[x, y]) w := by
  obtain ⟨d, hu, hd⟩ := row67
  exact Dsc.results_cell h tmps _ w ht (run_loadVar_mid (P := Try.prog) w b 0 55 [x, y] d hr hu hd n67)
theorem fld0 (x y : Int) (w : World) : (Instr.field 55 (.agg #[.int .i64 x, .int .i64 y]) 0).run Try.prog w = .ok (.int .i64 x) w := by kernel_rfl
theorem fld1 (x y : Int) (w : World) : (Instr.field 55 (.agg #[.int .i64 x, .int .i64 y]) 1).run Try.prog w = .ok (.int .i64 y) w := by kernel_rfl
section
variable {ops : Array Oper} {rest : List Oper} {op : Oper} {a : Act} {w : World} {Q : Exit → Act → World → Prop}
theorem fd0 {x y : Nat} (hgd : op.guard = none) (o : Operand) (ho : op.op = .field 55 o 0) (hx : a.eval o = mkV x y) (h : wpList Try.prog ops Q rest (a.put op.dst (.int .i64 (x : Int))) w) : wpList Try.prog ops Q (op :: rest) a w :=
  wpList_plain hgd fun K hK => by
    unfold Oper.wp execOp
    simp only [ho, hx, mkV, Sem.run_bind, fld0, Result.andThen_ok]
    exact hK _ _ h
theorem fd1 {x y : Nat} (hgd : op.guard = none) (o : Operand) (ho : op.op = .field 55 o 1) (hx : a.eval o = mkV x y) (h : wpList Try.prog ops Q rest (a.put op.dst (.int .i64 (y : Int))) w) : wpList Try.prog ops Q (op :: rest) a w :=
  wpList_plain hgd fun K hK => by
    unfold Oper.wp execOp
    simp only [ho, hx, mkV, Sem.run_bind, fld1, Result.andThen_ok]
    exact hK _ _ h
end
set_option maxHeartbeats 1000000 in
theorem now_any {w : World} {q p : Nat} {h : Hd} {n : Nat} (k : LogAt w q p h n) (ho : h.Ok) :
    Calls Try.prog 22 #[.pointer (some ⟨q, 0, none⟩)] w fun e w' => e = .returned (mkV h.a h.b) ∧ Below w.heap.size w w' := by
  have c1 := k.c1
  have c2 := k.c2
  have c3 := k.c3
  have c4 := k.c4
  have c5 := k.c5
  have hl := k.lt
  have hc : h.c = 0 ∨ h.c = 1 := by have := ho.c; omega
  clear k
  rcases hc with hc | hc
  · rw [Hd.now0 hc]
    rw [hc] at c1
    simp only [Int.natCast_zero] at c1
    go_enter Try.func22, Try.ntmps22
    go_wp2
    go_region
    go_wp2
    exact bodyPost_ret (ret67 Try.results22 _ _ rfl (range_drew (Dsc.new_range w [.int .i64 (h.a0 : Int), .int .i64 (h.b0 : Int)] 55))) rfl ⟨rfl, (bel1 _ _).drew⟩
  · rw [Hd.now1 hc]
    rw [hc] at c1
    simp only [Int.natCast_one] at c1
    go_enter Try.func22, Try.ntmps22
    go_wp2
    go_region
    go_wp2
    exact bodyPost_ret (ret67 Try.results22 _ _ rfl (range_drew (Dsc.new_range w [.int .i64 (h.a1 : Int), .int .i64 (h.b1 : Int)] 55))) rfl ⟨rfl, (bel1 _ _).drew⟩
section
variable {w0 w : World} {p q : Nat} {d : Dk} {h : Hd} {n : Nat}
theorem sectors_jd (j : JD w0 w p d) : Calls Try.prog 15 #[.pointer (some ⟨p, 0, none⟩)] w fun e w' => e = .returned (.int .i64 (d.secs.length : Int)) ∧ w = w' := by
  obtain ⟨sv, wv, hd, _⟩ := j
  exact Dsc.sectors_any tc p sv wv d w hd
/-- How many sectors an area has. -/
def arS (d : Dk) : Nat := (d.secs.length - 1) / 2
theorem area_any (j : JL w0 w p q d h n) (h8 : 8 ≤ d.secs.length) : Calls Try.prog 35 #[.pointer (some ⟨q, 0, none⟩)] w fun e w' => e = .returned (.int .i64 (arS d : Int)) ∧ w = w' := by
  have c0 := j.log.c0
  have J := hid j.disk
  have hs := j.disk.ok.size
  obtain ⟨N, hN⟩ : ∃ N, d.secs.length = N := ⟨_, rfl⟩
  obtain ⟨A, hA⟩ : ∃ A, arS d = A := ⟨_, rfl⟩
  rw [hN] at hs h8
  have e : ((N : Int) - 1).tdiv 2 = (A : Int) := by
    rw [← hA]; unfold arS; rw [hN, Int.tdiv_eq_ediv_of_nonneg (by omega)]; omega
  have hA2 : A ≤ 2048 := by rw [← hA]; unfold arS; omega
  clear j
  go_enter Try.func35, Try.ntmps35
  go_wp2_with (go_at_call 15; refine (sectors_jd J.out).mono ?_; rintro e w1 ⟨rfl, rfl⟩; rw [hN])
  go_ret
  exact ⟨by rw [hA]; rfl, rfl⟩
theorem room_any (j : JL w0 w p q d h n) (h8 : 8 ≤ d.secs.length) : Calls Try.prog 25 #[.pointer (some ⟨q, 0, none⟩)] w fun e w' => e = .returned (.int .i64 ((arS d * 64 : Nat) : Int)) ∧ w = w' := by
  have J := hid j
  have hs := j.disk.ok.size
  obtain ⟨A, hA⟩ : ∃ A, arS d = A := ⟨_, rfl⟩
  have hA2 : A ≤ 2048 := by rw [← hA]; unfold arS; omega
  clear j
  go_enter Try.func25, Try.ntmps25
  go_wp2_with (go_at_call 35; refine (area_any J.out h8).mono ?_; rintro e w1 ⟨rfl, rfl⟩; rw [hA])
  go_ret
  exact ⟨by rw [hA]; simp, rfl⟩
theorem len_any (j : LogAt w q p h n) : Calls Try.prog 12 #[.pointer (some ⟨q, 0, none⟩)] w fun e w' => e = .returned (.int .i64 (n : Int)) ∧ w = w' := by
  have c6 := j.c6
  go_enter Try.func12, Try.ntmps12
  go_wp2
  go_ret
  exact ⟨rfl, rfl⟩
theorem free_any (j : JL w0 w p q d h n) (ho : h.Ok) (h8 : 8 ≤ d.secs.length) : Calls Try.prog 13 #[.pointer (some ⟨q, 0, none⟩)] w fun e w' => e = .returned (.int .i64 ((arS d * 64 : Nat) - (h.b : Int))) ∧ Below w.heap.size w w' := by
  have J := hid j
  have hs := j.disk.ok.size
  have hb := ho.b
  obtain ⟨A, hA⟩ : ∃ A, arS d * 64 = A := ⟨_, rfl⟩
  obtain ⟨B, hB⟩ : ∃ B, h.b = B := ⟨_, rfl⟩
  have hA2 : A ≤ 131072 := by rw [← hA]; unfold arS; omega
  rw [hB] at hb
  clear j
  go_enter Try.func13, Try.ntmps13
  go_wp2_with (first | refine fd1 rfl _ rfl rfl ?_ | (go_at_call 25; refine (room_any J.out h8).mono ?_; rintro e w1 ⟨rfl, rfl⟩; rw [hA]) | (go_at_call 22; refine (now_any J.out.log ho).mono ?_; rintro e w2 ⟨rfl, k2⟩; rw [hB]))
  go_ret
  exact ⟨by rw [hA, hB]; rfl, k2⟩
set_option maxHeartbeats 1000000 in
theorem sector_any (j : JL w0 w p q d h n) (h8 : 8 ≤ d.secs.length) (a b : Nat) (ha : a ≤ 1) (hb : b < 2147483648) :
    Calls Try.prog 29 #[.pointer (some ⟨q, 0, none⟩), mkV a b] w fun e w' => e = .returned (.int .i64 ((1 + a * arS d + b / 64 : Nat) : Int)) ∧ Below w.heap.size w w' := by
  have J := hid j
  have hs := j.disk.ok.size
  obtain ⟨A, hA⟩ : ∃ A, arS d = A := ⟨_, rfl⟩
  have hA2 : A ≤ 2048 := by rw [← hA]; unfold arS; omega
  have e1 : ((b : Int)).tdiv 64 = ((b / 64 : Nat) : Int) := by rw [Int.tdiv_eq_ediv_of_nonneg (by omega)]; omega
  obtain ⟨B, hB⟩ : ∃ B, b / 64 = B := ⟨_, rfl⟩
  have hB2 : B ≤ 33554432 := by omega
  obtain ⟨M, hM⟩ : ∃ M, a * A = M := ⟨_, rfl⟩
  have hM2 : M ≤ 2048 := by
    have e : a = 0 ∨ a = 1 := by omega
    rcases e with rfl | rfl <;> omega
  have hM3 : (a : Int) * (A : Int) = (M : Int) := by rw [← hM]; simp
  rw [hB] at e1
  have x1 : IntKind.i64.wrap (M : Int) = M := wr64 (by omega)
  have x2 : IntKind.i64.wrap (1 + (M : Int)) = 1 + M := wr64 (by omega)
  have x3 : IntKind.i64.wrap (B : Int) = B := wr64 (by omega)
  have x4 : IntKind.i64.wrap (1 + (M : Int) + B) = 1 + M + B := wr64 (by omega)
  have hE : ((1 + a * arS d + b / 64 : Nat) : Int) = 1 + (M : Int) + (B : Int) := by rw [hA, hM, hB]; omega
  rw [hE]
  have J2 := hid (j.more ((bel1 w (.cells #[.int .i64 (a : Int), .int .i64 (b : Int)] 55)).drew))
  clear j
  unfold mkV
  go_enter Try.func29, Try.ntmps29
  go_wp2
  go_region_held3 (fun w' => w' = (w.alloc (.cells #[.int .i64 (a : Int), .int .i64 (b : Int)] 55)).drew) ((rfl)) ((go_at_call 35; refine (area_any J2.out h8).mono ?_; rintro e w1 ⟨rfl, rfl⟩; rw [hA]))
  go_wp2
  go_ret
  exact ⟨rfl, (bel1 _ _).drew⟩
end
end Go.Proofs.Ythhgnflkplpklab
