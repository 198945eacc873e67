/- The head as bytes, there and back. -/
import Derived.Test.YthhgnflkplpklabJWord
namespace Go.Proofs.Ythhgnflkplpklab
set_option maxRecDepth 20000
open Go.ChangeShapes Go.WideShapes Go.ChangeAt Go.RowKit
open Dsc (Dk hid sq bel1)
open Frm (Rc num bytesL Given Mk Row RowAt num_bd byt_take byt_getD take_snocI num_snoc)
theorem ix0 (x0 x1 x2 x3 : Value) (w : World) : (Instr.index 56 (.agg #[x0, x1, x2, x3]) (.int .i64 0)).run Try.prog w = .ok (.agg #[x0, x1]) w := by kernel_rfl
theorem ix1 (x0 x1 x2 x3 : Value) (w : World) : (Instr.index 56 (.agg #[x0, x1, x2, x3]) (.int .i64 1)).run Try.prog w = .ok (.agg #[x2, x3]) w := by kernel_rfl
/-- The first byte behind nothing, a block laid ahead. -/
theorem app_first {ops : Array Oper} {rest : List Oper} {o : Oper} {a : Act} {w : World} {A : Obj} {Q : Exit → Act → World → Prop} {x : Int}
    (hgd : o.guard = none) (s y : Operand) (ho : o.op = .call { callee := .builtin .append, args := #[s, y], argTypes := #[22, 22] })
    (hs : a.eval s = .slice none 0 0) (hx : a.eval y = .slice (some ⟨w.heap.size + 1, 0, none⟩) 1 1)
    (h : ∀ ao cap w', Mk (w.alloc A) w' (.slice ao 1 cap) 1 [x] → wpList Try.prog ops Q rest (a.put o.dst (.slice ao 1 cap)) w') :
    wpList Try.prog ops Q (o :: rest) a ((w.alloc A).alloc (.cells #[.int .u8 x] 5)) := by
  have e : (w.alloc A).heap.size = w.heap.size + 1 := by simp
  exact app_one (Mk.nil _) (by omega) hgd s y ho hs (by rw [hx, e]) (fun ao cap w' k => h ao cap w' k)
section
variable {ops : Array Oper} {rest : List Oper} {op : Oper} {a : Act} {w : World} {Q : Exit → Act → World → Prop}
theorem id0 {x0 x1 x2 x3 : Value} (hgd : op.guard = none) (o i : Operand) (ho : op.op = .index 56 o i) (hx : a.eval o = .agg #[x0, x1, x2, x3]) (hi : a.eval i = .int .i64 0) (h : wpList Try.prog ops Q rest (a.put op.dst (.agg #[x0, x1])) w) : wpList Try.prog ops Q (op :: rest) a w :=
  wpList_plain hgd fun K hK => by
    unfold Oper.wp execOp
    simp only [ho, hx, hi, Sem.run_bind, ix0, Result.andThen_ok]
    exact hK _ _ h
theorem id1 {x0 x1 x2 x3 : Value} (hgd : op.guard = none) (o i : Operand) (ho : op.op = .index 56 o i) (hx : a.eval o = .agg #[x0, x1, x2, x3]) (hi : a.eval i = .int .i64 1) (h : wpList Try.prog ops Q rest (a.put op.dst (.agg #[x2, x3])) w) : wpList Try.prog ops Q (op :: rest) a w :=
  wpList_plain hgd fun K hK => by
    unfold Oper.wp execOp
    simp only [ho, hx, hi, Sem.run_bind, ix1, Result.andThen_ok]
    exact hK _ _ h
end
def hdO (h : Hd) : Obj := .cells #[.int .i64 (h.c : Int), .int .i64 (h.a0 : Int), .int .i64 (h.b0 : Int), .int .i64 (h.a1 : Int), .int .i64 (h.b1 : Int)] 58
theorem box_cells {w w2 : World} {h : Hd} (k : Below (w.alloc (hdO h)).heap.size (w.alloc (hdO h)) w2) :
    w2.cell? ⟨w.heap.size, 1, none⟩ = some (.int .i64 (h.a0 : Int)) ∧ w2.cell? ⟨w.heap.size, 2, none⟩ = some (.int .i64 (h.b0 : Int)) ∧ w2.cell? ⟨w.heap.size, 3, none⟩ = some (.int .i64 (h.a1 : Int)) ∧ w2.cell? ⟨w.heap.size, 4, none⟩ = some (.int .i64 (h.b1 : Int)) := by
  have hk : w2.heap[w.heap.size]? = some (hdO h) := (k.block _ (by simp)).trans (heap_alloc_new w _)
  refine ⟨?_, ?_, ?_, ?_⟩ <;> (rw [Dsc.cell_of_head hk]; rfl)
theorem head_5 (c a0 b0 a1 b1 : Nat) : (headL c a0 b0 a1 b1).take 1 ++ bytesL ((b0 : Int) * 2 + a0) 4 = (headL c a0 b0 a1 b1).take 5 := by
  rw [Int.mul_comm]; rfl
theorem head_9 (c a0 b0 a1 b1 : Nat) : (headL c a0 b0 a1 b1).take 5 ++ bytesL ((b1 : Int) * 2 + a1) 4 = (headL c a0 b0 a1 b1).take 9 := by
  rw [Int.mul_comm]; rfl
theorem head_all (c a0 b0 a1 b1 : Nat) : (headL c a0 b0 a1 b1).take 9 = headL c a0 b0 a1 b1 := rfl
set_option maxHeartbeats 2000000 in
theorem put_any {w : World} {h : Hd} (ho : h.Ok) :
    Calls Try.prog 49 #[h.val] w fun e w' => ∃ ao cap, e = .returned (.slice ao 9 cap) ∧ Mk w w' (.slice ao 9 cap) 9 (headL h.c h.a0 h.b0 h.a1 h.b1) := by
  have hc := ho.c
  have h1 := ho.a0
  have h2 := ho.b0
  have h3 := ho.a1
  have h4 := ho.b1
  unfold Hd.val
  go_enter Try.func49, Try.ntmps49
  go_wp2_with (at_builtin; refine app_first (A := hdO h) rfl _ _ rfl rfl rfl ?_; intro ao2 cap2 w2 d2; obtain ⟨c1, c2, c3, c4⟩ := box_cells d2.2; have D2 := hid d2; clear d2)
  go_loopw [3, 13] (fun o i wr => ∃ (k : Nat) (ao : Option Addr) (cap : Nat), k ≤ 2 ∧ i = .int .i64 (k : Int) ∧ o = .slice ao (1 + 4 * k) cap ∧ Mk (w.alloc (hdO h)) wr (.slice ao (1 + 4 * k) cap) (1 + 4 * k) ((headL h.c h.a0 h.b0 h.a1 h.b1).take (1 + 4 * k))) (fun _ i _ => 2 - (intOf i).toNat)
  case atStart => exact ⟨0, ao2, cap2, by omega, rfl, rfl, D2.out⟩
  case round =>
    obtain ⟨k, ao3, cap3, hk, rfl, rfl, d3⟩ := hrel
    have D3 := hid d3
    clear d3
    have e : k = 0 ∨ k = 1 ∨ k = 2 := by omega
    rcases e with rfl | rfl | rfl
    · have e1 : IntKind.u32.wrap (h.b0 : Int) = h.b0 := by rw [IntKind.wrap_u32]; omega
      have e2 : IntKind.u32.wrap (h.a0 : Int) = h.a0 := by rw [IntKind.wrap_u32]; omega
      have e3 : IntKind.u32.wrap ((h.b0 : Int) * 2) = h.b0 * 2 := by rw [IntKind.wrap_u32]; omega
      have e4 : bits .or .u32 ((h.b0 : Int) * 2) h.a0 = h.b0 * 2 + h.a0 := or1w _ _ (by omega) (by omega) (by omega) (by omega)
      have D4 : Hid (Mk (w.alloc (hdO h)) wr (.slice ao3 1 cap3) 1 ((headL h.c h.a0 h.b0 h.a1 h.b1).take 1)) := D3
      go_wp2_with (first | refine id0 rfl _ _ rfl rfl rfl ?_ | (go_at_call 56; refine (putWord_any (D4.out.more (bel1 _ _)) (by omega) _ 5 (by omega)).mono ?_; rintro e w5 ⟨ao5, cap5, rfl, d5⟩; rw [head_5] at d5; have D5 := hid d5; clear d5))
      go_roundw
      case rel => exact ⟨1, ao5, cap5, by omega, by go_num, rfl, D5.out⟩
      case measure => simp [intOf]
    · have e1 : IntKind.u32.wrap (h.b1 : Int) = h.b1 := by rw [IntKind.wrap_u32]; omega
      have e2 : IntKind.u32.wrap (h.a1 : Int) = h.a1 := by rw [IntKind.wrap_u32]; omega
      have e3 : IntKind.u32.wrap ((h.b1 : Int) * 2) = h.b1 * 2 := by rw [IntKind.wrap_u32]; omega
      have e4 : bits .or .u32 ((h.b1 : Int) * 2) h.a1 = h.b1 * 2 + h.a1 := or1w _ _ (by omega) (by omega) (by omega) (by omega)
      have D4 : Hid (Mk (w.alloc (hdO h)) wr (.slice ao3 5 cap3) 5 ((headL h.c h.a0 h.b0 h.a1 h.b1).take 5)) := D3
      go_wp2_with (first | refine id1 rfl _ _ rfl rfl rfl ?_ | (go_at_call 56; refine (putWord_any (D4.out.more (bel1 _ _)) (by omega) _ 9 (by omega)).mono ?_; rintro e w5 ⟨ao5, cap5, rfl, d5⟩; rw [head_9] at d5; have D5 := hid d5; clear d5))
      go_roundw
      case rel => exact ⟨2, ao5, cap5, by omega, by go_num, rfl, D5.out⟩
      case measure => simp [intOf]
    · have D4 : Hid (Mk (w.alloc (hdO h)) wr (.slice ao3 9 cap3) 9 ((headL h.c h.a0 h.b0 h.a1 h.b1).take 9)) := D3
      go_wp2
      go_ret
      exact ⟨ao3, cap3, rfl, by have := D4.out; rw [head_all] at this; exact Frm.Mk.wide (bel1 _ _) this⟩
theorem hset {w : World} {b : Nat} {cs : Array Value} {t : TypeId} {f : Nat × Nat} (h : w.heap[b]? = some (.cells cs t f)) (o : Nat) (v : Value) : (w.setCell ⟨b, o, none⟩ v).heap[b]? = some (.cells (cs.setIfInBounds o v) t f) := by
  simp [World.setCell, Array.getElem?_modify, h]
theorem hoth {w : World} {b k : Nat} (h : k ≠ b) (o : Nat) (v : Value) : (w.setCell ⟨b, o, none⟩ v).heap[k]? = w.heap[k]? := by
  have h' : ¬ b = k := fun e => h e.symm
  simp [World.setCell, Array.getElem?_modify, h']
def nW (zs : List Int) (k : Nat) : Int := num ((zs.drop k).take 4)
def hdOf (zs : List Int) : Hd := ⟨(zs.getD 0 0 % 2).toNat, (nW zs 1 % 2).toNat, (nW zs 1 / 2).toNat, (nW zs 5 % 2).toNat, (nW zs 5 / 2).toNat⟩
theorem Given.sub {w : World} {b o len cap : Nat} {zs : List Int} (h : Given w (some ⟨b, o, none⟩) len cap zs) (k : Nat) (hk : k ≤ len) : Given w (some ⟨b, o + k, none⟩) (len - k) (cap - k) (zs.drop k) := by
  have h1 := h.leq
  have h2 := h.cap1
  have h3 := h.cap2
  refine ⟨by rw [List.length_drop]; omega, fun x hx => h.byt x (List.mem_of_mem_drop hx), ?_, by omega, by omega⟩
  rcases h.row with e | ⟨b', o', e, hc⟩
  · left; rw [e]; simp
  · right
    cases e
    refine ⟨b, o + k, rfl, fun i hi => ?_⟩
    rw [List.length_drop] at hi
    rw [Nat.add_assoc, hc (k + i) (by omega), getD_drop]
theorem Given.more {w w' : World} {ao : Option Addr} {len cap : Nat} {zs : List Int} (h : Given w ao len cap zs) (k : ∀ a i, ao = some a → i < zs.length → w'.cell? ⟨a.block, a.off + i, none⟩ = w.cell? ⟨a.block, a.off + i, none⟩) : Given w' ao len cap zs := by
  refine ⟨h.leq, h.byt, ?_, h.cap1, h.cap2⟩
  rcases h.row with e | ⟨b', o', e, hc⟩
  · exact .inl e
  · exact .inr ⟨b', o', e, fun i hi => (k _ i e hi).trans (hc i hi)⟩
theorem nW_bd {zs : List Int} (hb : Frm.Byt zs) (k : Nat) : 0 ≤ nW zs k ∧ nW zs k < 4294967296 := by
  have h := num_bd ((zs.drop k).take 4) (byt_take (fun x hx => hb x (List.mem_of_mem_drop hx)) 4)
  have hl : ((zs.drop k).take 4).length ≤ 4 := by rw [List.length_take]; omega
  have h2 : (2 : Int) ^ (8 * ((zs.drop k).take 4).length) ≤ 4294967296 := by
    have : (2 : Nat) ^ (8 * ((zs.drop k).take 4).length) ≤ 2 ^ 32 := Nat.pow_le_pow_right (by decide) (by omega)
    have e : (4294967296 : Int) = ((2 ^ 32 : Nat) : Int) := by decide
    rw [e]; exact_mod_cast this
  unfold nW; omega
def hCells (h : Hd) : Nat → Array Value
  | 0 => #[.int .i64 (h.c : Int), .int .i64 0, .int .i64 0, .int .i64 0, .int .i64 0]
  | 1 => #[.int .i64 (h.c : Int), .int .i64 (h.a0 : Int), .int .i64 (h.b0 : Int), .int .i64 0, .int .i64 0]
  | _ => #[.int .i64 (h.c : Int), .int .i64 (h.a0 : Int), .int .i64 (h.b0 : Int), .int .i64 (h.a1 : Int), .int .i64 (h.b1 : Int)]
def zCells : Array Value := #[.int .i64 0, .int .i64 0, .int .i64 0, .int .i64 0, .int .i64 0]
theorem st_blk {w : World} {b : Nat} {cs : Array Value} {t : TypeId} (h : w.heap[b]? = some (.cells cs t (0, 0))) {i : Nat} {v : Value} (hv : cs[i]? = some v) : w.cell? ⟨b, i, none⟩ = some v ∧ w.frozen? ⟨b, i, none⟩ = false :=
  ⟨by rw [Dsc.cell_of_head h]; exact hv, Dsc.froz_of_head h i⟩
theorem and1w (v : Int) (h0 : 0 ≤ v) (h1 : v < 4294967296) : bits .and .u32 v 1 = v % 2 := by
  rw [u32_and v 1 h0 h1 (by omega) (by omega), show (1 : Int).toNat = 1 from rfl, Nat.and_one_is_mod]; omega
theorem ret70 {fn : Func} {t : Tmp} {b : Nat} {h : Hd} (hf : fn.results = #[.cell t 58]) (tmps : Array Value) (w : World) (ht : tmps.getD t undef = .pointer (some ⟨b, 0, none⟩)) (hr : w.heap[b]? = some (.cells (hCells h 2) 58 (0, 0))) :
    (results fn tmps).run Try.prog w = .ok h.val w := by
  obtain ⟨d, hu, hd⟩ := row70
  refine Dsc.results_cell hf tmps _ w ht (run_loadVar_mid (P := Try.prog) w b 0 58 h.cells d ?_ hu hd n70)
  intro j v hv
  rw [Dsc.cell_of_head hr]
  simpa [hCells, Hd.cells] using hv
set_option maxHeartbeats 2000000 in
theorem headOf_any {w : World} {ao : Option Addr} {len cap : Nat} {zs : List Int} (h : Given w ao len cap zs) (h64 : len = 64) :
    Calls Try.prog 17 #[.slice ao len cap] w fun e w' => e = .returned (hdOf zs).val ∧ Below w.heap.size w w' := by
  subst h64
  have hl := h.leq
  have hb := h.byt
  have c1 := h.cap1
  have c2 := h.cap2
  obtain ⟨b, off, rfl⟩ := h.row.some (by omega)
  have hcell : w.cell? ⟨b, off, none⟩ = some (.int .u8 (zs.getD 0 0)) := by
    rcases h.row with e | ⟨b', o', e, hc⟩
    · rw [e] at hl; simp at hl
    · cases e; exact hc 0 (by omega)
  have hx := byt_getD hb 0
  have H := hid h
  clear h
  have em : (zs.getD 0 0).tmod 2 = ((zs.getD 0 0 % 2).toNat : Int) := by rw [Int.tmod_eq_emod_of_nonneg hx.1]; omega
  obtain ⟨C, hC⟩ : ∃ C, (zs.getD 0 0 % 2).toNat = C := ⟨_, rfl⟩
  rw [hC] at em
  obtain ⟨z0, hz0⟩ : ∃ z, zs.getD 0 0 = z := ⟨_, rfl⟩
  have hC := hid hC
  rw [hz0] at hcell hx em
  have hz0 := hid hz0
  have hbl : b < w.heap.size := by
    by_cases hh : b < w.heap.size
    · exact hh
    · simp [World.cell?, hh] at hcell
  go_enter Try.func17, Try.ntmps17
  go_wp2
  go_loopw [12] (fun i wr => ∃ k : Nat, k ≤ 2 ∧ i = .int .i64 (k : Int) ∧ Below w.heap.size w wr ∧ wr.heap[w.heap.size]? = some (.cells zCells 58 (0, 0)) ∧ wr.heap[w.heap.size + 1]? = some (.cells (hCells (hdOf zs) k) 58 (0, 0))) (fun i _ => 2 - (intOf i).toNat)
  case atStart =>
    refine ⟨0, by omega, rfl, sq (bel1 _ _) (bel1 _ _), ?_, ?_⟩
    · rw [(bel1 _ _).block _ (by simp)]; exact heap_alloc_new w _
    · have := heap_alloc_new (w.alloc (Obj.cells zCells 58)) (.cells (hCells (hdOf zs) 0) 58)
      rw [World.size_alloc] at this
      have e0 : (zs.getD 0 0 % 2).toNat = C := hC.out
      rw [← this]; unfold hCells hdOf; simp only []; rw [e0]; rfl
  case round =>
    obtain ⟨k, hk, rfl, B3, z3, x3⟩ := hrel
    have e : k = 0 ∨ k = 1 ∨ k = 2 := by omega
    have H3 := hid (Given.below H.out B3)
    have BB := hid B3
    have Z3 := hid z3
    have X3 := hid x3
    clear B3 z3 x3 hcell
    rcases e with rfl | rfl | rfl
    · obtain ⟨y1, f1⟩ := st_blk X3.out (i := 1) (v := .int .i64 0) rfl
      obtain ⟨y2, f2⟩ := st_blk X3.out (i := 2) (v := .int .i64 0) rfl
      obtain ⟨v, hv⟩ : ∃ v, nW zs 1 = v := ⟨_, rfl⟩
      have hvb := nW_bd hb 1
      rw [hv] at hvb
      have e1 := and1w v hvb.1 hvb.2
      have x1 : IntKind.i64.wrap (v % 2) = v % 2 := wr64 (by omega)
      have x2 : IntKind.i64.wrap (v / 2) = v / 2 := wr64 (by omega)
      have G := hid (Given.sub H3.out 1 (by omega))
      go_wp2_with (go_at_call 28; refine (word_any G.out (by omega)).mono ?_; rintro e w1 ⟨rfl, rfl⟩; rw [show num ((zs.drop 1).take 4) = v from hv])
      go_roundw
      case rel =>
        refine ⟨1, by omega, rfl, (BB.out.setCell (by show w.heap.size ≤ w.heap.size + 1; omega) _).setCell (by show w.heap.size ≤ w.heap.size + 1; omega) _, ?_, ?_⟩
        · rw [hoth (by omega), hoth (by omega)]; exact Z3.out
        · rw [hset (hset X3.out _ _) _ _]
          have q1 : v % 2 = (((nW zs 1) % 2).toNat : Int) := by rw [hv]; omega
          have q2 : v / 2 = (((nW zs 1) / 2).toNat : Int) := by rw [hv]; omega
          rw [q1, q2]; rfl
      case measure => simp [intOf]
    · obtain ⟨y1, f1⟩ := st_blk X3.out (i := 3) (v := .int .i64 0) rfl
      obtain ⟨y2, f2⟩ := st_blk X3.out (i := 4) (v := .int .i64 0) rfl
      obtain ⟨v, hv⟩ : ∃ v, nW zs 5 = v := ⟨_, rfl⟩
      have hvb := nW_bd hb 5
      rw [hv] at hvb
      have e1 := and1w v hvb.1 hvb.2
      have x1 : IntKind.i64.wrap (v % 2) = v % 2 := wr64 (by omega)
      have x2 : IntKind.i64.wrap (v / 2) = v / 2 := wr64 (by omega)
      have G := hid (Given.sub H3.out 5 (by omega))
      go_wp2_with (go_at_call 28; refine (word_any G.out (by omega)).mono ?_; rintro e w1 ⟨rfl, rfl⟩; rw [show num ((zs.drop 5).take 4) = v from hv])
      go_roundw
      case rel =>
        refine ⟨2, by omega, rfl, (BB.out.setCell (by show w.heap.size ≤ w.heap.size + 1; omega) _).setCell (by show w.heap.size ≤ w.heap.size + 1; omega) _, ?_, ?_⟩
        · rw [hoth (by omega), hoth (by omega)]; exact Z3.out
        · rw [hset (hset X3.out _ _) _ _]
          have q1 : v % 2 = (((nW zs 5) % 2).toNat : Int) := by rw [hv]; omega
          have q2 : v / 2 = (((nW zs 5) / 2).toNat : Int) := by rw [hv]; omega
          rw [q1, q2]; rfl
      case measure => simp [intOf]
    · obtain ⟨h, hh⟩ : ∃ h, hdOf zs = h := ⟨_, rfl⟩
      have X4 := X3
      rw [hh] at X4
      obtain ⟨y0, -⟩ := st_blk X4.out (i := 0) (v := .int .i64 (h.c : Int)) rfl
      obtain ⟨y1, -⟩ := st_blk X4.out (i := 1) (v := .int .i64 (h.a0 : Int)) rfl
      obtain ⟨y2, -⟩ := st_blk X4.out (i := 2) (v := .int .i64 (h.b0 : Int)) rfl
      obtain ⟨y3, -⟩ := st_blk X4.out (i := 3) (v := .int .i64 (h.a1 : Int)) rfl
      obtain ⟨y4, -⟩ := st_blk X4.out (i := 4) (v := .int .i64 (h.b1 : Int)) rfl
      obtain ⟨z0, g0⟩ := st_blk Z3.out (i := 0) (v := .int .i64 0) rfl
      obtain ⟨z1, g1⟩ := st_blk Z3.out (i := 1) (v := .int .i64 0) rfl
      obtain ⟨z2, g2⟩ := st_blk Z3.out (i := 2) (v := .int .i64 0) rfl
      obtain ⟨z3, g3⟩ := st_blk Z3.out (i := 3) (v := .int .i64 0) rfl
      obtain ⟨z4, g4⟩ := st_blk Z3.out (i := 4) (v := .int .i64 0) rfl
      go_wp2
      refine bodyPost_ret (ret70 (h := h) Try.results17 _ _ rfl ?_) rfl ⟨by rw [hh], ?_⟩
      · rw [hset (hset (hset (hset (hset Z3.out _ _) _ _) _ _) _ _) _ _]; rfl
      · exact ((((BB.out.setCell (Nat.le_refl _) _).setCell (Nat.le_refl _) _).setCell (Nat.le_refl _) _).setCell (Nat.le_refl _) _).setCell (Nat.le_refl _) _
end Go.Proofs.Ythhgnflkplpklab
