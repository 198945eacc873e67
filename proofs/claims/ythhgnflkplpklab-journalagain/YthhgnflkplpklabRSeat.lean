/- The seat's records: of few numbers, all of them right. -/
import Derived.Test.YthhgnflkplpklabRReads
namespace Go.Proofs.Ythhgnflkplpklab.Frm
set_option maxRecDepth 20000
open Go.ChangeShapes Go.WideShapes Go.ChangeAt Go.RowKit

def panK (j : Int) : ByteArray := if j = 0 then ⟨#[52, 48, 48, 48, 49, 50, 51, 52, 49, 50, 51, 52, 49, 50, 51, 52]⟩ else if j = 1 then ⟨#[53, 49]⟩ else if j = 2 then ⟨#[57]⟩ else ⟨#[54, 48, 49, 49, 48, 48, 48, 57, 57, 48, 49, 51, 57, 52, 50, 52]⟩
set_option maxHeartbeats 1000000 in
theorem pan19 (k : Int) (w : World) (h0 : 0 ≤ k) :
    Calls Try.prog 20 #[.int .u8 k] w fun e w' => e = .returned (.string (panK (k % 4))) ∧ Below w.heap.size w w' := by
  have h4 : k % 4 = 0 ∨ k % 4 = 1 ∨ k % 4 = 2 ∨ k % 4 = 3 := by omega
  rcases h4 with h | h | h | h <;> rw [h] <;> (
    have h' := Int.tmod_eq_emod_of_nonneg (b := 4) h0
    rw [h] at h'
    go_enter Try.func20, Try.ntmps20
    go_wp2
    go_ret
    exact ⟨rfl, bel1 _ _⟩)
/-! ### Fields of a record of the call's own -/
theorem rv_store {ops : Array Oper} {rest : List Oper} {op : Oper} {a : Act} {w0 w : World} {Q : Exit → Act → World → Prop} {b : Nat} {r : Rc} (h : RV w b r) (hB : Below w0.heap.size w0 w) (hb : w0.heap.size ≤ b) (ty : TypeId) (o : Nat) (cs : List Value) (r' : Rc)
    (hl : o + cs.length ≤ 17) (he : r'.cells = r.cells.take o ++ cs ++ r.cells.drop (o + cs.length)) (hi : (Try.prog.info? ty).map (·.size) = some cs.length) (h1 : ∀ c ∈ cs, c.oneCell' = true)
    (hgd : op.guard = none) (x y : Operand) (ho : op.op = .store ty x y) (hx : a.eval x = .pointer (some ⟨b, o, none⟩)) {v : Value} (hy : a.eval y = v) (hv : v.cells = cs.toArray)
    (hh : ∀ w', RV w' b r' → Below w0.heap.size w0 w' → wpList Try.prog ops Q rest (a.put op.dst undef) w') : wpList Try.prog ops Q (op :: rest) a w :=
  st_cs ty cs (fun j hj => by have := h.th (o + j) (by omega); rwa [Nat.zero_add] at this) hi h1 hgd x y ho hx hy hv (hh _ (h.part hl he) (setCells_in hB hb o))
section
variable {ops : Array Oper} {rest : List Oper} {op : Oper} {a : Act} {w0 w : World} {Q : Exit → Act → World → Prop} {b : Nat} {r : Rc}
theorem rv_pan {k : ByteArray} (h : RV w b r) (hB : Below w0.heap.size w0 w) (hb : w0.heap.size ≤ b) (hgd : op.guard = none) (x y : Operand) (ho : op.op = .store 9 x y) (hx : a.eval x = .pointer (some ⟨b, 3, none⟩)) (hy : a.eval y = .string k)
    (hh : ∀ w', RV w' b { r with pan := k } → Below w0.heap.size w0 w' → wpList Try.prog ops Q rest (a.put op.dst undef) w') : wpList Try.prog ops Q (op :: rest) a w :=
  rv_store h hB hb 9 3 [.string k] { r with pan := k } (by simp) rfl n9 (one1 rfl) hgd x y ho hx hy rfl hh
theorem rv_notes {x0 x1 x2 x3 : Int} (h : RV w b r) (hB : Below w0.heap.size w0 w) (hb : w0.heap.size ≤ b) (hgd : op.guard = none) (x y : Operand) (ho : op.op = .store 37 x y) (hx : a.eval x = .pointer (some ⟨b, 5, none⟩)) (hy : a.eval y = .agg #[.int .i64 x0, .int .i64 x1, .int .i64 x2, .int .i64 x3])
    (hh : ∀ w', RV w' b { r with n0 := x0, n1 := x1, n2 := x2, n3 := x3 } → Below w0.heap.size w0 w' → wpList Try.prog ops Q rest (a.put op.dst undef) w') : wpList Try.prog ops Q (op :: rest) a w :=
  rv_store h hB hb 37 5 (c4 x0 x1 x2 x3) { r with n0 := x0, n1 := x1, n2 := x2, n3 := x3 } (by simp [c4]) rfl n27 (c4_one _ _ _ _) hgd x y ho hx hy rfl hh
theorem rv_rej {x0 x1 x2 x3 : Int} (h : RV w b r) (hB : Below w0.heap.size w0 w) (hb : w0.heap.size ≤ b) (hgd : op.guard = none) (x y : Operand) (ho : op.op = .store 37 x y) (hx : a.eval x = .pointer (some ⟨b, 9, none⟩)) (hy : a.eval y = .agg #[.int .i64 x0, .int .i64 x1, .int .i64 x2, .int .i64 x3])
    (hh : ∀ w', RV w' b { r with j0 := x0, j1 := x1, j2 := x2, j3 := x3 } → Below w0.heap.size w0 w' → wpList Try.prog ops Q rest (a.put op.dst undef) w') : wpList Try.prog ops Q (op :: rest) a w :=
  rv_store h hB hb 37 9 (c4 x0 x1 x2 x3) { r with j0 := x0, j1 := x1, j2 := x2, j3 := x3 } (by simp [c4]) rfl n27 (c4_one _ _ _ _) hgd x y ho hx hy rfl hh
theorem rv_loaded {x0 x1 x2 x3 : Int} (h : RV w b r) (hB : Below w0.heap.size w0 w) (hb : w0.heap.size ≤ b) (hgd : op.guard = none) (x y : Operand) (ho : op.op = .store 37 x y) (hx : a.eval x = .pointer (some ⟨b, 13, none⟩)) (hy : a.eval y = .agg #[.int .i64 x0, .int .i64 x1, .int .i64 x2, .int .i64 x3])
    (hh : ∀ w', RV w' b { r with l0 := x0, l1 := x1, l2 := x2, l3 := x3 } → Below w0.heap.size w0 w' → wpList Try.prog ops Q rest (a.put op.dst undef) w') : wpList Try.prog ops Q (op :: rest) a w :=
  rv_store h hB hb 37 13 (c4 x0 x1 x2 x3) { r with l0 := x0, l1 := x1, l2 := x2, l3 := x3 } (by simp [c4]) rfl n27 (c4_one _ _ _ _) hgd x y ho hx hy rfl hh
theorem rv_kind {k : Int} (h : RV w b r) (hB : Below w0.heap.size w0 w) (hb : w0.heap.size ≤ b) (hgd : op.guard = none) (x y : Operand) (ho : op.op = .store 3 x y) (hx : a.eval x = .pointer (some ⟨b, 0, none⟩)) (hy : a.eval y = .int .i64 k)
    (hh : ∀ w', RV w' b { r with kind := k } → Below w0.heap.size w0 w' → wpList Try.prog ops Q rest (a.put op.dst undef) w') : wpList Try.prog ops Q (op :: rest) a w :=
  rv_store h hB hb 3 0 [.int .i64 k] { r with kind := k } (by simp) rfl n3 (one1 rfl) hgd x y ho hx hy rfl hh
theorem rv_amt {k : Int} (h : RV w b r) (hB : Below w0.heap.size w0 w) (hb : w0.heap.size ≤ b) (hgd : op.guard = none) (x y : Operand) (ho : op.op = .store 2 x y) (hx : a.eval x = .pointer (some ⟨b, 4, none⟩)) (hy : a.eval y = .int .i64 k)
    (hh : ∀ w', RV w' b { r with amt := k } → Below w0.heap.size w0 w' → wpList Try.prog ops Q rest (a.put op.dst undef) w') : wpList Try.prog ops Q (op :: rest) a w :=
  rv_store h hB hb 2 4 [.int .i64 k] { r with amt := k } (by simp) rfl n2 (one1 rfl) hgd x y ho hx hy rfl hh
/-- A record of its kind, key and amount. -/
theorem bdR {ki te st am : Int} (hgd : op.guard = none) (x y z : Operand) (ho : op.op = .build 39 #[(0, x), (1, y), (3, z)]) (hx : a.eval x = .int .i64 ki) (hy : a.eval y = .agg #[.int .u16 te, .int .u32 st]) (hz : a.eval z = .int .i64 am)
    (h : wpList Try.prog ops Q rest (a.put op.dst (Rc.val ⟨ki, te, st, ⟨#[]⟩, am, 0, 0, 0, 0, 0, 0, 0, 0, 0, 0, 0, 0⟩)) w) : wpList Try.prog ops Q (op :: rest) a w :=
  wpList_plain hgd fun K hK => by
    have hz0 := zero29 w
    unfold Oper.wp execOp
    simp only [ho, List.map_toArray, List.map_cons, List.map_nil, hx, hy, hz]
    simp [Instr.build, hz0, go_sem, Rc.val, Rc.cells, Rc.zero]
    exact hK _ _ h
end
end Go.Proofs.Ythhgnflkplpklab.Frm
