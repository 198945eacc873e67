/- The code's ask and input. -/
import Derived.Test.YtnahbfnchopghaaTook
namespace Go.Proofs.Ytnahbfnchopghaa
open Go.ChangeShapes Go.WideShapes Go.ChangeAt Go.RowKit

/-- Block b alone was changed. -/
def One (b : Nat) (w w' : World) : Prop := Turned (fun j => j = b) w w'
theorem One.refl (b : Nat) (w : World) : One b w w := Turned.refl _ w
theorem One.seq {b : Nat} {w w1 w2 : World} (h : One b w w1) (k : One b w1 w2) : One b w w2 :=
  ⟨k.os.trans h.os, k.tape.trans h.tape, k.output.trans h.output, Nat.le_trans h.size k.size, fun j hj hn => (k.block j (Nat.lt_of_lt_of_le hj h.size) hn).trans (h.block j hj hn)⟩
theorem One.of_below {b : Nat} {w w' : World} (h : Below w.heap.size w w') : One b w w' := Turned.of_below h
theorem One.set (w : World) (b i : Nat) (v : Value) : One b w (w.setCell ⟨b, i, none⟩ v) := by
  have h := (Below.refl 0 w).setCell (p := ⟨b, i, none⟩) (Nat.zero_le _) v
  exact ⟨h.os, h.tape, h.output, h.size, fun j _ hn => heap_setCell_other w _ j v hn⟩
theorem One.below {b : Nat} {w w' : World} {B : Nat} {w0 : World} (h : One b w w') (h0 : Below B w0 w) (hb : B ≤ b) (hB : B ≤ w.heap.size) : Below B w0 w' := h0.trans (Turned.below h (fun k e => by rw [e]; exact hb) hB)
theorem ne_bytes {s t : ByteArray} (h : ¬ s = t) : (s.toList == t.toList) = false := by
  cases e : (s.toList == t.toList)
  · rfl
  · exact absurd ((MapKept.bytes_beq s t).mp (by rw [beq_toListBytes]; exact e)) h
theorem not_empty {s : ByteArray} (h : ¬ s = ⟨#[]⟩) : s.toList.isEmpty = false := by
  have := decide_eq_emptyBytes s
  rw [← this]
  exact decide_eq_false h
section
variable {ops : Array Oper} {rest : List Oper} {op : Oper} {a : Act} {w : World} {Q : Exit → Act → World → Prop}
/-- One cell of a walk is written. -/
theorem stc {b i : Nat} {k k' : Wk} {ao ao' : Option Addr} {len cap len' cap' : Nat} {v : Value} (t : TypeId) (hr : WV w b k ao len cap) (hi : i < 8) (hn : (Try.prog.info? t).map (·.size) = some 1) (hv : v.cells = #[v]) (h1 : v.oneCell' = true)
    (e : (wkc k ao len cap).set i v = wkc k' ao' len' cap') (hgd : op.guard = none) (y z : Operand) (ho : op.op = .store t y z) (hx : a.eval y = .pointer (some ⟨b, i, none⟩)) (hy : a.eval z = v)
    (h : ∀ w', WV w' b k' ao' len' cap' → One b w w' → wpList Try.prog ops Q rest (a.put op.dst undef) w') : wpList Try.prog ops Q (op :: rest) a w :=
  wpList_plain hgd fun K hK => by
    have hs := run_storeVar_cs w b i t v [v] (by rw [hv]) (fun j hj => by
      obtain rfl : j = 0 := by simp at hj; exact hj
      have := hr.th i hi; rwa [Nat.zero_add] at this) hn (fun c hc => by have : c = v := by simpa using hc
                                                                         rw [this]; exact h1)
    unfold Oper.wp execOp
    simp only [ho, hx, hy, Instr.storeAt, Instr.sureAddr, Sem.run_bind, Sem.run_pure, Result.andThen_ok, hs]
    exact hK _ _ (h _ (hr.put hi e) (One.set w b i v))
end
theorem i2 : (Try.prog.info? 2).map (·.size) = some 1 := by kernel_rfl
theorem i3 : (Try.prog.info? 3).map (·.size) = some 1 := by kernel_rfl
theorem i4 : (Try.prog.info? 4).map (·.size) = some 1 := by kernel_rfl
theorem i9 : (Try.prog.info? 9).map (·.size) = some 1 := by kernel_rfl
theorem i26 : (Try.prog.info? 26).map (·.size) = some 1 := by kernel_rfl
section
variable {ops : Array Oper} {rest : List Oper} {op : Oper} {a : Act} {w : World} {Q : Exit → Act → World → Prop} {b : Nat} {k : Wk} {ao : Option Addr} {len cap : Nat}
theorem sPos {x : Int} (hr : WV w b k ao len cap) (hgd : op.guard = none) (y z : Operand) (ho : op.op = .store 3 y z) (hx : a.eval y = .pointer (some ⟨b, 0, none⟩)) (hy : a.eval z = .int .i64 x)
    (h : ∀ w', WV w' b { k with r := { k.r with pos := x } } ao len cap → One b w w' → wpList Try.prog ops Q rest (a.put op.dst undef) w') : wpList Try.prog ops Q (op :: rest) a w := stc 3 hr (by decide) i3 rfl rfl rfl hgd y z ho hx hy h
theorem sSteps {x : Int} (hr : WV w b k ao len cap) (hgd : op.guard = none) (y z : Operand) (ho : op.op = .store 3 y z) (hx : a.eval y = .pointer (some ⟨b, 1, none⟩)) (hy : a.eval z = .int .i64 x)
    (h : ∀ w', WV w' b { k with r := { k.r with steps := x } } ao len cap → One b w w' → wpList Try.prog ops Q rest (a.put op.dst undef) w') : wpList Try.prog ops Q (op :: rest) a w := stc 3 hr (by decide) i3 rfl rfl rfl hgd y z ho hx hy h
theorem sAsked {x : Bool} (hr : WV w b k ao len cap) (hgd : op.guard = none) (y z : Operand) (ho : op.op = .store 4 y z) (hx : a.eval y = .pointer (some ⟨b, 2, none⟩)) (hy : a.eval z = .bool x)
    (h : ∀ w', WV w' b { k with r := { k.r with asked := x } } ao len cap → One b w w' → wpList Try.prog ops Q rest (a.put op.dst undef) w') : wpList Try.prog ops Q (op :: rest) a w := stc 4 hr (by decide) i4 rfl rfl rfl hgd y z ho hx hy h
theorem sRpan {x : ByteArray} (hr : WV w b k ao len cap) (hgd : op.guard = none) (y z : Operand) (ho : op.op = .store 9 y z) (hx : a.eval y = .pointer (some ⟨b, 3, none⟩)) (hy : a.eval z = .string x)
    (h : ∀ w', WV w' b { k with r := { k.r with pan := x } } ao len cap → One b w w' → wpList Try.prog ops Q rest (a.put op.dst undef) w') : wpList Try.prog ops Q (op :: rest) a w := stc 9 hr (by decide) i9 rfl rfl rfl hgd y z ho hx hy h
theorem sRamt {x : Int} (hr : WV w b k ao len cap) (hgd : op.guard = none) (y z : Operand) (ho : op.op = .store 2 y z) (hx : a.eval y = .pointer (some ⟨b, 4, none⟩)) (hy : a.eval z = .int .i64 x)
    (h : ∀ w', WV w' b { k with r := { k.r with amt := x } } ao len cap → One b w w' → wpList Try.prog ops Q rest (a.put op.dst undef) w') : wpList Try.prog ops Q (op :: rest) a w := stc 2 hr (by decide) i2 rfl rfl rfl hgd y z ho hx hy h
theorem sPan {x : ByteArray} (hr : WV w b k ao len cap) (hgd : op.guard = none) (y z : Operand) (ho : op.op = .store 9 y z) (hx : a.eval y = .pointer (some ⟨b, 5, none⟩)) (hy : a.eval z = .string x)
    (h : ∀ w', WV w' b { k with pan := x } ao len cap → One b w w' → wpList Try.prog ops Q rest (a.put op.dst undef) w') : wpList Try.prog ops Q (op :: rest) a w := stc 9 hr (by decide) i9 rfl rfl rfl hgd y z ho hx hy h
theorem sAmt {x : Int} (hr : WV w b k ao len cap) (hgd : op.guard = none) (y z : Operand) (ho : op.op = .store 2 y z) (hx : a.eval y = .pointer (some ⟨b, 6, none⟩)) (hy : a.eval z = .int .i64 x)
    (h : ∀ w', WV w' b { k with amt := x } ao len cap → One b w w' → wpList Try.prog ops Q rest (a.put op.dst undef) w') : wpList Try.prog ops Q (op :: rest) a w := stc 2 hr (by decide) i2 rfl rfl rfl hgd y z ho hx hy h
theorem sIns {ao' : Option Addr} {len' cap' : Nat} {t : List ByteArray} (hr : WV w b k ao len cap) (hgd : op.guard = none) (y z : Operand) (ho : op.op = .store 26 y z) (hx : a.eval y = .pointer (some ⟨b, 7, none⟩)) (hy : a.eval z = .slice ao' len' cap')
    (h : ∀ w', WV w' b { k with ins := t } ao' len' cap' → One b w w' → wpList Try.prog ops Q rest (a.put op.dst undef) w') : wpList Try.prog ops Q (op :: rest) a w := stc 26 hr (by decide) i26 rfl rfl rfl hgd y z ho hx hy h
end
theorem hasTo_no1 {k : Wk} (h : k.r.asked = true) : hasTo k = false := by unfold hasTo; rw [h]; rfl
theorem hasTo_no2 {k : Wk} (h : k.pan = ⟨#[]⟩) : hasTo k = false := by unfold hasTo; rw [h]; simp
theorem hasTo_no3 {k : Wk} (h : k.amt = 0) : hasTo k = false := by unfold hasTo; rw [h]; simp
theorem hasTo_yes {k : Wk} (h : k.r.asked = false) (h1 : ¬ k.pan = ⟨#[]⟩) (h2 : ¬ k.amt = 0) : hasTo k = true := by unfold hasTo; rw [h, decide_eq_true h1, decide_eq_true h2]; rfl
theorem askK_no {k : Wk} (h : hasTo k = false) : askK k = k := by unfold askK; rw [if_neg (by rw [h]; decide)]
theorem askK_yes {k : Wk} (h : hasTo k = true) : askK k = { k with r := { k.r with asked := true, pan := k.pan, amt := k.amt } } := by unfold askK; rw [if_pos h]
theorem res21 (t : Array Value) (w : World) : (results Try.f21 t).run Try.prog w = .ok (.tuple #[]) w := by simp [results, Try.results21, go_sem]
set_option maxHeartbeats 1000000 in
theorem ask21 (b : Nat) (k : Wk) (ao : Option Addr) (len cap : Nat) (w : World) (h : WV w b k ao len cap) :
    Calls Try.prog 21 #[.pointer (some ⟨b, 0, none⟩)] w fun e w' => e = .returned (.tuple #[]) ∧ WV w' b (askK k) ao len cap ∧ One b w w' := by
  have H := hid h
  have c2 := h.cell 2 (v := .bool k.r.asked) rfl
  have c5 := h.cell 5 (v := .string k.pan) rfl
  have c6 := h.cell 6 (v := .int .i64 k.amt) rfl
  clear h
  cases ha : k.r.asked
  · by_cases hp : k.pan = ⟨#[]⟩
    · have HA := hid (askK_no (hasTo_no2 hp))
      rw [ha] at c2
      rw [hp] at c5
      clear ha hp
      go_enter Try.func21, Try.ntmps21
      go_wp2
      refine bodyPost_ret (v := .tuple #[]) (res21 _ _) rfl ⟨rfl, ?_, One.refl _ _⟩
      rw [HA.out]; exact H.out
    · by_cases hm : k.amt = 0
      · have HA := hid (askK_no (hasTo_no3 hm))
        have hn := not_empty hp
        rw [ha] at c2
        rw [hm] at c6
        clear ha hm hp
        go_enter Try.func21, Try.ntmps21
        go_wp2
        refine bodyPost_ret (v := .tuple #[]) (res21 _ _) rfl ⟨rfl, ?_, One.refl _ _⟩
        rw [HA.out]; exact H.out
      · have HA := hid (askK_yes (hasTo_yes ha hp hm))
        have hn := not_empty hp
        have hz : (k.amt == 0) = false := by simpa using hm
        rw [ha] at c2
        clear ha hm hp
        go_enter Try.func21, Try.ntmps21
        go_wp2_with (first | (have kill := X2.out; refine sRamt X2.out rfl _ _ rfl rfl rfl ?_; intro w3 v3 l3; have X3 := hid v3; have L3 := hid (One.seq L2.out l3); clear v3 l3 kill X2) | (have kill := X1.out; refine sRpan X1.out rfl _ _ rfl rfl rfl ?_; intro w2 v2 l2; have c6 := v2.cell 6 (v := .int .i64 k.amt) rfl; have X2 := hid v2; have L2 := hid (One.seq L1.out l2); clear v2 l2 kill X1) | (have kill := H.out; refine sAsked H.out rfl _ _ rfl rfl rfl ?_; intro w1 v1 l1; have c5 := v1.cell 5 (v := .string k.pan) rfl; have X1 := hid v1; have L1 := hid l1; clear v1 l1 kill H))
        refine ⟨rfl, (.tuple #[]), (res21 _ _), rfl, ?_, L3.out⟩
        rw [HA.out]; exact X3.out
  · have HA := hid (askK_no (hasTo_no1 ha))
    rw [ha] at c2
    clear ha
    go_enter Try.func21, Try.ntmps21
    go_wp2
    refine bodyPost_ret (v := .tuple #[]) (res21 _ _) rfl ⟨rfl, ?_, One.refl _ _⟩
    rw [HA.out]; exact H.out
end Go.Proofs.Ytnahbfnchopghaa
