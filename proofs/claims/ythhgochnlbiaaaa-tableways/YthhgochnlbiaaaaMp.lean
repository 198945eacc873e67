/- Maps keyed by a number: what they hold as a function; the look-up and the store at their operations. No function is walked. -/
import Derived.Test.YthhgochnlbiaaaaWide
import Derived.Maps.OwnSet
import Derived.DeepKeys4
namespace Go.Proofs.Ythhgochnlbiaaaa
open Go.ChangeShapes Go.WideShapes Go.ChangeAt Go.RowKit Go.Maps

theorem law3 : Keyed Try.prog 3 := int_keyed Try.underlying3
theorem zero3 (w : World) : (zeroValue 3).run Try.prog w = .ok (.int .i64 0) w := by kernel_rfl
theorem zero4 (w : World) : (zeroValue 4).run Try.prog w = .ok (.bool false) w := by kernel_rfl
/-- A number that an int holds. -/
def I64 (t : Int) : Prop := -9223372036854775808 ≤ t ∧ t < 9223372036854775808
theorem keyOf_3 (t : Int) (h : I64 t) : ∃ kl, keyOf Try.prog 3 (.int .i64 t) = some kl :=
  ⟨_, keyOf_int_mk Try.underlying3 (Go.WalkArith.wf_i64 (by unfold I64 at h; omega))⟩
theorem key3_inj {a b : Int} (h : Value.int .i64 a = Value.int .i64 b) : a = b := by simp at h; exact h
/-- f, but v at t. -/
def upd {α : Type} (f : Int → α) (t : Int) (v : α) : Int → α := fun x => if x = t then v else f x
theorem upd_same {α : Type} (f : Int → α) (t : Int) (v : α) : upd f t v t = v := by simp [upd]
theorem upd_ne {α : Type} (f : Int → α) (t : Int) (v : α) {x : Int} (h : x ≠ t) : upd f t v x = f x := by simp [upd, h]
/-- Block b is a map of at most n numbers that holds f. -/
def MI (w : World) (b n : Nat) (f : Int → Option Int) : Prop :=
  ∃ D : DataW Unit, w.ownsMap Try.prog 3 (plainElem Try.prog 3) b n D ∧ ∀ t kl, keyOf Try.prog 3 (.int .i64 t) = some kl → D.atKey kl (.lit (.int .i64 0)) = .lit (.int .i64 ((f t).getD 0)) ∧ has D kl = (f t).isSome
/-- .. of bools. -/
def MB (w : World) (b n : Nat) (f : Int → Bool) : Prop :=
  ∃ D : DataW Unit, w.ownsMap Try.prog 3 (plainElem Try.prog 4) b n D ∧ ∀ t kl, keyOf Try.prog 3 (.int .i64 t) = some kl → D.atKey kl (.lit (.bool false)) = .lit (.bool (f t))
section
variable {w : World} {b n : Nat} {f : Int → Option Int} {g : Int → Bool}
theorem MI.made (w : World) : MI (w.alloc (.map #[] 0)) w.heap.size 0 (fun _ => none) :=
  ⟨_, World.ownsMap_made _ _ _ _, fun t kl _ => by simp [DataW.atKey, has]⟩
theorem MB.made (w : World) : MB (w.alloc (.map #[] 0)) w.heap.size 0 (fun _ => false) :=
  ⟨_, World.ownsMap_made _ _ _ _, fun t kl _ => by simp [DataW.atKey]⟩
theorem MI.lt (h : MI w b n f) : b < w.heap.size := by obtain ⟨D, hD, _⟩ := h; exact hD.lt
theorem MB.lt (h : MB w b n g) : b < w.heap.size := by obtain ⟨D, hD, _⟩ := h; exact hD.lt
theorem MI.kept {w' : World} {row : Option Nat} (h : MI w b n f) (hg : w.grownBy w' row) (hne : some b ≠ row) : MI w' b n f := by
  obtain ⟨D, hD, hf⟩ := h; exact ⟨D, hD.kept hg hne, hf⟩
theorem MB.kept {w' : World} {row : Option Nat} (h : MB w b n g) (hg : w.grownBy w' row) (hne : some b ≠ row) : MB w' b n g := by
  obtain ⟨D, hD, hf⟩ := h; exact ⟨D, hD.kept hg hne, hf⟩
theorem MI.below {w' : World} (h : MI w b n f) (hb : Below w.heap.size w w') : MI w' b n f :=
  h.kept (row := none) ⟨hb.os, hb.tape, hb.output, hb.size, fun i hi _ => hb.block i hi⟩ (by simp)
theorem MB.below {w' : World} (h : MB w b n g) (hb : Below w.heap.size w w') : MB w' b n g :=
  h.kept (row := none) ⟨hb.os, hb.tape, hb.output, hb.size, fun i hi _ => hb.block i hi⟩ (by simp)
theorem MI.type (h : MI w b n f) : ∃ es c, w.heap[b]? = some (.map es c) := by
  obtain ⟨D, ⟨es, c, hb, _⟩, _⟩ := h; exact ⟨es, c, hb⟩
theorem MB.type (h : MB w b n g) : ∃ es c, w.heap[b]? = some (.map es c) := by
  obtain ⟨D, ⟨es, c, hb, _⟩, _⟩ := h; exact ⟨es, c, hb⟩
theorem MI.look_ok (h : MI w b n f) (t : Int) (ht : I64 t) : (Instr.lookup 53 (.map (some b)) (.int .i64 t) true).run Try.prog w = .ok (.tuple #[.int .i64 ((f t).getD 0), .bool (f t).isSome]) w := by
  obtain ⟨D, hD, hf⟩ := h
  obtain ⟨kl, hk⟩ := keyOf_3 t ht
  obtain ⟨v, ps, hrun, hv⟩ := hD.look_ok law3 Try.underlying53 (zero3 w) (plainElem_int (H := Unit) Try.underlying3 (by decide)) hk
  obtain ⟨h1, h2⟩ := hf t kl hk
  obtain ⟨c, rfl, hc, _⟩ := plainElem_int_inv Try.underlying3 hv
  rw [h1] at hc
  simp at hc
  rw [hrun, h2, ← hc.1]
theorem MI.look (h : MI w b n f) (t : Int) (ht : I64 t) : (Instr.lookup 53 (.map (some b)) (.int .i64 t) false).run Try.prog w = .ok (.int .i64 ((f t).getD 0)) w := by
  obtain ⟨D, hD, hf⟩ := h
  obtain ⟨kl, hk⟩ := keyOf_3 t ht
  obtain ⟨c, hrun, hat, _⟩ := hD.lookup_int law3 Try.underlying53 Try.underlying3 (zero3 w) hk
  rw [(hf t kl hk).1] at hat
  simp at hat
  rw [hrun, hat]
theorem plainElem_bool_inv {v : Value} {z : DataW Unit × List MemPlace} (h : plainElem Try.prog 4 v = some z) : ∃ x, v = .bool x ∧ z = (.lit (.bool x), []) := by
  unfold plainElem at h
  rw [Try.underlying4] at h
  cases v <;> simp at h
  exact ⟨_, rfl, h.symm⟩
theorem MB.look (h : MB w b n g) (t : Int) (ht : I64 t) : (Instr.lookup 49 (.map (some b)) (.int .i64 t) false).run Try.prog w = .ok (.bool (g t)) w := by
  obtain ⟨D, hD, hf⟩ := h
  obtain ⟨kl, hk⟩ := keyOf_3 t ht
  obtain ⟨v, ps, hrun, hv⟩ := hD.lookup law3 Try.underlying49 (zero4 w) (plainElem_bool (H := Unit) Try.underlying4 false) hk
  obtain ⟨x, rfl, hx⟩ := plainElem_bool_inv hv
  rw [hf t kl hk] at hx
  simp at hx
  rw [hrun, hx.1]
theorem MI.store (h : MI w b n f) (hn : n < 1000000) (t v : Int) (ht : I64 t) (hv : I64 v) :
    ∃ w', (Instr.mapUpdate 53 (.map (some b)) (.int .i64 t) (.int .i64 v)).run Try.prog w = .ok () w' ∧ MI w' b (n + 1) (upd f t (some v)) ∧ w.grownBy w' (some b) := by
  obtain ⟨D, hD, hf⟩ := h
  obtain ⟨kl, hk⟩ := keyOf_3 t ht
  obtain ⟨w', hrun, h2, h3⟩ := hD.store (H := Unit) law3 Try.underlying53 (by unfold maxLen; omega) hk (plainElem_int Try.underlying3 (Go.WalkArith.wf_i64 (n := v) (by unfold I64 at hv; omega)))
  refine ⟨w', hrun, ⟨_, h2, fun s ks hs => ?_⟩, h3.grown⟩
  by_cases e : s = t
  · subst e
    have : ks = kl := by rw [hk] at hs; exact (Option.some.inj hs).symm
    subst this
    rw [atKey_put_same hD.isMap (law3.key hk), has_put_same hD.isMap (law3.key hk), upd_same]
    exact ⟨rfl, rfl⟩
  · have hne : ks ≠ kl := fun h => e (key3_inj (law3.inj (h ▸ hs) hk))
    rw [atKey_put_other hne, has_put_other hne, upd_ne _ _ _ e]
    exact hf s ks hs
theorem MB.store (h : MB w b n g) (hn : n < 1000000) (t : Int) (v : Bool) (ht : I64 t) :
    ∃ w', (Instr.mapUpdate 49 (.map (some b)) (.int .i64 t) (.bool v)).run Try.prog w = .ok () w' ∧ MB w' b (n + 1) (upd g t v) ∧ w.grownBy w' (some b) := by
  obtain ⟨D, hD, hf⟩ := h
  obtain ⟨kl, hk⟩ := keyOf_3 t ht
  obtain ⟨w', hrun, h2, h3⟩ := hD.store (H := Unit) law3 Try.underlying49 (by unfold maxLen; omega) hk (plainElem_bool Try.underlying4 v)
  refine ⟨w', hrun, ⟨_, h2, fun s ks hs => ?_⟩, h3.grown⟩
  by_cases e : s = t
  · subst e
    have : ks = kl := by rw [hk] at hs; exact (Option.some.inj hs).symm
    subst this
    rw [atKey_put_same hD.isMap (law3.key hk), upd_same]
  · have hne : ks ≠ kl := fun h => e (key3_inj (law3.inj (h ▸ hs) hk))
    rw [atKey_put_other hne, upd_ne _ _ _ e]
    exact hf s ks hs
end
section
variable {ops : Array Oper} {rest : List Oper} {o : Oper} {a : Act} {w : World} {Q : Exit → Act → World → Prop} {K : Act → World → Prop} {E : Prop} {b n : Nat} {f : Int → Option Int} {g : Int → Bool}
theorem look_wp {T : TypeId} {v key : Value} {c : Bool} (m x : Operand) (ho : o.op = Op.lookup T m x c) (hm : a.eval m = .map (some b)) (hx : a.eval x = key) (hrun : (Instr.lookup T (.map (some b)) key c).run Try.prog w = .ok v w)
    (h : K (a.put o.dst v) w) : Oper.wp Try.prog o a w K Q := by
  unfold Oper.wp
  simp [execOp, ho, hm, hx, hrun, Result.andThen]
  exact h
theorem store_wp {T : TypeId} {v key : Value} {w' : World} (m x y : Operand) (ho : o.op = Op.mapUpdate T m x y) (hm : a.eval m = .map (some b)) (hx : a.eval x = key) (hy : a.eval y = v) (hrun : (Instr.mapUpdate T (.map (some b)) key v).run Try.prog w = .ok () w')
    (h : K (a.put o.dst undef) w') : Oper.wp Try.prog o a w K Q := by
  unfold Oper.wp
  simp [execOp, ho, hm, hx, hy, hrun, Result.andThen]
  exact h
theorem wanted_none' (hg : o.guard = none) (t : Array Value) : Region.wanted o (yielded ops t) = true := by simp [Region.wanted, hg]
/-- v, ok := m[t] .. -/
theorem okI (m x : Operand) (ho : o.op = Op.lookup 53 m x true) (hw : Region.wanted o (yielded ops a.tmps) = true) (h : MI w b n f) (t : Int) (hm : a.eval m = .map (some b)) (hx : a.eval x = .int .i64 t) (ht : I64 t)
    (hK : wpList Try.prog ops Q rest (a.put o.dst (.tuple #[.int .i64 ((f t).getD 0), .bool (f t).isSome])) w) : wpList Try.prog ops Q (o :: rest) a w :=
  wpList_want hw fun _ hK' => look_wp m x ho hm hx (h.look_ok t ht) (hK' _ _ hK)
/-- .. m[t] .. -/
theorem lookI (m x : Operand) (ho : o.op = Op.lookup 53 m x false) (hw : Region.wanted o (yielded ops a.tmps) = true) (h : MI w b n f) (t : Int) (hm : a.eval m = .map (some b)) (hx : a.eval x = .int .i64 t) (ht : I64 t)
    (hK : wpList Try.prog ops Q rest (a.put o.dst (.int .i64 ((f t).getD 0))) w) : wpList Try.prog ops Q (o :: rest) a w :=
  wpList_want hw fun _ hK' => look_wp m x ho hm hx (h.look t ht) (hK' _ _ hK)
theorem lookB (m x : Operand) (ho : o.op = Op.lookup 49 m x false) (hw : Region.wanted o (yielded ops a.tmps) = true) (h : MB w b n g) (t : Int) (hm : a.eval m = .map (some b)) (hx : a.eval x = .int .i64 t) (ht : I64 t)
    (hK : wpList Try.prog ops Q rest (a.put o.dst (.bool (g t))) w) : wpList Try.prog ops Q (o :: rest) a w :=
  wpList_want hw fun _ hK' => look_wp m x ho hm hx (h.look t ht) (hK' _ _ hK)
/-- .. m[t] = v. -/
theorem storeI (m x y : Operand) (ho : o.op = Op.mapUpdate 53 m x y) (hw : Region.wanted o (yielded ops a.tmps) = true) (h : MI w b n f) (hn : n < 1000000) (t v : Int) (hm : a.eval m = .map (some b)) (hx : a.eval x = .int .i64 t) (hy : a.eval y = .int .i64 v)
    (ht : I64 t) (hv : I64 v)
    (hK : ∀ w', MI w' b (n + 1) (upd f t (some v)) → w.grownBy w' (some b) → wpList Try.prog ops Q rest (a.put o.dst undef) w') : wpList Try.prog ops Q (o :: rest) a w := by
  obtain ⟨w', hr, h2, h3⟩ := h.store hn t v ht hv
  exact wpList_want hw fun _ hK' => store_wp m x y ho hm hx hy hr (hK' _ _ (hK w' h2 h3))
theorem storeB (m x y : Operand) (ho : o.op = Op.mapUpdate 49 m x y) (hw : Region.wanted o (yielded ops a.tmps) = true) (h : MB w b n g) (hn : n < 1000000) (t : Int) (v : Bool) (hm : a.eval m = .map (some b)) (hx : a.eval x = .int .i64 t) (hy : a.eval y = .bool v)
    (ht : I64 t)
    (hK : ∀ w', MB w' b (n + 1) (upd g t v) → w.grownBy w' (some b) → wpList Try.prog ops Q rest (a.put o.dst undef) w') : wpList Try.prog ops Q (o :: rest) a w := by
  obtain ⟨w', hr, h2, h3⟩ := h.store hn t v ht
  exact wpList_want hw fun _ hK' => store_wp m x y ho hm hx hy hr (hK' _ _ (hK w' h2 h3))
end
end Go.Proofs.Ythhgochnlbiaaaa
