/- Maps of numbers, keyed by a number or by a struct: what they hold as a function; the look-up and the store at their operations. No function is walked. -/
import Derived.Test.YtahkgbhikkebhaaBase
import Derived.Maps.OwnSet
import Derived.DeepKeys4
namespace Go.Proofs.Ytahkgbhikkebhaa
open Go.ChangeShapes Go.WideShapes Go.ChangeAt Go.RowKit Go.Maps

theorem mp_laid : laidOutB Try.prog = true := by kernel_rfl
theorem row33 : (33 : TypeId) < Try.prog.types.size := of_decide_eq_true (by kernel_rfl)
theorem cells33 : Try.prog.cellsOf 33 = 2 := by kernel_rfl
theorem cells27 : Try.prog.cellsOf 27 = 1 := by kernel_rfl
theorem cells28 : Try.prog.cellsOf 28 = 1 := by kernel_rfl
theorem wide33 : (match Try.prog.underlying 33 with | some (.array _ _) | some (.struct _) => true | _ => false) = true := by rw [Try.underlying33]
theorem kt33 : Try.prog.keyType 33 = true := by kernel_rfl
theorem law33 : Keyed Try.prog 33 := Keyed.of_law (deep_law_laid mp_laid (m := 2) (by omega) row33 (by kernel_rfl) wide33)
theorem law27 : Keyed Try.prog 27 := int_keyed Try.underlying27
theorem zero28 (w : World) : (zeroValue 28).run Try.prog w = .ok (.int .u32 0) w := by kernel_rfl
/-- A terminal's key of number nought. -/
def keyS (t : Int) : Value := .agg #[.int .u16 t, .int .u32 0]
def keyI (t : Int) : Value := .int .u16 t
theorem keyOf_S (t : Int) (h0 : 0 ≤ t) (h1 : t < 65536) : ∃ kl, keyOf Try.prog 33 (keyS t) = some kl := by
  have w1 : (Lit.int .u16 t).wf = true := Go.WalkArith.wf_u16 (by omega)
  have w2 : (Lit.int .u32 0).wf = true := by decide
  have hf : (keyS t).formed Try.prog 33 = true := by simp [Value.formed, keyS, Try.underlying33, cells33]
  obtain ⟨m, hm⟩ : ∃ m, Try.prog.types.size = m + 1 := ⟨75, by kernel_rfl⟩
  have hl : ∃ ls, Try.prog.keyLits (Try.prog.types.size + 1) 33 (keyS t).cells.toList = some ls := by
    rw [hm]
    simp [Program.keyLits, keyS, Value.cells, Try.underlying33, cells33, cells27, cells28, Try.underlying27, Try.underlying28, w1, w2]
  obtain ⟨ls, hl⟩ := hl
  refine ⟨.string (keyBytes ls), ?_⟩
  unfold keyOf
  rw [Try.underlying33]
  simp only [kt33, hf, hl]
  rfl
theorem keyOf_I (t : Int) (h0 : 0 ≤ t) (h1 : t < 65536) : ∃ kl, keyOf Try.prog 27 (keyI t) = some kl :=
  ⟨_, keyOf_int_mk Try.underlying27 (Go.WalkArith.wf_u16 (by omega))⟩
theorem keyS_inj {a b : Int} (h : keyS a = keyS b) : a = b := by simp [keyS] at h; exact h
theorem keyI_inj {a b : Int} (h : keyI a = keyI b) : a = b := by simp [keyI] at h; exact h
/-- f, but v at t. -/
def upd (f : Int → Int) (t v : Int) : Int → Int := fun x => if x = t then v else f x
theorem upd_same (f : Int → Int) (t v : Int) : upd f t v t = v := by simp [upd]
theorem upd_upd (f : Int → Int) (t u v : Int) : upd (upd f t u) t v = upd f t v := by funext x; simp [upd]; split <;> rfl
/-- Block b is a map of at most n entries that holds f at the keys. -/
def MR (K : TypeId) (key : Int → Value) (w : World) (b n : Nat) (f : Int → Int) : Prop :=
  ∃ D : DataW Unit, w.ownsMap Try.prog K (plainElem Try.prog 28) b n D ∧ ∀ t kl, keyOf Try.prog K (key t) = some kl → D.atKey kl (.lit (.int .u32 0)) = .lit (.int .u32 (f t))
section
variable {K T : TypeId} {key : Int → Value} {w : World} {b n : Nat} {f : Int → Int}
theorem MR.made (K : TypeId) (key : Int → Value) (w : World) : MR K key (w.alloc (.map #[] 0)) w.heap.size 0 (fun _ => 0) :=
  ⟨_, World.ownsMap_made _ _ _ _, fun t kl _ => by simp [DataW.atKey]⟩
theorem MR.lt (h : MR K key w b n f) : b < w.heap.size := by obtain ⟨D, hD, _⟩ := h; exact hD.lt
theorem MR.kept {w' : World} {row : Option Nat} (h : MR K key w b n f) (hg : w.grownBy w' row) (hne : some b ≠ row) : MR K key w' b n f := by
  obtain ⟨D, hD, hf⟩ := h; exact ⟨D, hD.kept hg hne, hf⟩
theorem MR.below {w' : World} (h : MR K key w b n f) (hb : Below w.heap.size w w') : MR K key w' b n f :=
  h.kept (row := none) ⟨hb.os, hb.tape, hb.output, hb.size, fun i hi _ => hb.block i hi⟩ (by simp)
theorem MR.drew (h : MR K key w b n f) : MR K key w.drew b n f := h
theorem MR.mono (h : MR K key w b n f) {n' : Nat} (hn : n ≤ n') : MR K key w b n' f := by
  obtain ⟨D, hD, hf⟩ := h; exact ⟨D, hD.mono hn, hf⟩
theorem MR.type (h : MR K key w b n f) : ∃ es c, w.heap[b]? = some (.map es c) := by
  obtain ⟨D, ⟨es, c, hb, _⟩, _⟩ := h; exact ⟨es, c, hb⟩
theorem MR.look (h : MR K key w b n f) (law : Keyed Try.prog K) (hT : Try.prog.underlying T = some (.map K 28)) (t : Int) (hk : ∃ kl, keyOf Try.prog K (key t) = some kl) :
    (Instr.lookup T (.map (some b)) (key t) false).run Try.prog w = .ok (.int .u32 (f t)) w := by
  obtain ⟨D, hD, hf⟩ := h
  obtain ⟨kl, hk⟩ := hk
  obtain ⟨c, hrun, hat, _⟩ := hD.lookup_int law hT Try.underlying28 (zero28 w) hk
  rw [hf t kl hk] at hat
  simp at hat
  rw [hrun, hat]
theorem MR.store (h : MR K key w b n f) (law : Keyed Try.prog K) (inj : ∀ {a b}, key a = key b → a = b) (hT : Try.prog.underlying T = some (.map K 28)) (hn : n < 1000000) (t v : Int) (hk : ∃ kl, keyOf Try.prog K (key t) = some kl) (h0 : 0 ≤ v) (h1 : v < 4294967296) :
    ∃ w', (Instr.mapUpdate T (.map (some b)) (key t) (.int .u32 v)).run Try.prog w = .ok () w' ∧ MR K key w' b (n + 1) (upd f t v) ∧ w.grownBy w' (some b) := by
  obtain ⟨D, hD, hf⟩ := h
  obtain ⟨kl, hk⟩ := hk
  obtain ⟨w', hrun, h2, h3⟩ := hD.store (H := Unit) law hT (by unfold maxLen; omega) hk (plainElem_int Try.underlying28 (Go.WalkArith.wf_u32 (n := v) (by omega)))
  refine ⟨w', hrun, ⟨_, h2, fun s ks hs => ?_⟩, h3.grown⟩
  by_cases e : s = t
  · subst e
    have : ks = kl := by rw [hk] at hs; exact (Option.some.inj hs).symm
    subst this
    rw [atKey_put_same hD.isMap (law.key hk), upd_same]
  · have hne : ks ≠ kl := fun h => e (inj (law.inj (h ▸ hs) hk))
    rw [atKey_put_other hne, hf s ks hs]
    simp [upd, e]
end
section
variable {ops : Array Oper} {rest : List Oper} {o : Oper} {a : Act} {w : World} {Q : Exit → Act → World → Prop} {K : Act → World → Prop} {E : Prop} {b n : Nat} {f : Int → Int}
theorem look_wp {T : TypeId} {v key : Value} (m x : Operand) (ho : o.op = Op.lookup T m x false) (hm : a.eval m = .map (some b)) (hx : a.eval x = key) (hrun : (Instr.lookup T (.map (some b)) key false).run Try.prog w = .ok v w)
    (h : K (a.put o.dst v) w) : Oper.wp Try.prog o a w K Q := by
  unfold Oper.wp
  simp [execOp, ho, hm, hx, hrun, Result.andThen]
  exact h
theorem store_wp {T : TypeId} {v key : Value} {w' : World} (m x y : Operand) (ho : o.op = Op.mapUpdate T m x y) (hm : a.eval m = .map (some b)) (hx : a.eval x = key) (hy : a.eval y = v) (hrun : (Instr.mapUpdate T (.map (some b)) key v).run Try.prog w = .ok () w')
    (h : K (a.put o.dst undef) w') : Oper.wp Try.prog o a w K Q := by
  unfold Oper.wp
  simp [execOp, ho, hm, hx, hy, hrun, Result.andThen]
  exact h
theorem wanted_none' (hg : o.guard = none) (t : Array Value) : Region.wanted o (yielded ops t) = true := by simp [Region.wanted, hg]
/-- last[t] of the document's book, in a plain region .. -/
theorem lookI (hg : o.guard = none) (m x : Operand) (ho : o.op = Op.lookup 26 m x false) (h : MR 27 keyI w b n f) (t : Int) (hm : a.eval m = .map (some b)) (hx : a.eval x = .int .u16 t) (h0 : 0 ≤ t) (h1 : t < 65536)
    (hK : wpList Try.prog ops Q rest (a.put o.dst (.int .u32 (f t))) w) : wpList Try.prog ops Q (o :: rest) a w :=
  wpList_plain hg fun _ hK' => look_wp m x ho hm hx (h.look law27 Try.underlying26 t (keyOf_I t h0 h1)) (hK' _ _ hK)
theorem storeI (hg : o.guard = none) (m x y : Operand) (ho : o.op = Op.mapUpdate 26 m x y) (h : MR 27 keyI w b n f) (hn : n < 1000000) (t v : Int) (hm : a.eval m = .map (some b)) (hx : a.eval x = .int .u16 t) (hy : a.eval y = .int .u32 v)
    (h0 : 0 ≤ t) (h1 : t < 65536) (v0 : 0 ≤ v) (v1 : v < 4294967296)
    (hK : ∀ w', MR 27 keyI w' b (n + 1) (upd f t v) → w.grownBy w' (some b) → wpList Try.prog ops Q rest (a.put o.dst undef) w') : wpList Try.prog ops Q (o :: rest) a w := by
  obtain ⟨w', hr, h2, h3⟩ := h.store law27 (fun h => keyI_inj h) Try.underlying26 hn t v (keyOf_I t h0 h1) v0 v1
  exact wpList_plain hg fun _ hK' => store_wp m x y ho hm hx hy hr (hK' _ _ (hK w' h2 h3))
/-- .. and in a drawn one. -/
theorem lookI_step (hg : o.guard = none) (m x : Operand) (ho : o.op = Op.lookup 26 m x false) (h : MR 27 keyI w b n f) (t : Int) (hm : a.eval m = .map (some b)) (hx : a.eval x = .int .u16 t) (h0 : 0 ≤ t) (h1 : t < 65536)
    (hK : K (a.put o.dst (.int .u32 (f t))) w) : if Region.wanted o (yielded ops a.tmps) = true then Oper.wp Try.prog o a w K Q else E := by
  rw [if_pos (wanted_none' hg _)]
  exact look_wp m x ho hm hx (h.look law27 Try.underlying26 t (keyOf_I t h0 h1)) hK
theorem lookS_step (hg : o.guard = none) (m x : Operand) (ho : o.op = Op.lookup 46 m x false) (h : MR 33 keyS w b n f) (t : Int) (hm : a.eval m = .map (some b)) (hx : a.eval x = .agg #[.int .u16 t, .int .u32 0]) (h0 : 0 ≤ t) (h1 : t < 65536)
    (hK : K (a.put o.dst (.int .u32 (f t))) w) : if Region.wanted o (yielded ops a.tmps) = true then Oper.wp Try.prog o a w K Q else E := by
  rw [if_pos (wanted_none' hg _)]
  exact look_wp m x ho hm hx (h.look law33 Try.underlying46 t (keyOf_S t h0 h1)) hK
theorem storeS_step (hg : o.guard = none) (m x y : Operand) (ho : o.op = Op.mapUpdate 46 m x y) (h : MR 33 keyS w b n f) (hn : n < 1000000) (t v : Int) (hm : a.eval m = .map (some b)) (hx : a.eval x = .agg #[.int .u16 t, .int .u32 0]) (hy : a.eval y = .int .u32 v)
    (h0 : 0 ≤ t) (h1 : t < 65536) (v0 : 0 ≤ v) (v1 : v < 4294967296)
    (hK : ∀ w', MR 33 keyS w' b (n + 1) (upd f t v) → w.grownBy w' (some b) → K (a.put o.dst undef) w') : if Region.wanted o (yielded ops a.tmps) = true then Oper.wp Try.prog o a w K Q else E := by
  rw [if_pos (wanted_none' hg _)]
  obtain ⟨w', hr, h2, h3⟩ := h.store law33 (fun h => keyS_inj h) Try.underlying46 hn t v (keyOf_S t h0 h1) v0 v1
  exact store_wp m x y ho hm hx hy hr (hK w' h2 h3)
end
end Go.Proofs.Ytahkgbhikkebhaa
