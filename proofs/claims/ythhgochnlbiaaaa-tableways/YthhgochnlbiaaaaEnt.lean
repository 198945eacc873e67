/- An assignment of two entries of maps of bools at once: an entry is sought, or laid with a zero; then written. No function is walked. -/
import Derived.Test.YthhgochnlbiaaaaMp
import Derived.Test.YthhgochnlbiaaaaWay
import Derived.Test.YthhgochnlbiaaaaSts
import Derived.WideKeyEntry
namespace Go.Proofs.Ythhgochnlbiaaaa
open Go.ChangeShapes Go.WideShapes Go.ChangeAt Go.RowKit Go.Maps
open Go.MapKept Go.ChangeMaps
open Go.WideElems (Fit findIdx_born findIdx_arr modify_last set_self)

/-- The entry of a key that is there, and its number. -/
theorem entry_store {H : Type} {P : Program} {k e t : TypeId} {R : Value → Option (DataW H × List MemPlace)} {w : World} {b : Nat} {es : Array MapEntry} {clock : Nat} (K : Keyed P k) (ht : P.underlying t = some (.map k e)) {z : Value} (hz : ∀ u : World, (zeroValue e).run P u = .ok z u)
    (hb : w.heap[b]? = some (.map es clock)) (F : Fit P k R es clock) {key : Value} {kl : Lit} (hkey : keyOf P k key = some kl) (val : Value) :
    ∃ (v0 : Value) (st : Nat) (es1 : Array MapEntry) (c1 : Nat) (w2 : World), (Instr.mapEntry t (.map (some b)) key).run P w = .ok (.tuple #[v0, goInt st]) (setBlock w b (.map es1 c1)) ∧
      (Instr.entryStore t (.map (some b)) (goInt st) val).run P (setBlock w b (.map es1 c1)) = .ok () w2 ∧ (Instr.mapUpdate t (.map (some b)) key val).run P w = .ok () w2 := by
  obtain ⟨s1, s2, _⟩ := F.stamped
  rcases K.find w hkey es.toList F.keys with ⟨h1, h2⟩ | ⟨j, e0, h1, h2, h3⟩
  · have hw2 : (setBlock w b (.map (es.push ⟨key, z, clock⟩) (clock + 1))).heap[b]? = some (.map (es.push ⟨key, z, clock⟩) (clock + 1)) := heap_setBlock_same hb _
    have hidx : (es.push ⟨key, z, clock⟩).findIdx? (fun e => ((e.born : Nat) : Int) == ((clock : Nat) : Int)) = some es.size := by
      rw [findIdx_arr]
      refine findIdx_born (l := (es.push ⟨key, z, clock⟩).toList) (j := es.size) (e0 := ⟨key, z, clock⟩) ?_ (by simp)
      simp only [Array.toList_push, List.map_append, List.map_cons, List.map_nil]
      refine List.nodup_append.2 ⟨s2, by simp, fun a ha c hc e1 => ?_⟩
      simp only [List.mem_singleton] at hc
      obtain ⟨x, hx, rfl⟩ := List.mem_map.1 ha
      have := s1 x hx
      omega
    have hmod : (es.push ⟨key, z, clock⟩).modify es.size (fun e => { e with val := val }) = es.push ⟨key, val, clock⟩ := by
      apply Array.ext'
      rw [Array.toList_modify, Array.toList_push, Array.toList_push, ← Array.length_toList, modify_last]
    refine ⟨z, clock, es.push ⟨key, z, clock⟩, clock + 1, setBlock w b (.map (es.push ⟨key, val, clock⟩) (clock + 1)), ?_, ?_, ?_⟩
    · simp [Instr.mapEntry, run_underlying ht, MapKept.run_getObj_map hb, K.check w false hkey, h1, hz, MapKept.run_setObj_map _ hb, Result.andThen, setBlock]
    · generalize hW : setBlock w b (.map (es.push ⟨key, z, clock⟩) (clock + 1)) = W2 at hw2 ⊢
      simp [Instr.entryStore, MapKept.run_getObj_map hw2, asInt, asIntOf, goInt, hidx, hmod, MapKept.run_setObj_map _ hw2, Result.andThen]
      subst hW; simp [setBlock]
    · simp [Instr.mapUpdate, run_underlying ht, MapKept.run_getObj_map hb, K.check w false hkey, h1, MapKept.run_setObj_map _ hb, Result.andThen, setBlock]
  · have hj : es[j]? = some e0 := by simpa using h2
    have hsame : es.modify j (fun e => { e with key := key }) = es := by
      apply Array.ext'
      rw [Array.toList_modify, modify_eq_set _ _ _ _ h2]
      have : ({ e0 with key := key } : MapEntry) = e0 := by rw [← h3]
      rw [this]
      exact set_self _ _ _ h2
    have hw2 : (setBlock w b (.map es clock)).heap[b]? = some (.map es clock) := heap_setBlock_same hb _
    have hidx : es.findIdx? (fun e => ((e.born : Nat) : Int) == ((e0.born : Nat) : Int)) = some j := by
      rw [findIdx_arr]
      exact findIdx_born s2 h2
    have hmod : es.modify j (fun e => { e with val := val }) = es.modify j (fun e' => { e' with key := key, val := val }) := by
      apply Array.ext'
      rw [Array.toList_modify, Array.toList_modify, modify_eq_set _ _ _ _ h2, modify_eq_set _ _ _ _ h2, ← h3]
    refine ⟨e0.val, e0.born, es, clock, setBlock w b (.map (es.modify j (fun e' => { e' with key := key, val := val })) clock), ?_, ?_, ?_⟩
    · simp [Instr.mapEntry, run_underlying ht, MapKept.run_getObj_map hb, K.check w false hkey, h1, hj, h3, K.stays w hkey, hsame, MapKept.run_setObj_map _ hb, Result.andThen, setBlock]
    · generalize hW : setBlock w b (.map es clock) = W2 at hw2 ⊢
      simp [Instr.entryStore, MapKept.run_getObj_map hw2, asInt, asIntOf, goInt, hidx, hmod, MapKept.run_setObj_map _ hw2, Result.andThen]
      subst hW; simp [setBlock]
    · simp [Instr.mapUpdate, run_underlying ht, MapKept.run_getObj_map hb, K.check w false hkey, h1, hj, h3, K.stays w hkey, MapKept.run_setObj_map _ hb, Result.andThen, setBlock]
section
variable {w : World} {b n : Nat} {g : Int → Bool}
/-- The two halves of a store. -/
theorem MB.entry (h : MB w b n g) (hn : n < 1000000) (t : Int) (v : Bool) (ht : I64 t) :
    ∃ v0 st w1 w2, (Instr.mapEntry 49 (.map (some b)) (.int .i64 t)).run Try.prog w = .ok (.tuple #[v0, goInt st]) w1 ∧ w.grownBy w1 (some b) ∧
      (Instr.entryStore 49 (.map (some b)) (goInt st) (.bool v)).run Try.prog w1 = .ok () w2 ∧ MB w2 b (n + 1) (upd g t v) ∧ w.grownBy w2 (some b) := by
  obtain ⟨w2, hrun, h2, h3⟩ := h.store hn t v ht
  obtain ⟨D, ⟨es, clock, hb, F, _⟩, _⟩ := h
  obtain ⟨kl, hk⟩ := keyOf_3 t ht
  obtain ⟨v0, st, es1, c1, w2', e1, e2, e3⟩ := entry_store law3 Try.underlying49 zero4 hb F hk (.bool v)
  rw [hrun] at e3
  cases e3
  exact ⟨v0, st, _, _, e1, (World.mapTurned.grown ⟨es, clock, es1, c1, hb, rfl⟩), e2, h2, h3⟩
end
section
variable {ops : Array Oper} {rest : List Oper} {o : Oper} {a : Act} {w : World} {Q : Exit → Act → World → Prop} {K : Act → World → Prop} {b n : Nat} {g : Int → Bool}
theorem entw {key v : Value} {w1 : World} (m x : Operand) (ho : o.op = Op.mapEntry 49 m x) (hm : a.eval m = .map (some b)) (hx : a.eval x = key) (hrun : (Instr.mapEntry 49 (.map (some b)) key).run Try.prog w = .ok v w1)
    (h : K (a.put o.dst v) w1) : Oper.wp Try.prog o a w K Q := by
  unfold Oper.wp
  simp [execOp, ho, hm, hx, hrun, Result.andThen]
  exact h
theorem estw {s v : Value} {w1 : World} (m x y : Operand) (ho : o.op = Op.entryStore 49 m x y) (hm : a.eval m = .map (some b)) (hx : a.eval x = s) (hy : a.eval y = v) (hrun : (Instr.entryStore 49 (.map (some b)) s v).run Try.prog w = .ok () w1)
    (h : K (a.put o.dst undef) w1) : Oper.wp Try.prog o a w K Q := by
  unfold Oper.wp
  simp [execOp, ho, hm, hx, hy, hrun, Result.andThen]
  exact h
/-- map[int]bool{t: true}: its one entry. -/
theorem insB (m x y : Operand) (ho : o.op = Op.insert 49 m x y) (hw : Region.wanted o (yielded ops a.tmps) = true) (h : MB w b n g) (hn : n < 1000000) (t : Int) (v : Bool) (hm : a.eval m = .map (some b)) (hx : a.eval x = .int .i64 t) (hy : a.eval y = .bool v)
    (ht : I64 t)
    (hK : ∀ w', MB w' b (n + 1) (upd g t v) → w.grownBy w' (some b) → wpList Try.prog ops Q rest (a.put o.dst undef) w') : wpList Try.prog ops Q (o :: rest) a w := by
  obtain ⟨w', hr, h2, h3⟩ := h.store hn t v ht
  refine wpList_want hw fun _ hK' => ?_
  unfold Oper.wp
  simp [execOp, ho, hm, hx, hy, hr, Result.andThen]
  exact hK' _ _ (hK w' h2 h3)
theorem mkB (ho : o.op = Op.makeMap 49 none) (hw : Region.wanted o (yielded ops a.tmps) = true)
    (hK : ∀ w' q, q = w.heap.size → MB w' q 0 (fun _ => false) → Below w.heap.size w w' → wpList Try.prog ops Q rest (a.put o.dst (.map (some q))) w') : wpList Try.prog ops Q (o :: rest) a w := by
  refine wpList_want hw fun _ hK' => ?_
  unfold Oper.wp
  simp [execOp, ho, run_makeMap, Result.andThen]
  exact hK' _ _ (hK _ _ rfl (MB.made w) (bel1 w _))
end
theorem upd_ext (f : Int → Bool) (t : Int) : upd f t true = fun x => if x = t then true else f x := rfl
/-- At the start. -/
theorem ways0 (l : List St) (t : Int) : upd (fun _ => false) t true = waysW l t 0 := by
  funext x
  unfold upd waysW
  by_cases h : x = t
  · simp [h]
  · simp [h]
section
variable {now f : Int → Bool} {s : St}
theorem step_no (h : now s.id = false) : stepW now f s = f := by unfold stepW; rw [if_neg (by rw [h]; decide)]
theorem step_one (h : now s.id = true) (h2 : twoB s.kind = false) : stepW now f s = upd (upd f s.id true) s.next true := by
  funext x
  unfold stepW upd
  rw [if_pos h, h2]
  by_cases e1 : x = s.next
  · simp [e1]
  · by_cases e2 : x = s.id
    · simp [e2]
    · simp [e1, e2]
theorem step_two (h : now s.id = true) (h2 : twoB s.kind = true) : stepW now f s = upd (upd (upd f s.id true) s.next true) s.other true := by
  funext x
  unfold stepW upd
  rw [if_pos h, h2]
  by_cases e3 : x = s.other
  · simp [e3]
  · by_cases e1 : x = s.next
    · simp [e1]
    · by_cases e2 : x = s.id
      · simp [e2]
      · simp [e1, e2, e3]
end
theorem foldW_snoc (now : Int → Bool) (l : List St) {k : Nat} (h : k < l.length) (f : Int → Bool) : (l.take (k + 1)).foldl (stepW now) f = stepW now ((l.take k).foldl (stepW now) f) (sAt l k) := by
  have hk : l[k]? = some (sAt l k) := by unfold sAt; rw [List.getElem?_eq_getElem h, List.getD_eq_getElem?_getD, List.getElem?_eq_getElem h]; rfl
  rw [List.take_add_one, hk]
  simp
end Go.Proofs.Ythhgochnlbiaaaa
