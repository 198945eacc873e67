/- A new disk, by the program and by the document's, and a clone. -/
import Derived.Test.YthhgnflkplpklabDReopen
namespace Go.Proofs.Ythhgnflkplpklab.Dsc
set_option maxRecDepth 20000
open Go.ChangeShapes Go.WideShapes Go.ChangeAt Go.RowKit

def newD (n : Nat) : Dk := ⟨List.replicate n zer, [], 0, false⟩
theorem newD_ok {n : Nat} (h : n ≤ 4096) : (newD n).Ok := ⟨fun s hs => by rw [List.eq_of_mem_replicate hs]; exact zer_sec, fun x hx => (by cases hx), ⟨Int.le_refl 0, by show (0 : Int) ≤ 9223372036854775807; decide⟩, by simpa [newD] using h⟩
theorem info58 : (Try.prog.info? 70).map (fun i => (i.zero, i.size, i.bytes)) = some (some (.agg (by8 zer).toArray), 64, 64) := by kernel_rfl
theorem info49 : (Try.prog.info? 69).map (fun i => (i.zero, i.size, i.bytes)) = some (some (.agg (by8 zer).toArray), 64, 64) := by kernel_rfl
theorem zer_get {i : Nat} (h : i < 64) : (by8 zer)[i]? = some (.int .u8 0) := by
  rw [by8, zer, List.map_replicate, List.getElem?_replicate, if_pos h]
theorem made_zero (n : Nat) : (madeCells (by8 zer).toArray (n * 64)).toList = flatS (List.replicate n zer) := by
  have hl : (flatS (List.replicate n zer)).length = n * 64 := by
    rw [flatS, flat_len by8 _ (c := 64) (fun x hx => by rw [List.eq_of_mem_replicate hx]; decide)]; simp
  have key : ∀ j, j < n * 64 → (flatS (List.replicate n zer))[j]? = some (.int .u8 0) := by
    intro j hj
    have hi : j / 64 < n := by omega
    have := flat_get by8 (List.replicate n zer) (c := 64) (fun x hx => by rw [List.eq_of_mem_replicate hx]; decide) (j / 64) zer (by simp [hi]) (j % 64) (by omega)
    rw [show j / 64 * 64 + j % 64 = j by omega] at this
    rw [flatS, this]
    exact zer_get (by omega)
  apply List.ext_getElem?
  intro j
  by_cases hj : j < n * 64
  · rw [key j hj]
    have hz : (by8 zer)[j % 64]? = some (.int .u8 0) := zer_get (by omega)
    have hl64 : zer.length = 64 := by decide
    have hget : (by8 zer).toArray[j % (by8 zer).toArray.size]! = .int .u8 0 := by
      rw [List.size_toArray, List.length_map, hl64, getElem!_def]
      simp only [List.getElem?_toArray, hz]
    unfold madeCells
    simp only [Array.toList_map, List.getElem?_map, Array.getElem?_toList]
    rw [Array.getElem?_range, if_pos hj, Option.map_some, hget]
  · rw [List.getElem?_eq_none (by omega : (flatS (List.replicate n zer)).length ≤ j)]
    simp [madeCells, hj]
/-- Sectors of noughts are made. -/
theorem mk_list {ops : Array Oper} {rest : List Oper} {op : Oper} {a : Act} {w : World} {Q : Exit → Act → World → Prop} (t e : TypeId) (hu : Try.prog.underlying t = some (.slice e))
    (hi : (Try.prog.info? e).map (fun i => (i.zero, i.size, i.bytes)) = some (some (.agg (by8 zer).toArray), 64, 64)) (hgd : op.guard = none) (x y : Operand) (ho : op.op = .makeSlice t x y) (n : Nat) (hn : n ≤ 4096)
    (hx : a.eval x = .int .i64 (n : Int)) (hy : a.eval y = .int .i64 (n : Int))
    (h : ∀ w', w'.ownsRow 0 e 64 (.slice (some ⟨w.heap.size, 0, none⟩) n n) n (flatS (List.replicate n zer)) → w.grownBy w' none → w'.heap.size = w.heap.size + 1 → wpList Try.prog ops Q rest (a.put op.dst (.slice (some ⟨w.heap.size, 0, none⟩) n n)) w') : wpList Try.prog ops Q (op :: rest) a w :=
  wpList_plain hgd fun K hK => by
    obtain ⟨i0, hi0, hz0, hz1, hz2⟩ := info_parts hi
    have hr := run_make (P := Try.prog) w t e i0 _ hu hi0 hz0 .i64 .i64 (n : Int) (n : Int) (by omega) (Int.le_refl _) (by rw [hz2]; omega) (by omega)
    simp only [Int.toNat_natCast] at hr
    unfold Oper.wp execOp
    simp only [ho, hx, hy, Sem.run_bind, hr, Result.andThen_ok]
    refine hK _ _ (h _ ?_ (World.grownBy_alloc w _ none) (by simp))
    have := World.ownsRow_lit (base := 0) (e := e) (size := 64) w (madeCells (by8 zer).toArray (n * 64)) n (Nat.zero_le _) (by unfold maxLen; omega) (size_madeCells _ _)
    rw [made_zero] at this
    rw [hz1]; exact this
theorem new_dsk {t : Ty} {w w2 : World} {m : Nat} (s2 : w2.heap.size = w.heap.size + 1) (o2 : w2.ownsRow 0 t.E 64 (.slice (some ⟨w.heap.size, 0, none⟩) m m) m (flatS (List.replicate m zer))) (hm : m ≤ 4096) :
    Dsk t (w2.alloc (.cells #[.slice (some ⟨w.heap.size, 0, none⟩) m m, .slice none 0 0, .int .i64 0, .bool false] t.T)) (w.heap.size + 1)
      (fun k => w.heap.size ≤ k ∧ k < (w2.alloc (.cells #[.slice (some ⟨w.heap.size, 0, none⟩) m m, .slice none 0 0, .int .i64 0, .bool false] t.T)).heap.size) (newD m) := by
  refine ⟨.slice (some ⟨w.heap.size, 0, none⟩) m m, .slice none 0 0, ⟨?_, ?_, World.ownsRow_nil _ _ _ _, newD_ok hm⟩, ?_, fun k h => h.2⟩
  · rw [← s2]; exact heap_alloc_last w2 _
  · have := World.ownsRow.alloc o2 (.cells #[.slice (some ⟨w.heap.size, 0, none⟩) m m, .slice none 0 0, .int .i64 0, .bool false] t.T)
    simpa [newD] using this
  · intro k hk
    rcases hk with rfl | hk | hk
    · simp; omega
    · cases hk; simp; omega
    · cases hk
section
variable {ops : Array Oper} {rest : List Oper} {op : Oper} {a : Act} {w : World} {Q : Exit → Act → World → Prop}
theorem mx_list {m n : Int} (hgd : op.guard = none) (x y : Operand) (ho : op.op = .call { callee := .builtin .max, args := #[x, y], argTypes := #[3, 3] }) (hx : a.eval x = .int .i64 m) (hy : a.eval y = .int .i64 n)
    (h : wpList Try.prog ops Q rest (a.put op.dst (.int .i64 (max m n))) w) : wpList Try.prog ops Q (op :: rest) a w :=
  wpList_plain hgd fun K hK => by
    have := run_mx a.eval op x y m n ho hx hy w
    unfold Oper.wp
    rw [this]
    exact hK _ _ h
theorem mn_list {m n : Int} (hgd : op.guard = none) (x y : Operand) (ho : op.op = .call { callee := .builtin .min, args := #[x, y], argTypes := #[3, 3] }) (hx : a.eval x = .int .i64 m) (hy : a.eval y = .int .i64 n)
    (h : wpList Try.prog ops Q rest (a.put op.dst (.int .i64 (min m n))) w) : wpList Try.prog ops Q (op :: rest) a w :=
  wpList_plain hgd fun K hK => by
    have := run_mn a.eval op x y m n ho hx hy w
    unfold Oper.wp
    rw [this]
    exact hK _ _ h
end
theorem new_any (n : Int) (w : World) : Calls Try.prog 5 #[.int .i64 n] w fun e w' => ∃ p, e = .returned (.pointer (some ⟨p, 0, none⟩)) ∧ Below w.heap.size w w' ∧ Dsk tc w' p (fun k => w.heap.size ≤ k ∧ k < w'.heap.size) (newD (min (max n 0) 4096).toNat) := by
  obtain ⟨m, hm⟩ : ∃ m : Nat, (min (max n 0) 4096).toNat = m := ⟨_, rfl⟩
  have em : min (max n 0) 4096 = (m : Int) := by omega
  have hm2 : m ≤ 4096 := by omega
  rw [hm]
  have EM := hid em
  clear em hm
  go_enter Try.func5, Try.ntmps5
  go_wp2_with (first | (go_at_call 14; refine (within_any _ _ _).mono ?_; rintro e w1 ⟨rfl, rfl⟩; rw [EM.out]) | (refine mk_list 47 70 Try.underlying47 info58 rfl _ _ rfl m hm2 rfl rfl ?_; intro w2 o2 g2 s2; have O2 := hid o2; clear o2; have G2 := hid g2; clear g2))
  go_ret
  have hb : Below w.heap.size w w2 := (Below.refl _ _).grown G2.out (Nat.le_refl _) (fun k e => by cases e)
  refine ⟨_, rfl, hb.alloc (by omega) _, ?_⟩
  exact new_dsk s2 O2.out hm2
/-- A row is appended to nothing: the same in new memory. -/
theorem apc_list {ops : Array Oper} {rest : List Oper} {op : Oper} {a : Act} {w : World} {Q : Exit → Act → World → Prop} (t e : TypeId) {z : Value} {size bytes : Nat} (hu : Try.prog.underlying t = some (.slice e))
    (hi : (Try.prog.info? e).map (fun i => (i.zero, i.size, i.bytes)) = some (some z, size, bytes)) (hzs : z.cells.size = size) (hsz : 0 < size) (hby : bytes ≤ 72) (hgd : op.guard = none) (x y : Operand)
    (ho : op.op = .call { callee := .builtin .append, args := #[x, y], argTypes := #[t, t] }) {v : Value} {n : Nat} {xs : List Value} (hx : a.eval x = .slice none 0 0) (hy : a.eval y = v)
    (hown : w.ownsRow 0 e size v n xs) (h1 : ∀ u ∈ xs, u.oneCell' = true) (hn : n ≤ 1000000)
    (h : ∀ v' w', w'.ownsRow 0 e size v' n xs → Below w.heap.size w w' → (∀ k, v'.ownBlock = some k → w.heap.size ≤ k) → wpList Try.prog ops Q rest (a.put op.dst v') w') : wpList Try.prog ops Q (op :: rest) a w := by
  obtain ⟨i0, hi0, hz0, hz1, hz2⟩ := info_parts hi
  have key : ∃ v' w', (Builtin.append_ #[t, t] op.type #[.slice none 0 0, v]).run Try.prog w = .ok v' w' ∧ w'.ownsRow 0 e size v' n xs ∧ Below w.heap.size w w' ∧ ∀ k, v'.ownBlock = some k → w.heap.size ≤ k := by
    rcases hown.2 with ⟨rfl, rfl⟩ | ⟨g, cap, cur, rfl, hg⟩
    · exact ⟨_, _, run_append_owned_none (base := 0) (size := size) w t op.type e i0 hu hi0 _ 0 [] (World.ownsRow_nil _ _ _ _), hown, Below.refl _ _, fun k e => by cases e⟩
    · have hl := hown.1
      obtain ⟨v', w', hr, h2, h3, _, h5⟩ := run_append_own_at (P := Try.prog) w 0 t op.type e i0 z size bytes hu hi0 hz0 hz1 hz2 hzs hsz (.slice none 0 0) 0 [] (World.ownsRow_nil _ _ _ _) ⟨g, 0, none⟩ n cap xs hl (World.ownsRow.cells hown rfl) h1
        (by unfold maxLen; omega) (by have := Nat.mul_le_mul (show 0 + n ≤ 1000000 by omega) hby; omega) (Nat.zero_le _)
      rw [Nat.zero_add, List.nil_append] at h2
      refine ⟨v', w', hr, h2, (Below.refl _ _).grown h3 (Nat.le_refl _) (fun k e => by cases e), fun k e => ?_⟩
      rcases h5 with h5 | h5
      · rw [h5] at e; cases e
      · rw [h5] at e; cases e; exact Nat.le_refl _
  obtain ⟨v', w', hr, h2, h3, h4⟩ := key
  refine wpList_plain hgd fun K hK => ?_
  unfold Oper.wp execOp
  simp only [ho, resolve, invoke, builtin, Sem.run_bind, Sem.run_pure, Result.andThen_ok, List.map_toArray, List.map_cons, List.map_nil, hx, hy, hr]
  exact hK _ _ (h v' w' h2 h3 h4)
theorem oneS (l : List (List Int)) : ∀ u ∈ flatS l, u.oneCell' = true := by
  intro u hu
  obtain ⟨s, _, hs⟩ := List.mem_flatMap.1 hu
  exact one8 s u hs
theorem oneWs (l : List (Nat × List Int)) : ∀ u ∈ flatW l, u.oneCell' = true := by
  intro u hu
  obtain ⟨s, _, hs⟩ := List.mem_flatMap.1 hu
  exact oneW s u hs
theorem Dat.off {t : Ty} {w w2 : World} {p : Nat} {sv wv : Value} {d : Dk} (h : Dat t w p sv wv d) (hb : Below w.heap.size w w2) (i : Nat) (u : Value) : Dat t (w2.setCell ⟨w.heap.size, i, none⟩ u) p sv wv d :=
  h.kept fun k hk => by
    have := h.lt k hk
    rw [Below.heap_setCell _ _ _ _ (by show k ≠ w.heap.size; omega)]; exact hb.block k this
end Go.Proofs.Ythhgnflkplpklab.Dsc
