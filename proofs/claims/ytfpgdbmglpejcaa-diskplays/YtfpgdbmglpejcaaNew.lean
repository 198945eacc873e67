/- A new disk, by the program and by the document's, and a clone. -/
import Derived.Test.YtfpgdbmglpejcaaReopen
namespace Go.Proofs.Ytfpgdbmglpejcaa
open Go.ChangeShapes Go.WideShapes Go.ChangeAt Go.RowKit

def newD (n : Nat) : Dk := ⟨List.replicate n zer, [], 0, false⟩
theorem newD_ok {n : Nat} (h : n ≤ 4096) : (newD n).Ok := ⟨fun s hs => by rw [List.eq_of_mem_replicate hs]; exact zer_sec, fun x hx => (by cases hx), ⟨Int.le_refl 0, by show (0 : Int) ≤ 9223372036854775807; decide⟩, by simpa [newD] using h⟩
theorem info58 : (Try.prog.info? 58).map (fun i => (i.zero, i.size, i.bytes)) = some (some (.agg (by8 zer).toArray), 64, 64) := by kernel_rfl
theorem info49 : (Try.prog.info? 49).map (fun i => (i.zero, i.size, i.bytes)) = some (some (.agg (by8 zer).toArray), 64, 64) := by kernel_rfl
theorem zer_get {i : Nat} (h : i < 64) : (by8 zer)[i]? = some (.int .u8 0) := by
  rw [by8, zer, List.map_replicate, List.getElem?_replicate, if_pos h]
theorem made_zero (n : Nat) : (madeCells (by8 zer).toArray (n * 64)).toList = flatS (List.replicate n zer) := by
  have hl : (flatS (List.replicate n zer)).length = n * 64 := by
    rw [flatS, flat_len by8 _ (c := 64) (fun x hx => by rw [List.eq_of_mem_replicate hx]; decide)]; simp
  have key : ∀ j, j < n * 64 → (flatS (List.replicate n zer))[j]? = some (.int .u8 0) := by
    intro j hj
    have hi : j / 64 < n := by omega
    have := flat_get by8 (List.replicate n zer) (c := 64) (fun x hx => by rw [List.eq_of_mem_replicate hx]; decide) (j / 64) zer (by simp [hi]) (j % 64) (by omega)
    rw [show j / 64 * 64 + j % 64 = j by omega] at this
    rw [flatS, this]
    exact zer_get (by omega)
  apply List.ext_getElem?
  intro j
  by_cases hj : j < n * 64
  · rw [key j hj]
    have hz : (by8 zer)[j % 64]? = some (.int .u8 0) := zer_get (by omega)
    have hl64 : zer.length = 64 := by decide
    have hget : (by8 zer).toArray[j % (by8 zer).toArray.size]! = .int .u8 0 := by
      rw [List.size_toArray, List.length_map, hl64, getElem!_def]
      simp only [List.getElem?_toArray, hz]
    unfold madeCells
    simp only [Array.toList_map, List.getElem?_map, Array.getElem?_toList]
    rw [Array.getElem?_range, if_pos hj, Option.map_some, hget]
  · rw [List.getElem?_eq_none (by omega : (flatS (List.replicate n zer)).length ≤ j)]
    simp [madeCells, hj]
/-- Sectors of noughts are made. -/
theorem mk_list {ops : Array Oper} {rest : List Oper} {op : Oper} {a : Act} {w : World} {Q : Exit → Act → World → Prop} (t e : TypeId) (hu : Try.prog.underlying t = some (.slice e))
    (hi : (Try.prog.info? e).map (fun i => (i.zero, i.size, i.bytes)) = some (some (.agg (by8 zer).toArray), 64, 64)) (hgd : op.guard = none) (x y : Operand) (ho : op.op = .makeSlice t x y) (n : Nat) (hn : n ≤ 4096)
    (hx : a.eval x = .int .i64 (n : Int)) (hy : a.eval y = .int .i64 (n : Int))
    (h : ∀ w', w'.ownsRow 0 e 64 (.slice (some ⟨w.heap.size, 0, none⟩) n n) n (flatS (List.replicate n zer)) → w.grownBy w' none → w'.heap.size = w.heap.size + 1 → wpList Try.prog ops Q rest (a.put op.dst (.slice (some ⟨w.heap.size, 0, none⟩) n n)) w') : wpList Try.prog ops Q (op :: rest) a w :=
  wpList_plain hgd fun K hK => by
    obtain ⟨i0, hi0, hz0, hz1, hz2⟩ := info_parts hi
    have hr := run_make (P := Try.prog) w t e i0 _ hu hi0 hz0 .i64 .i64 (n : Int) (n : Int) (by omega) (Int.le_refl _) (by rw [hz2]; omega) (by omega)
    simp only [Int.toNat_natCast] at hr
    unfold Oper.wp execOp
    simp only [ho, hx, hy, Sem.run_bind, hr, Result.andThen_ok]
    refine hK _ _ (h _ ?_ (World.grownBy_alloc w _ none) (by simp))
    have := World.ownsRow_lit (base := 0) (e := e) (size := 64) w (madeCells (by8 zer).toArray (n * 64)) n (Nat.zero_le _) (by unfold maxLen; omega) (size_madeCells _ _)
    rw [made_zero] at this
    rw [hz1]; exact this
theorem new_dsk {t : Ty} {w w2 : World} {m : Nat} (s2 : w2.heap.size = w.heap.size + 1) (o2 : w2.ownsRow 0 t.E 64 (.slice (some ⟨w.heap.size, 0, none⟩) m m) m (flatS (List.replicate m zer))) (hm : m ≤ 4096) :
    Dsk t (w2.alloc (.cells #[.slice (some ⟨w.heap.size, 0, none⟩) m m, .slice none 0 0, .int .i64 0, .bool false] t.T)) (w.heap.size + 1)
      (fun k => w.heap.size ≤ k ∧ k < (w2.alloc (.cells #[.slice (some ⟨w.heap.size, 0, none⟩) m m, .slice none 0 0, .int .i64 0, .bool false] t.T)).heap.size) (newD m) := by
  refine ⟨.slice (some ⟨w.heap.size, 0, none⟩) m m, .slice none 0 0, ⟨?_, ?_, World.ownsRow_nil _ _ _ _, newD_ok hm⟩, ?_, fun k h => h.2⟩
  · rw [← s2]; exact heap_alloc_last w2 _
  · have := World.ownsRow.alloc o2 (.cells #[.slice (some ⟨w.heap.size, 0, none⟩) m m, .slice none 0 0, .int .i64 0, .bool false] t.T)
    simpa [newD] using this
  · intro k hk
    rcases hk with rfl | hk | hk
    · simp; omega
    · cases hk; simp; omega
    · cases hk
section
variable {ops : Array Oper} {rest : List Oper} {op : Oper} {a : Act} {w : World} {Q : Exit → Act → World → Prop}
theorem mx_list {m n : Int} (hgd : op.guard = none) (x y : Operand) (ho : op.op = .call { callee := .builtin .max, args := #[x, y], argTypes := #[3, 3] }) (hx : a.eval x = .int .i64 m) (hy : a.eval y = .int .i64 n)
    (h : wpList Try.prog ops Q rest (a.put op.dst (.int .i64 (max m n))) w) : wpList Try.prog ops Q (op :: rest) a w :=
  wpList_plain hgd fun K hK => by
    have := run_mx a.eval op x y m n ho hx hy w
    unfold Oper.wp
    rw [this]
    exact hK _ _ h
theorem mn_list {m n : Int} (hgd : op.guard = none) (x y : Operand) (ho : op.op = .call { callee := .builtin .min, args := #[x, y], argTypes := #[3, 3] }) (hx : a.eval x = .int .i64 m) (hy : a.eval y = .int .i64 n)
    (h : wpList Try.prog ops Q rest (a.put op.dst (.int .i64 (min m n))) w) : wpList Try.prog ops Q (op :: rest) a w :=
  wpList_plain hgd fun K hK => by
    have := run_mn a.eval op x y m n ho hx hy w
    unfold Oper.wp
    rw [this]
    exact hK _ _ h
end
theorem new_any (n : Int) (w : World) : Calls Try.prog 8 #[.int .i64 n] w fun e w' => ∃ p, e = .returned (.pointer (some ⟨p, 0, none⟩)) ∧ Below w.heap.size w w' ∧ Dsk tc w' p (fun k => w.heap.size ≤ k ∧ k < w'.heap.size) (newD (min (max n 0) 4096).toNat) := by
  obtain ⟨m, hm⟩ : ∃ m : Nat, (min (max n 0) 4096).toNat = m := ⟨_, rfl⟩
  have em : min (max n 0) 4096 = (m : Int) := by omega
  have hm2 : m ≤ 4096 := by omega
  rw [hm]
  have EM := hid em
  clear em hm
  go_enter Try.func8, Try.ntmps8
  go_wp2_with (first | (go_at_call 23; refine (within_any _ _ _).mono ?_; rintro e w1 ⟨rfl, rfl⟩; rw [EM.out]) | (refine mk_list 53 58 Try.underlying53 info58 rfl _ _ rfl m hm2 rfl rfl ?_; intro w2 o2 g2 s2; have O2 := hid o2; clear o2; have G2 := hid g2; clear g2))
  go_ret
  have hb : Below w.heap.size w w2 := (Below.refl _ _).grown G2.out (Nat.le_refl _) (fun k e => by cases e)
  refine ⟨_, rfl, hb.alloc (by omega) _, ?_⟩
  exact new_dsk s2 O2.out hm2
theorem newR_any (n : Int) (w : World) : Calls Try.prog 9 #[.int .i64 n] w fun e w' => ∃ p, e = .returned (.pointer (some ⟨p, 0, none⟩)) ∧ Below w.heap.size w w' ∧ Dsk tr w' p (fun k => w.heap.size ≤ k ∧ k < w'.heap.size) (newD (min (max n 0) 4096).toNat) := by
  obtain ⟨m, hm⟩ : ∃ m : Nat, (min (max n 0) 4096).toNat = m := ⟨_, rfl⟩
  have em : min (max n 0) 4096 = (m : Int) := by omega
  have hm2 : m ≤ 4096 := by omega
  rw [hm]
  have EM := hid em
  clear em hm
  go_enter Try.func9, Try.ntmps9
  go_wp2_with (first | refine mx_list rfl _ _ rfl rfl rfl ?_ | (refine mn_list rfl _ _ rfl rfl rfl ?_; rw [EM.out]) | (refine mk_list 43 49 Try.underlying43 info49 rfl _ _ rfl m hm2 rfl rfl ?_; intro w2 o2 g2 s2; have O2 := hid o2; clear o2; have G2 := hid g2; clear g2))
  go_ret
  have hb : Below w.heap.size w w2 := (Below.refl _ _).grown G2.out (Nat.le_refl _) (fun k e => by cases e)
  refine ⟨_, rfl, hb.alloc (by omega) _, ?_⟩
  exact new_dsk s2 O2.out hm2

/-- A row is appended to nothing: the same in new memory. -/
theorem apc_list {ops : Array Oper} {rest : List Oper} {op : Oper} {a : Act} {w : World} {Q : Exit → Act → World → Prop} (t e : TypeId) {z : Value} {size bytes : Nat} (hu : Try.prog.underlying t = some (.slice e))
    (hi : (Try.prog.info? e).map (fun i => (i.zero, i.size, i.bytes)) = some (some z, size, bytes)) (hzs : z.cells.size = size) (hsz : 0 < size) (hby : bytes ≤ 72) (hgd : op.guard = none) (x y : Operand)
    (ho : op.op = .call { callee := .builtin .append, args := #[x, y], argTypes := #[t, t] }) {v : Value} {n : Nat} {xs : List Value} (hx : a.eval x = .slice none 0 0) (hy : a.eval y = v)
    (hown : w.ownsRow 0 e size v n xs) (h1 : ∀ u ∈ xs, u.oneCell' = true) (hn : n ≤ 1000000)
    (h : ∀ v' w', w'.ownsRow 0 e size v' n xs → Below w.heap.size w w' → (∀ k, v'.ownBlock = some k → w.heap.size ≤ k) → wpList Try.prog ops Q rest (a.put op.dst v') w') : wpList Try.prog ops Q (op :: rest) a w := by
  obtain ⟨i0, hi0, hz0, hz1, hz2⟩ := info_parts hi
  have key : ∃ v' w', (Builtin.append_ #[t, t] op.type #[.slice none 0 0, v]).run Try.prog w = .ok v' w' ∧ w'.ownsRow 0 e size v' n xs ∧ Below w.heap.size w w' ∧ ∀ k, v'.ownBlock = some k → w.heap.size ≤ k := by
    rcases hown.2 with ⟨rfl, rfl⟩ | ⟨g, cap, cur, rfl, hg⟩
    · exact ⟨_, _, run_append_owned_none (base := 0) (size := size) w t op.type e i0 hu hi0 _ 0 [] (World.ownsRow_nil _ _ _ _), hown, Below.refl _ _, fun k e => by cases e⟩
    · have hl := hown.1
      obtain ⟨v', w', hr, h2, h3, _, h5⟩ := run_append_own_at (P := Try.prog) w 0 t op.type e i0 z size bytes hu hi0 hz0 hz1 hz2 hzs hsz (.slice none 0 0) 0 [] (World.ownsRow_nil _ _ _ _) ⟨g, 0, none⟩ n cap xs hl (World.ownsRow.cells hown rfl) h1
        (by unfold maxLen; omega) (by have := Nat.mul_le_mul (show 0 + n ≤ 1000000 by omega) hby; omega) (Nat.zero_le _)
      rw [Nat.zero_add, List.nil_append] at h2
      refine ⟨v', w', hr, h2, (Below.refl _ _).grown h3 (Nat.le_refl _) (fun k e => by cases e), fun k e => ?_⟩
      rcases h5 with h5 | h5
      · rw [h5] at e; cases e
      · rw [h5] at e; cases e; exact Nat.le_refl _
  obtain ⟨v', w', hr, h2, h3, h4⟩ := key
  refine wpList_plain hgd fun K hK => ?_
  unfold Oper.wp execOp
  simp only [ho, resolve, invoke, builtin, Sem.run_bind, Sem.run_pure, Result.andThen_ok, List.map_toArray, List.map_cons, List.map_nil, hx, hy, hr]
  exact hK _ _ (h v' w' h2 h3 h4)
theorem oneS (l : List (List Int)) : ∀ u ∈ flatS l, u.oneCell' = true := by
  intro u hu
  obtain ⟨s, _, hs⟩ := List.mem_flatMap.1 hu
  exact one8 s u hs
theorem oneWs (l : List (Nat × List Int)) : ∀ u ∈ flatW l, u.oneCell' = true := by
  intro u hu
  obtain ⟨s, _, hs⟩ := List.mem_flatMap.1 hu
  exact oneW s u hs
theorem Dat.off {t : Ty} {w w2 : World} {p : Nat} {sv wv : Value} {d : Dk} (h : Dat t w p sv wv d) (hb : Below w.heap.size w w2) (i : Nat) (u : Value) : Dat t (w2.setCell ⟨w.heap.size, i, none⟩ u) p sv wv d :=
  h.kept fun k hk => by
    have := h.lt k hk
    rw [Below.heap_setCell _ _ _ _ (by show k ≠ w.heap.size; omega)]; exact hb.block k this
theorem clone_dsk {w w2 w4 : World} {d : Dk} {sv2 sv0 wv0 wv4 : Value} (ok : d.Ok) (hb2 : Below w.heap.size w w2) (o2 : w2.ownsRow 0 58 64 sv2 d.secs.length (flatS d.secs)) (k2 : ∀ k, sv2.ownBlock = some k → w.heap.size ≤ k)
    (hb4 : Below (w2.setCell ⟨w.heap.size, 0, none⟩ sv2).heap.size (w2.setCell ⟨w.heap.size, 0, none⟩ sv2) w4)
    (h4 : w4.heap[w.heap.size]? = some (.cells ((#[sv0, wv0, .int .i64 d.left, .bool d.down] : Array Value).setIfInBounds 0 sv2) 57 (0, 0))) (o4 : w4.ownsRow 0 60 65 wv4 d.waits.length (flatW d.waits))
    (k4 : ∀ k, wv4.ownBlock = some k → (w2.setCell ⟨w.heap.size, 0, none⟩ sv2).heap.size ≤ k) :
    Dsk tc (w4.setCell ⟨w.heap.size, 1, none⟩ wv4) w.heap.size (fun k => w.heap.size ≤ k ∧ k < (w4.setCell ⟨w.heap.size, 1, none⟩ wv4).heap.size) d := by
  have ne2 : ∀ k, sv2.ownBlock = some k → k ≠ w.heap.size := by
    intro k e ek
    rcases o2.2 with ⟨rfl, _⟩ | ⟨g, cap, cur, rfl, _, hc, _⟩
    · cases e
    · cases e
      subst ek
      have hlt : w.heap.size < (w2.setCell ⟨w.heap.size, 0, none⟩ (.slice (some ⟨w.heap.size, 0, none⟩) d.secs.length cap)).heap.size := by
        simp [World.setCell]; exact (Array.getElem?_eq_some_iff.1 hc).1
      rw [hb4.block _ hlt, heap_setCell_at hc] at h4
      simp at h4
  have hsz : w2.heap.size ≤ w4.heap.size := by have := hb4.size; simpa [World.setCell] using this
  have o2' : (w4.setCell ⟨w.heap.size, 1, none⟩ wv4).ownsRow 0 58 64 sv2 d.secs.length (flatS d.secs) := own_kept o2 fun k e => by
    have hk := (World.ownsRow.lt o2 k e).2
    rw [Below.heap_setCell _ _ _ _ (ne2 k e), hb4.block k (by simpa [World.setCell] using hk), Below.heap_setCell _ _ _ _ (ne2 k e)]
  have ne4 : ∀ k, wv4.ownBlock = some k → k ≠ w.heap.size := by
    intro k e ek
    have := k4 k e
    have := (Array.getElem?_eq_some_iff.1 h4).1
    rcases o4.2 with ⟨rfl, _⟩ | ⟨g, cap, cur, rfl, _, hc, _⟩
    · cases e
    · cases e; subst ek; rw [h4] at hc; simp at hc
  refine ⟨sv2, wv4, ⟨?_, o2', own_kept o4 fun k e => Below.heap_setCell _ _ _ _ (ne4 k e), ok⟩, ?_, fun k h => h.2⟩
  · rw [heap_setCell_at h4]; rfl
  · intro k hk
    have hs4 : (w4.setCell ⟨w.heap.size, 1, none⟩ wv4).heap.size = w4.heap.size := by simp [World.setCell]
    rw [hs4]
    rcases hk with rfl | hk | hk
    · exact ⟨Nat.le_refl _, (Array.getElem?_eq_some_iff.1 h4).1⟩
    · exact ⟨k2 k hk, Nat.lt_of_lt_of_le (World.ownsRow.lt o2 k hk).2 hsz⟩
    · refine ⟨?_, (World.ownsRow.lt o4 k hk).2⟩
      have h1 := k4 k hk
      have h2 := hb2.size
      simp [World.setCell] at h1; omega
set_option maxHeartbeats 1000000 in
theorem clone_any (p : Nat) (F : Nat → Prop) (d : Dk) (w : World) (h : Dsk tc w p F d) (hmany : d.waits.length ≤ 1000000) :
    Calls Try.prog 22 #[.pointer (some ⟨p, 0, none⟩)] w fun e w' => ∃ q, e = .returned (.pointer (some ⟨q, 0, none⟩)) ∧ Below w.heap.size w w' ∧ Dsk tc w' q (fun k => w.heap.size ≤ k ∧ k < w'.heap.size) d := by
  obtain ⟨sv, wv, hD, hF, hlt⟩ := h
  obtain ⟨sa, scap, rfl, hmaxs⟩ := sv_form hD.secs
  obtain ⟨wa, wcap, rfl, hmaxw⟩ := sv_form hD.waits
  have c0 := hD.c0
  have c1 := hD.c1
  have c2 := hD.c2
  have c3 := hD.c3
  have hp := hD.plt
  have hsz := hD.ok.size
  have HD := hid hD
  clear hD hF hlt
  go_enter Try.func22, Try.ntmps22
  go_wp2_with (first | (at_builtin; refine apc_list 53 58 Try.underlying53 info58 (by simp [Value.cells, zer]) (by decide) (by decide) rfl _ _ rfl rfl rfl (HD.out.below ((Below.refl _ _).alloc (Nat.le_refl _) _)).secs (oneS _) (by omega) ?_; intro sv2 w2 o2 b2 k2; obtain ⟨sa2, scap2, rfl, hmaxs2⟩ := sv_form o2; have hB2 := (b2.block w.heap.size (by simp)).trans (heap_alloc_last w _); have HB2 := hid (sq ((Below.refl _ _).alloc (Nat.le_refl _) _) b2); have x0 := cell_of_head hB2 0; have y0 := froz_of_head hB2 0; simp only [List.getElem?_toArray, List.getElem?_cons_zero] at x0; have p1 := (HD.out.below HB2.out).c1; have HH2 := hid hB2; have O2 := hid o2; have K2 : Hid (∀ k, (Value.slice sa2 d.secs.length scap2).ownBlock = some k → w.heap.size ≤ k) := fun k e => Nat.le_trans (by simp) (k2 k e); clear hB2 o2 k2 b2) | (at_builtin; refine apc_list 55 60 Try.underlying55 info60 (by simp [Value.cells, encW, zer]) (by decide) (by decide) rfl _ _ rfl rfl rfl (HD.out.off HB2.out 0 _).waits (oneWs _) hmany ?_; intro wv4 w4 o4 b4 k4; obtain ⟨wa4, wcap4, rfl, hmaxw4⟩ := sv_form o4; have hB4 := (b4.block w.heap.size (by simp [World.setCell]; have := HB2.out.size; have := (Array.getElem?_eq_some_iff.1 HH2.out).1; omega)).trans (heap_setCell_at HH2.out 0 _); have x4 := cell_of_head hB4 1; have y4 := froz_of_head hB4 1; simp only [List.setIfInBounds_toArray, List.set_cons_zero, List.getElem?_toArray, List.getElem?_cons_succ, List.getElem?_cons_zero] at x4; have HH4 := hid hB4; have O4 := hid o4; have K4 := hid k4; have HB4 := hid b4; clear hB4 o4 k4 b4))
  go_ret
  refine ⟨_, rfl, ?_, ?_⟩
  · exact ((HB2.out.setCell (Nat.le_refl _) _).trans (HB4.out.mono (by simp [World.setCell]; exact HB2.out.size))).setCell (Nat.le_refl _) _
  · exact clone_dsk HD.out.ok HB2.out O2.out K2.out HB4.out HH4.out O4.out K4.out
end Go.Proofs.Ytfpgdbmglpejcaa
