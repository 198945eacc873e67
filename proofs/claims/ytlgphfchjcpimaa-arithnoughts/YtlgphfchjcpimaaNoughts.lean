/- For every v, zeros and first the function ArithNoughts answers true: noughts ahead say nothing, and a ninth byte is too many. -/
import Derived.Test.YtlgphfchjcpimaaApp
namespace Go.Proofs.Ytlgphfchjcpimaa
open Go.ChangeShapes Go.WideShapes Go.ChangeAt Go.RowKit

/-- An operation of a drawn region that yields its value may be taken first; its slot written out. -/
theorem tk_yes {P : Program} {ops : Array Oper} {Q : Exit → Act → World → Prop} {md : Region.Mode} {S : World → Prop} {oi : Oper} {v : Value} {fuel : Nat} {listed : Array Bool} {a : Act} {w : World} (i : Nat) (d : Option Tmp)
    (hi : ops[i]? = some oi) (hd : oi.dst = d) (hs : Region.noSelect ops = true) (hf : Region.free md ops listed i = true) (hr : (Region.ready md ops listed).contains i = true)
    (hQ : ∀ c a w, Q (.panic c) (a.put d v) w → Q (.panic c) a w) (hw : Region.wanted oi (yielded ops a.tmps) = true) (hv : ∀ w, S w → (execOp a.eval oi).run P w = .ok (.value v) w) (hS : S w)
    (h : wpAnyH P md ops Q S fuel (listed.setIfInBounds i true) (a.put d v) w) : wpAnyH P md ops Q S (fuel + 1) listed a w := by
  subst hd; exact wpAnyH_take hi hs hf hr hQ (Or.inl ⟨hw, hv⟩) hS h

/-- One that its guard passes over. -/
theorem tk_no {P : Program} {ops : Array Oper} {Q : Exit → Act → World → Prop} {md : Region.Mode} {S : World → Prop} {oi : Oper} {fuel : Nat} {listed : Array Bool} {a : Act} {w : World} (i : Nat) (d : Option Tmp)
    (hi : ops[i]? = some oi) (hd : oi.dst = d) (hs : Region.noSelect ops = true) (hf : Region.free md ops listed i = true) (hr : (Region.ready md ops listed).contains i = true)
    (hQ : ∀ c a w, Q (.panic c) (a.put d undef) w → Q (.panic c) a w) (hw : Region.wanted oi (yielded ops a.tmps) = false) (hS : S w)
    (h : wpAnyH P md ops Q S fuel (listed.setIfInBounds i true) (a.put d undef) w) : wpAnyH P md ops Q S (fuel + 1) listed a w := by
  subst hd; exact wpAnyH_take hi hs hf hr hQ (Or.inr ⟨hw, rfl⟩) hS h

theorem row_tail {w : World} {g : Nat} {l1 l2 : List Int} {n : Nat} (hn : l1.length = n) (h : RowAt w (some ⟨g, 0, none⟩) (l1 ++ l2)) : RowAt w (some ⟨g, n, none⟩) l2 := by
  subst hn
  rcases h with h | ⟨b, off, he, hc⟩
  · exact .inl (List.append_eq_nil_iff.1 h).2
  · simp only [Option.some.injEq, Addr.mk.injEq, and_true] at he
    obtain ⟨rfl, rfl⟩ := he
    refine .inr ⟨_, _, rfl, fun i hi => ?_⟩
    have := hc (l1.length + i) (by simp; omega)
    rw [Nat.zero_add] at this
    rw [this]
    simp [List.getElem?_append_right]

theorem row_below {w w' : World} {B g off : Nat} {l : List Int} (hb : Below B w w') (hg : g < B) (h : RowAt w (some ⟨g, off, none⟩) l) : RowAt w' (some ⟨g, off, none⟩) l := by
  rcases h with h | ⟨b, o, he, hc⟩
  · exact .inl h
  · simp only [Option.some.injEq, Addr.mk.injEq, and_true] at he
    obtain ⟨rfl, rfl⟩ := he
    exact .inr ⟨_, _, rfl, fun i hi => by rw [hb.cell (p := ⟨g, off + i, none⟩) hg]; exact hc i hi⟩

theorem run_str_at (w : World) (ao : Option Addr) (zs : List Int) (len cap : Nat) (hl : zs.length = len) (hr : RowAt w ao zs) :
    (convert 36 9 (.slice ao len cap)).run Try.prog w = .ok (.string (strOfNums zs)) w := by
  subst hl; exact run_str w ao zs cap hr

theorem heap_pair (w : World) (o1 o2 : Obj) : ((w.alloc o1).alloc o2).heap[w.heap.size]? = some o1 ∧ ((w.alloc o1).alloc o2).heap[w.heap.size + 1]? = some o2 := by
  constructor
  · show ((w.heap.push o1).push o2)[w.heap.size]? = _
    rw [Array.getElem?_push_lt (by simp)]; simp
  · show ((w.heap.push o1).push o2)[w.heap.size + 1]? = _
    rw [show w.heap.size + 1 = (w.heap.push o1).size by simp, Array.getElem?_push_size]

theorem heap_two (w : World) (o1 o2 : Obj) : ((w.alloc o1).alloc o2).drew.heap[w.heap.size]? = some o1 ∧ ((w.alloc o1).alloc o2).drew.heap[w.heap.size + 1]? = some o2 := by
  constructor
  · show ((w.heap.push o1).push o2)[w.heap.size]? = _
    rw [Array.getElem?_push_lt (by simp)]; simp
  · show ((w.heap.push o1).push o2)[w.heap.size + 1]? = _
    rw [show w.heap.size + 1 = (w.heap.push o1).size by simp, Array.getElem?_push_size]

set_option maxRecDepth 100000 in
set_option maxHeartbeats 4000000 in
/-- The walk, where the first byte is nought. -/
theorem noughts_yes (a0 a1 a2 : Int) (f0 : (a2 == 0) = true) (f1 : numB (a2 :: bytesL a0 8) = true) (f2 : numZ (a2 :: bytesL a0 8) = a0) (b0 : 0 ≤ a0) (b1 : a0 ≤ 18446744073709551615) (b2 : 0 ≤ a1) (_b3 : a1 ≤ 255) (b4 : 0 ≤ a2) (b5 : a2 ≤ 255) (w : World) :
    Calls Try.prog 7 #[.int .u64 a0, .int .u8 a1, .int .u8 a2] w fun e w' => e = .returned (.bool true) ∧ Below w.heap.size w w' := by
  obtain ⟨z, hz⟩ : ∃ z : Nat, a1 % 60 = (z : Int) := ⟨(a1 % 60).toNat, by omega⟩
  have z1 : z < 60 := by omega
  have hz' : a1.tmod 60 = (z : Int) := by rw [Int.tmod_eq_emod_of_nonneg b2]; exact hz
  have hmk := run_make_row' (P := Try.prog) 36 5 (.int .u8 0) 1 Try.underlying36 Try.info5 rfl .u8 .u8 z (by omega) (by omega)
  rw [← fill_none a0 z] at hmk
  have hlen1 : (fillL a0 z 0 ++ bytesL a0 8).length = z + 8 := by rw [List.length_append, fill_length _ _ _ (by omega), bytesL_length]
  have hbyt1 : Byt (fillL a0 z 0 ++ bytesL a0 8) := by
    intro x hx
    simp [fillL, bytesL] at hx
    rcases hx with ⟨_, rfl⟩ | hx
    · omega
    · exact bytesL_byt a0 8 x (by simpa [bytesL] using hx)
  have hbyt2 : Byt ([a2] ++ bytesL a0 8) := by
    intro x hx
    rcases List.mem_append.1 hx with hx | hx
    · simp at hx; omega
    · exact bytesL_byt a0 8 x hx
  have m1 : num (fillL a0 z 0 ++ bytesL a0 8) = a0 := by
    rw [show fillL a0 z 0 = List.replicate z 0 by simp [fillL, bytesL], num_zeros, num_bytesL, show (2 : Int) ^ (8 * 8) = 18446744073709551616 from rfl]; omega
  have n1B : numB (fillL a0 z 0 ++ bytesL a0 8) = true := by unfold numB; rw [m1]; simp; omega
  have n1Z : numZ (fillL a0 z 0 ++ bytesL a0 8) = a0 := by unfold numZ; rw [n1B, m1]; rfl
  clear m1
  go_enter Try.func7, Try.ntmps7
  go_wp2_with (go_at_call 8; refine (known_any _).mono ?_; rintro e w1 ⟨rfl, hb1⟩)
  go_region_held3 (fun _ => True) (trivial)
    (first
      | (go_at_call 19; refine (bytes_fit a0 8 _ (by decide) (by decide) b0 (by omega)).mono ?_; rintro e w' ⟨rfl, rfl⟩)
      | (refine app_step (by rfl) _ _ (by rfl) w1.heap.size w1.heap.size z (w1.heap.size + 1) 8 (fillL a0 z 0) (bytesL a0 8) (by rfl) (by rfl) (heap_two _ _ _).1 (heap_two _ _ _).2 (fill_length _ _ _ (by omega)) (bytesL_length _ _) (by omega) (by simp; omega) (by omega) (by omega) ?_; intro g cap w2 hr2 hb2 hg2 hcap hcap')
      | (refine app_step (by rfl) _ _ (by rfl) w1.heap.size (w1.heap.size + 1) z w1.heap.size 8 (fillL a0 z 0) (bytesL a0 8) (by rfl) (by rfl) (heap_two _ _ _).2 (heap_two _ _ _).1 (fill_length _ _ _ (by omega)) (bytesL_length _ _) (by omega) (by simp; omega) (by omega) (by omega) ?_; intro g cap w2 hr2 hb2 hg2 hcap hcap'))
  all_goals
     have hB2 : Below w.heap.size w w2 := (((hb1.alloc hb1.size _).alloc (by have := hb1.size; simp; omega) _).drew).trans (hb2.mono hb1.size)
     clear hb2 hmk
     have q1 : ((w2.alloc (.cells #[.int .u8 a2] 5)).alloc (.cells (cellsOf (bytesL a0 8)) 5)).heap[w2.heap.size]? = some (.cells (cellsOf [a2]) 5 (0, 0)) := (heap_pair w2 _ _).1
     have q2 : ((w2.alloc (.cells #[.int .u8 a2] 5)).alloc (.cells (cellsOf (bytesL a0 8)) 5)).heap[w2.heap.size + 1]? = some (.cells (cellsOf (bytesL a0 8)) 5 (0, 0)) := (heap_pair w2 _ _).2
     go_wp2_with (first
       | (go_at_call 21; refine (number_at _ _ _ ([a2] ++ bytesL a0 8) w3 (by simp [bytesL_length]) hr3 hbyt2 (by decide)).mono ?_; rintro e w' ⟨rfl, rfl⟩)
       | (go_at_call 21; refine (number_at _ _ _ (fillL a0 z 0 ++ bytesL a0 8) w2 hlen1 hr2 hbyt1 (by unfold maxLen; omega)).mono ?_; rintro e w' ⟨rfl, rfl⟩)
       | (go_at_call 19; refine (bytes_fit a0 8 _ (by decide) (by decide) b0 (by omega)).mono ?_; rintro e w' ⟨rfl, rfl⟩)
       | (at_builtin; refine app_list (w := (w2.alloc (.cells #[.int .u8 a2] 5)).alloc (.cells (cellsOf (bytesL a0 8)) 5)) (by rfl) _ _ (by rfl) w2.heap.size w2.heap.size 1 (w2.heap.size + 1) 8 [a2] (bytesL a0 8) (by rfl) (by rfl) q1 q2 rfl (bytesL_length _ _) (by omega) (by simp; omega) (by omega) (by omega) ?_; intro g3 cap3 w3 hr3 hb3 hg3 hcap3 hcap3'))
     have i1 : (0 : Int) ≤ (z : Int) := by omega
     have i2 : (z : Int) ≤ (z : Int) + 8 := by omega
     have i3 : (z : Int) + 8 ≤ (cap : Int) := by omega
     have i4 : (z : Int) ≤ (cap : Int) := by omega
     have i5 : IntKind.i64.wrap ((z : Int) + 8) = (z : Int) + 8 := by rw [IntKind.wrap_i64]; omega
     have i6 : IntKind.i64.wrap ((z : Int) + 8 - 8) = (z : Int) := by rw [IntKind.wrap_i64]; omega
     have i8 : ¬ (cap = z) := by omega
     have i7 : IntKind.i64.wrap (z : Int) = (z : Int) := by rw [IntKind.wrap_i64]; omega
     have hB3 : Below w.heap.size w w3 := ((hB2.alloc hB2.size _).alloc (by have := hB2.size; simp; omega) _).trans (hb3.mono hB2.size)
     have r3 : RowAt w3 (some ⟨g, z, none⟩) (bytesL a0 8) := row_tail (fill_length _ _ _ (by omega)) (row_below (((Below.refl _ _).alloc (Nat.le_refl _) _).alloc (by simp) _ |>.trans hb3) hg2 hr2)
     have cvA : ∀ c, (convert 36 9 (.slice (some ⟨w3.heap.size, 0, none⟩) 8 c)).run Try.prog (w3.alloc (.cells (cellsOf (bytesL a0 8)) 5)).drew = .ok (.string (strOfNums (bytesL a0 8))) (w3.alloc (.cells (cellsOf (bytesL a0 8)) 5)).drew := fun c => run_str_at _ _ _ 8 c (bytesL_length _ _) (show RowAt (w3.alloc _).drew _ _ from row_new w3 _)
     have cvB : ∀ c, (convert 36 9 (.slice (some ⟨g, z, none⟩) 8 c)).run Try.prog (w3.alloc (.cells (cellsOf (bytesL a0 8)) 5)).drew = .ok (.string (strOfNums (bytesL a0 8))) (w3.alloc (.cells (cellsOf (bytesL a0 8)) 5)).drew := fun c => run_str_at _ _ _ 8 c (bytesL_length _ _) (row_below ((Below.refl _ _).alloc (Nat.le_refl _) _).drew (by have := hb3.size; simp at this; omega) r3)
     have cvC : ∀ c, (convert 36 9 (.slice (some ⟨g, z, none⟩) 8 c)).run Try.prog w3.drew = .ok (.string (strOfNums (bytesL a0 8))) w3.drew := fun c => run_str_at _ _ _ 8 c (bytesL_length _ _) (show RowAt w3.drew _ _ from r3)
     refine wp_region_noPanic ?_
     refine wp_region_held_drew (S := (fun w' => ∀ c, (convert 36 9 (.slice (some ⟨g, z, none⟩) 8 c)).run Try.prog w' = .ok (.string (strOfNums (bytesL a0 8))) w')) (by kernel_rfl) cvC (fun hHeld => ?_)
     (refine tk_yes (v := ?_) 0 (some 36) rfl rfl (by kernel_rfl) (by kernel_rfl) (by kernel_rfl) (fun _ _ _ h => h) (by rfl) ?_ hHeld ?_; rotate_left; focus (intro w hSw; go_simp; try with_reducible rfl))
     simp only [Act.put, List.setIfInBounds_toArray, List.set_cons_zero, List.set_cons_succ]
     (refine tk_yes (v := ?_) 1 (some 37) rfl rfl (by kernel_rfl) (by kernel_rfl) (by kernel_rfl) (fun _ _ _ h => h) (by rfl) ?_ hHeld ?_; rotate_left; focus (intro w hSw; go_simp; try with_reducible rfl))
     simp only [Act.put, List.setIfInBounds_toArray, List.set_cons_zero, List.set_cons_succ]
     (refine tk_yes (v := ?_) 2 (some 38) rfl rfl (by kernel_rfl) (by kernel_rfl) (by kernel_rfl) (fun _ _ _ h => h) (by rfl) ?_ hHeld ?_; rotate_left; focus (intro w hSw; go_simp; try with_reducible rfl))
     simp only [Act.put, List.setIfInBounds_toArray, List.set_cons_zero, List.set_cons_succ]
     (refine tk_yes (v := ?_) 3 (some 39) rfl rfl (by kernel_rfl) (by kernel_rfl) (by kernel_rfl) (fun _ _ _ h => h) (by rfl) ?_ hHeld ?_; rotate_left; focus (intro w hSw; go_simp; try with_reducible rfl))
     simp only [Act.put, List.setIfInBounds_toArray, List.set_cons_zero, List.set_cons_succ]
     (refine tk_yes (v := ?_) 4 (some 40) rfl rfl (by kernel_rfl) (by kernel_rfl) (by kernel_rfl) (fun _ _ _ h => h) (by rfl) ?_ hHeld ?_; rotate_left; focus (intro w hSw; go_simp; try with_reducible rfl))
     simp only [Act.put, List.setIfInBounds_toArray, List.set_cons_zero, List.set_cons_succ]
     (refine tk_yes (v := ?_) 5 (some 41) rfl rfl (by kernel_rfl) (by kernel_rfl) (by kernel_rfl) (fun _ _ _ h => h) (by rfl) ?_ hHeld ?_; rotate_left; focus (intro w hSw; go_simp; try with_reducible rfl))
     simp only [Act.put, List.setIfInBounds_toArray, List.set_cons_zero, List.set_cons_succ]
     (refine tk_yes (v := ?_) 6 (some 42) rfl rfl (by kernel_rfl) (by kernel_rfl) (by kernel_rfl) (fun _ _ _ h => h) (by rfl) ?_ hHeld ?_; rotate_left; focus (intro w hSw; go_simp; try with_reducible rfl))
     simp only [Act.put, List.setIfInBounds_toArray, List.set_cons_zero, List.set_cons_succ]
     (refine tk_yes (v := ?_) 7 (some 43) rfl rfl (by kernel_rfl) (by kernel_rfl) (by kernel_rfl) (fun _ _ _ h => h) (by rfl) ?_ hHeld ?_; rotate_left; focus (intro w hSw; go_simp; try with_reducible rfl))
     simp only [Act.put, List.setIfInBounds_toArray, List.set_cons_zero, List.set_cons_succ]
     (refine tk_yes (v := ?_) 8 (some 44) rfl rfl (by kernel_rfl) (by kernel_rfl) (by kernel_rfl) (fun _ _ _ h => h) (by rfl) ?_ hHeld ?_; rotate_left; focus (intro w hSw; go_simp; try with_reducible rfl))
     simp only [Act.put, List.setIfInBounds_toArray, List.set_cons_zero, List.set_cons_succ]
     (refine tk_yes (v := ?_) 9 (some 45) rfl rfl (by kernel_rfl) (by kernel_rfl) (by kernel_rfl) (fun _ _ _ h => h) (by rfl) ?_ hHeld ?_; rotate_left; focus (intro w hSw; go_simp; try with_reducible rfl))
     simp only [Act.put, List.setIfInBounds_toArray, List.set_cons_zero, List.set_cons_succ]
     (refine tk_yes (v := ?_) 10 (some 46) rfl rfl (by kernel_rfl) (by kernel_rfl) (by kernel_rfl) (fun _ _ _ h => h) (by rfl) ?_ hHeld ?_; rotate_left; focus (intro w hSw; go_simp; try with_reducible rfl))
     simp only [Act.put, List.setIfInBounds_toArray, List.set_cons_zero, List.set_cons_succ]
     (refine tk_yes (v := ?_) 11 (some 47) rfl rfl (by kernel_rfl) (by kernel_rfl) (by kernel_rfl) (fun _ _ _ h => h) (by rfl) ?_ hHeld ?_; rotate_left; focus (intro w hSw; go_simp; try with_reducible rfl))
     simp only [Act.put, List.setIfInBounds_toArray, List.set_cons_zero, List.set_cons_succ]
     (refine tk_yes (v := ?_) 12 (some 48) rfl rfl (by kernel_rfl) (by kernel_rfl) (by kernel_rfl) (fun _ _ _ h => h) (by rfl) ?_ hHeld ?_; rotate_left; focus (intro w hSw; go_simp; try with_reducible rfl))
     simp only [Act.put, List.setIfInBounds_toArray, List.set_cons_zero, List.set_cons_succ]
     (refine tk_yes (v := ?_) 13 (some 49) rfl rfl (by kernel_rfl) (by kernel_rfl) (by kernel_rfl) (fun _ _ _ h => h) (by rfl) ?_ hHeld ?_; rotate_left; focus (intro w hSw; go_simp; try with_reducible rfl))
     simp only [Act.put, List.setIfInBounds_toArray, List.set_cons_zero, List.set_cons_succ]
     (refine tk_yes (v := ?_) 14 (some 50) rfl rfl (by kernel_rfl) (by kernel_rfl) (by kernel_rfl) (fun _ _ _ h => h) (by rfl) ?_ hHeld ?_; rotate_left; focus (intro w hSw; go_simp; try with_reducible rfl))
     simp only [Act.put, List.setIfInBounds_toArray, List.set_cons_zero, List.set_cons_succ]
     (refine tk_yes (v := ?_) 15 (some 51) rfl rfl (by kernel_rfl) (by kernel_rfl) (by kernel_rfl) (fun _ _ _ h => h) (by rfl) ?_ hHeld ?_; rotate_left; focus (intro w hSw; go_simp; try with_reducible rfl))
     simp only [Act.put, List.setIfInBounds_toArray, List.set_cons_zero, List.set_cons_succ]
     (refine tk_yes (v := ?_) 16 (some 52) rfl rfl (by kernel_rfl) (by kernel_rfl) (by kernel_rfl) (fun _ _ _ h => h) (by rfl) ?_ hHeld ?_; rotate_left; focus (intro w hSw; go_simp; try with_reducible rfl))
     simp only [Act.put, List.setIfInBounds_toArray, List.set_cons_zero, List.set_cons_succ]
     (refine tk_yes (v := ?_) 17 (some 53) rfl rfl (by kernel_rfl) (by kernel_rfl) (by kernel_rfl) (fun _ _ _ h => h) (by rfl) ?_ hHeld ?_; rotate_left; focus (intro w hSw; go_simp; try with_reducible rfl))
     simp only [Act.put, List.setIfInBounds_toArray, List.set_cons_zero, List.set_cons_succ]
     (refine tk_yes (v := ?_) 18 (some 54) rfl rfl (by kernel_rfl) (by kernel_rfl) (by kernel_rfl) (fun _ _ _ h => h) (by rfl) ?_ hHeld ?_; rotate_left; focus (intro w hSw; go_simp; try with_reducible rfl))
     simp only [Act.put, List.setIfInBounds_toArray, List.set_cons_zero, List.set_cons_succ]
     (refine tk_yes (v := ?_) 19 (some 55) rfl rfl (by kernel_rfl) (by kernel_rfl) (by kernel_rfl) (fun _ _ _ h => h) (by rfl) ?_ hHeld ?_; rotate_left; focus (intro w hSw; go_simp; try with_reducible rfl))
     simp only [Act.put, List.setIfInBounds_toArray, List.set_cons_zero, List.set_cons_succ]
     (refine tk_yes (v := ?_) 20 (some 56) rfl rfl (by kernel_rfl) (by kernel_rfl) (by kernel_rfl) (fun _ _ _ h => h) (by rfl) ?_ hHeld ?_; rotate_left; focus (intro w hSw; go_simp; try with_reducible rfl))
     simp only [Act.put, List.setIfInBounds_toArray, List.set_cons_zero, List.set_cons_succ]
     (refine tk_yes (v := ?_) 21 (some 57) rfl rfl (by kernel_rfl) (by kernel_rfl) (by kernel_rfl) (fun _ _ _ h => h) (by rfl) ?_ hHeld ?_; rotate_left; focus (intro w hSw; go_simp; try with_reducible rfl))
     simp only [Act.put, List.setIfInBounds_toArray, List.set_cons_zero, List.set_cons_succ]
     (refine tk_yes (v := ?_) 22 (some 58) rfl rfl (by kernel_rfl) (by kernel_rfl) (by kernel_rfl) (fun _ _ _ h => h) (by rfl) ?_ hHeld ?_; rotate_left; focus (intro w hSw; go_simp; try with_reducible rfl))
     simp only [Act.put, List.setIfInBounds_toArray, List.set_cons_zero, List.set_cons_succ]
     (refine tk_yes (v := ?_) 23 (some 59) rfl rfl (by kernel_rfl) (by kernel_rfl) (by kernel_rfl) (fun _ _ _ h => h) (by rfl) ?_ hHeld ?_; rotate_left; focus (intro w hSw; go_simp; try with_reducible rfl))
     simp only [Act.put, List.setIfInBounds_toArray, List.set_cons_zero, List.set_cons_succ]
     (refine tk_no 24 (some 60) rfl rfl (by kernel_rfl) (by kernel_rfl) (by kernel_rfl) (fun _ _ _ h => h) (by rfl) hHeld ?_)
     simp only [Act.put, List.setIfInBounds_toArray, List.set_cons_zero, List.set_cons_succ]
     (refine tk_no 25 (some 61) rfl rfl (by kernel_rfl) (by kernel_rfl) (by kernel_rfl) (fun _ _ _ h => h) (by rfl) hHeld ?_)
     simp only [Act.put, List.setIfInBounds_toArray, List.set_cons_zero, List.set_cons_succ]
     (refine tk_yes (v := ?_) 26 (some 62) rfl rfl (by kernel_rfl) (by kernel_rfl) (by kernel_rfl) (fun _ _ _ h => h) (by rfl) ?_ hHeld ?_; rotate_left; focus (intro w hSw; go_simp; try with_reducible rfl))
     simp only [Act.put, List.setIfInBounds_toArray, List.set_cons_zero, List.set_cons_succ]
     (refine tk_yes (v := ?_) 27 (some 63) rfl rfl (by kernel_rfl) (by kernel_rfl) (by kernel_rfl) (fun _ _ _ h => h) (by rfl) ?_ hHeld ?_; rotate_left; focus (intro w hSw; go_simp; try with_reducible rfl))
     simp only [Act.put, List.setIfInBounds_toArray, List.set_cons_zero, List.set_cons_succ]
     (refine tk_yes (v := ?_) 28 (some 64) rfl rfl (by kernel_rfl) (by kernel_rfl) (by kernel_rfl) (fun _ _ _ h => h) (by rfl) ?_ hHeld ?_; rotate_left; focus (intro w hSw; go_simp; try with_reducible rfl))
     simp only [Act.put, List.setIfInBounds_toArray, List.set_cons_zero, List.set_cons_succ]
     (refine tk_yes (v := ?_) 29 (some 65) rfl rfl (by kernel_rfl) (by kernel_rfl) (by kernel_rfl) (fun _ _ _ h => h) (by rfl) ?_ hHeld ?_; rotate_left; focus (intro w hSw; go_simp; try with_reducible rfl))
     simp only [Act.put, List.setIfInBounds_toArray, List.set_cons_zero, List.set_cons_succ]
     (refine tk_yes (v := ?_) 30 (some 66) rfl rfl (by kernel_rfl) (by kernel_rfl) (by kernel_rfl) (fun _ _ _ h => h) (by rfl) ?_ hHeld ?_; rotate_left; focus (intro w hSw; go_simp; try with_reducible rfl))
     simp only [Act.put, List.setIfInBounds_toArray, List.set_cons_zero, List.set_cons_succ]
     (refine tk_yes (v := ?_) 31 (some 67) rfl rfl (by kernel_rfl) (by kernel_rfl) (by kernel_rfl) (fun _ _ _ h => h) (by rfl) ?_ hHeld ?_; rotate_left; focus (intro w hSw; go_simp; try with_reducible rfl))
     simp only [Act.put, List.setIfInBounds_toArray, List.set_cons_zero, List.set_cons_succ]
     (refine tk_yes (v := ?_) 32 (some 68) rfl rfl (by kernel_rfl) (by kernel_rfl) (by kernel_rfl) (fun _ _ _ h => h) (by rfl) ?_ hHeld ?_; rotate_left; focus (intro w hSw; go_simp; try with_reducible rfl))
     simp only [Act.put, List.setIfInBounds_toArray, List.set_cons_zero, List.set_cons_succ]
     (refine tk_yes (v := ?_) 33 (some 69) rfl rfl (by kernel_rfl) (by kernel_rfl) (by kernel_rfl) (fun _ _ _ h => h) (by rfl) ?_ hHeld ?_; rotate_left; focus (intro w hSw; go_simp; try with_reducible rfl))
     simp only [Act.put, List.setIfInBounds_toArray, List.set_cons_zero, List.set_cons_succ]
     (refine tk_yes (v := ?_) 34 (some 70) rfl rfl (by kernel_rfl) (by kernel_rfl) (by kernel_rfl) (fun _ _ _ h => h) (by rfl) ?_ hHeld ?_; rotate_left; focus (intro w hSw; go_simp; try with_reducible rfl))
     simp only [Act.put, List.setIfInBounds_toArray, List.set_cons_zero, List.set_cons_succ]
     (refine tk_yes (v := ?_) 35 (some 71) rfl rfl (by kernel_rfl) (by kernel_rfl) (by kernel_rfl) (fun _ _ _ h => h) (by rfl) ?_ hHeld ?_; rotate_left; focus (intro w hSw; go_simp; try with_reducible rfl))
     simp only [Act.put, List.setIfInBounds_toArray, List.set_cons_zero, List.set_cons_succ]
     (refine tk_yes (v := ?_) 36 (some 72) rfl rfl (by kernel_rfl) (by kernel_rfl) (by kernel_rfl) (fun _ _ _ h => h) (by rfl) ?_ hHeld ?_; rotate_left; focus (intro w hSw; go_simp; try with_reducible rfl))
     simp only [Act.put, List.setIfInBounds_toArray, List.set_cons_zero, List.set_cons_succ]
     (refine tk_yes (v := ?_) 37 (some 73) rfl rfl (by kernel_rfl) (by kernel_rfl) (by kernel_rfl) (fun _ _ _ h => h) (by rfl) ?_ hHeld ?_; rotate_left; focus (intro w hSw; go_simp; try with_reducible rfl))
     simp only [Act.put, List.setIfInBounds_toArray, List.set_cons_zero, List.set_cons_succ]
     (refine tk_yes (v := ?_) 38 (some 74) rfl rfl (by kernel_rfl) (by kernel_rfl) (by kernel_rfl) (fun _ _ _ h => h) (by rfl) ?_ hHeld ?_; rotate_left; focus (intro w hSw; go_simp; try with_reducible rfl))
     simp only [Act.put, List.setIfInBounds_toArray, List.set_cons_zero, List.set_cons_succ]
     (refine tk_yes (v := ?_) 41 (some 77) rfl rfl (by kernel_rfl) (by kernel_rfl) (by kernel_rfl) (fun _ _ _ h => h) (by rfl) ?_ hHeld ?_; rotate_left; focus (intro w hSw; go_simp; try with_reducible rfl))
     simp only [Act.put, List.setIfInBounds_toArray, List.set_cons_zero, List.set_cons_succ]
     (refine tk_yes (v := ?_) 42 (some 78) rfl rfl (by kernel_rfl) (by kernel_rfl) (by kernel_rfl) (fun _ _ _ h => h) (by rfl) ?_ hHeld ?_; rotate_left; focus (intro w hSw; go_simp; try with_reducible rfl))
     simp only [Act.put, List.setIfInBounds_toArray, List.set_cons_zero, List.set_cons_succ]
     (refine tk_yes (v := ?_) 43 (some 79) rfl rfl (by kernel_rfl) (by kernel_rfl) (by kernel_rfl) (fun _ _ _ h => h) (by rfl) ?_ hHeld ?_; rotate_left; focus (intro w hSw; go_simp; try with_reducible rfl))
     simp only [Act.put, List.setIfInBounds_toArray, List.set_cons_zero, List.set_cons_succ]
     (refine tk_yes (v := ?_) 44 (some 80) rfl rfl (by kernel_rfl) (by kernel_rfl) (by kernel_rfl) (fun _ _ _ h => h) (by rfl) ?_ hHeld ?_; rotate_left; focus (intro w hSw; go_simp; try with_reducible rfl))
     simp only [Act.put, List.setIfInBounds_toArray, List.set_cons_zero, List.set_cons_succ]
     (refine tk_yes (v := ?_) 45 (some 81) rfl rfl (by kernel_rfl) (by kernel_rfl) (by kernel_rfl) (fun _ _ _ h => h) (by rfl) ?_ hHeld ?_; rotate_left; focus (intro w hSw; go_simp; try with_reducible rfl))
     simp only [Act.put, List.setIfInBounds_toArray, List.set_cons_zero, List.set_cons_succ]
     (refine tk_yes (v := ?_) 46 (some 82) rfl rfl (by kernel_rfl) (by kernel_rfl) (by kernel_rfl) (fun _ _ _ h => h) (by rfl) ?_ hHeld ?_; rotate_left; focus (intro w hSw; go_simp; try with_reducible rfl))
     simp only [Act.put, List.setIfInBounds_toArray, List.set_cons_zero, List.set_cons_succ]
     refine wpAnyH_ready (rs := [39]) (by kernel_rfl) (by simp) ?_
     refine AllReadyH.cons rfl (fun K hK => ?_) AllReadyH.nil
     go_simp
     refine (put_fit a0 8 _ (by decide) (by decide) b0 (by omega)).mono ?_
     rintro e w' ⟨rfl, rfl⟩
     go_wp2
     refine hK.out _ _ cvB (fun hHeld => ?_)
     clear hK K
     try simp only [Act.put, List.setIfInBounds_toArray, List.set_cons_zero, List.set_cons_succ]
     refine wpAnyH_ready (rs := [40]) (by kernel_rfl) (by simp) ?_
     refine AllReadyH.cons rfl (fun K hK => ?_) AllReadyH.nil
     go_simp
     refine hK.out _ _ cvB (fun hHeld => ?_)
     clear hK K
     try simp only [Act.put, List.setIfInBounds_toArray, List.set_cons_zero, List.set_cons_succ]
     (refine tk_yes (v := ?_) 47 (some 83) rfl rfl (by kernel_rfl) (by kernel_rfl) (by kernel_rfl) (fun _ _ _ h => h) (by rfl) ?_ hHeld ?_; rotate_left; focus (intro w hSw; go_simp; try with_reducible rfl))
     simp only [Act.put, List.setIfInBounds_toArray, List.set_cons_zero, List.set_cons_succ]
     (refine tk_yes (v := ?_) 48 (some 84) rfl rfl (by kernel_rfl) (by kernel_rfl) (by kernel_rfl) (fun _ _ _ h => h) (by rfl) ?_ hHeld ?_; rotate_left; focus (intro w hSw; go_simp; try with_reducible rfl))
     simp only [Act.put, List.setIfInBounds_toArray, List.set_cons_zero, List.set_cons_succ]
     (refine tk_yes (v := ?_) 49 (some 6) rfl rfl (by kernel_rfl) (by kernel_rfl) (by kernel_rfl) (fun _ _ _ h => h) (by rfl) ?_ hHeld ?_; rotate_left; focus (intro w hSw; go_simp; try with_reducible rfl))
     simp only [Act.put, List.setIfInBounds_toArray, List.set_cons_zero, List.set_cons_succ]
     refine wpAnyH_done (by kernel_rfl) ?_ _
     refine NoPanic.normal ?_
     go_wp2
     go_ret
     exact ⟨rfl, (hB3.alloc hB3.size _).drew⟩

set_option maxRecDepth 100000 in
set_option maxHeartbeats 4000000 in
/-- The walk, where the first byte is not nought. -/
theorem noughts_no (a0 a1 a2 : Int) (f0 : (a2 == 0) = false) (f1 : numB (a2 :: bytesL a0 8) = false) (f2 : numZ (a2 :: bytesL a0 8) = 0) (b0 : 0 ≤ a0) (b1 : a0 ≤ 18446744073709551615) (b2 : 0 ≤ a1) (_b3 : a1 ≤ 255) (b4 : 0 ≤ a2) (b5 : a2 ≤ 255) (w : World) :
    Calls Try.prog 7 #[.int .u64 a0, .int .u8 a1, .int .u8 a2] w fun e w' => e = .returned (.bool true) ∧ Below w.heap.size w w' := by
  obtain ⟨z, hz⟩ : ∃ z : Nat, a1 % 60 = (z : Int) := ⟨(a1 % 60).toNat, by omega⟩
  have z1 : z < 60 := by omega
  have hz' : a1.tmod 60 = (z : Int) := by rw [Int.tmod_eq_emod_of_nonneg b2]; exact hz
  have hmk := run_make_row' (P := Try.prog) 36 5 (.int .u8 0) 1 Try.underlying36 Try.info5 rfl .u8 .u8 z (by omega) (by omega)
  rw [← fill_none a0 z] at hmk
  have hlen1 : (fillL a0 z 0 ++ bytesL a0 8).length = z + 8 := by rw [List.length_append, fill_length _ _ _ (by omega), bytesL_length]
  have hbyt1 : Byt (fillL a0 z 0 ++ bytesL a0 8) := by
    intro x hx
    simp [fillL, bytesL] at hx
    rcases hx with ⟨_, rfl⟩ | hx
    · omega
    · exact bytesL_byt a0 8 x (by simpa [bytesL] using hx)
  have hbyt2 : Byt ([a2] ++ bytesL a0 8) := by
    intro x hx
    rcases List.mem_append.1 hx with hx | hx
    · simp at hx; omega
    · exact bytesL_byt a0 8 x hx
  have m1 : num (fillL a0 z 0 ++ bytesL a0 8) = a0 := by
    rw [show fillL a0 z 0 = List.replicate z 0 by simp [fillL, bytesL], num_zeros, num_bytesL, show (2 : Int) ^ (8 * 8) = 18446744073709551616 from rfl]; omega
  have n1B : numB (fillL a0 z 0 ++ bytesL a0 8) = true := by unfold numB; rw [m1]; simp; omega
  have n1Z : numZ (fillL a0 z 0 ++ bytesL a0 8) = a0 := by unfold numZ; rw [n1B, m1]; rfl
  clear m1
  go_enter Try.func7, Try.ntmps7
  go_wp2_with (go_at_call 8; refine (known_any _).mono ?_; rintro e w1 ⟨rfl, hb1⟩)
  go_region_held3 (fun _ => True) (trivial)
    (first
      | (go_at_call 19; refine (bytes_fit a0 8 _ (by decide) (by decide) b0 (by omega)).mono ?_; rintro e w' ⟨rfl, rfl⟩)
      | (refine app_step (by rfl) _ _ (by rfl) w1.heap.size w1.heap.size z (w1.heap.size + 1) 8 (fillL a0 z 0) (bytesL a0 8) (by rfl) (by rfl) (heap_two _ _ _).1 (heap_two _ _ _).2 (fill_length _ _ _ (by omega)) (bytesL_length _ _) (by omega) (by simp; omega) (by omega) (by omega) ?_; intro g cap w2 hr2 hb2 hg2 hcap hcap')
      | (refine app_step (by rfl) _ _ (by rfl) w1.heap.size (w1.heap.size + 1) z w1.heap.size 8 (fillL a0 z 0) (bytesL a0 8) (by rfl) (by rfl) (heap_two _ _ _).2 (heap_two _ _ _).1 (fill_length _ _ _ (by omega)) (bytesL_length _ _) (by omega) (by simp; omega) (by omega) (by omega) ?_; intro g cap w2 hr2 hb2 hg2 hcap hcap'))
  all_goals
     have hB2 : Below w.heap.size w w2 := (((hb1.alloc hb1.size _).alloc (by have := hb1.size; simp; omega) _).drew).trans (hb2.mono hb1.size)
     clear hb2 hmk
     have q1 : ((w2.alloc (.cells #[.int .u8 a2] 5)).alloc (.cells (cellsOf (bytesL a0 8)) 5)).heap[w2.heap.size]? = some (.cells (cellsOf [a2]) 5 (0, 0)) := (heap_pair w2 _ _).1
     have q2 : ((w2.alloc (.cells #[.int .u8 a2] 5)).alloc (.cells (cellsOf (bytesL a0 8)) 5)).heap[w2.heap.size + 1]? = some (.cells (cellsOf (bytesL a0 8)) 5 (0, 0)) := (heap_pair w2 _ _).2
     go_wp2_with (first
       | (go_at_call 21; refine (number_at _ _ _ ([a2] ++ bytesL a0 8) w3 (by simp [bytesL_length]) hr3 hbyt2 (by decide)).mono ?_; rintro e w' ⟨rfl, rfl⟩)
       | (go_at_call 21; refine (number_at _ _ _ (fillL a0 z 0 ++ bytesL a0 8) w2 hlen1 hr2 hbyt1 (by unfold maxLen; omega)).mono ?_; rintro e w' ⟨rfl, rfl⟩)
       | (go_at_call 19; refine (bytes_fit a0 8 _ (by decide) (by decide) b0 (by omega)).mono ?_; rintro e w' ⟨rfl, rfl⟩)
       | (at_builtin; refine app_list (w := (w2.alloc (.cells #[.int .u8 a2] 5)).alloc (.cells (cellsOf (bytesL a0 8)) 5)) (by rfl) _ _ (by rfl) w2.heap.size w2.heap.size 1 (w2.heap.size + 1) 8 [a2] (bytesL a0 8) (by rfl) (by rfl) q1 q2 rfl (bytesL_length _ _) (by omega) (by simp; omega) (by omega) (by omega) ?_; intro g3 cap3 w3 hr3 hb3 hg3 hcap3 hcap3'))
     have i1 : (0 : Int) ≤ (z : Int) := by omega
     have i2 : (z : Int) ≤ (z : Int) + 8 := by omega
     have i3 : (z : Int) + 8 ≤ (cap : Int) := by omega
     have i4 : (z : Int) ≤ (cap : Int) := by omega
     have i5 : IntKind.i64.wrap ((z : Int) + 8) = (z : Int) + 8 := by rw [IntKind.wrap_i64]; omega
     have i6 : IntKind.i64.wrap ((z : Int) + 8 - 8) = (z : Int) := by rw [IntKind.wrap_i64]; omega
     have i8 : ¬ (cap = z) := by omega
     have i7 : IntKind.i64.wrap (z : Int) = (z : Int) := by rw [IntKind.wrap_i64]; omega
     have hB3 : Below w.heap.size w w3 := ((hB2.alloc hB2.size _).alloc (by have := hB2.size; simp; omega) _).trans (hb3.mono hB2.size)
     have r3 : RowAt w3 (some ⟨g, z, none⟩) (bytesL a0 8) := row_tail (fill_length _ _ _ (by omega)) (row_below (((Below.refl _ _).alloc (Nat.le_refl _) _).alloc (by simp) _ |>.trans hb3) hg2 hr2)
     have cvA : ∀ c, (convert 36 9 (.slice (some ⟨w3.heap.size, 0, none⟩) 8 c)).run Try.prog (w3.alloc (.cells (cellsOf (bytesL a0 8)) 5)).drew = .ok (.string (strOfNums (bytesL a0 8))) (w3.alloc (.cells (cellsOf (bytesL a0 8)) 5)).drew := fun c => run_str_at _ _ _ 8 c (bytesL_length _ _) (show RowAt (w3.alloc _).drew _ _ from row_new w3 _)
     have cvB : ∀ c, (convert 36 9 (.slice (some ⟨g, z, none⟩) 8 c)).run Try.prog (w3.alloc (.cells (cellsOf (bytesL a0 8)) 5)).drew = .ok (.string (strOfNums (bytesL a0 8))) (w3.alloc (.cells (cellsOf (bytesL a0 8)) 5)).drew := fun c => run_str_at _ _ _ 8 c (bytesL_length _ _) (row_below ((Below.refl _ _).alloc (Nat.le_refl _) _).drew (by have := hb3.size; simp at this; omega) r3)
     have cvC : ∀ c, (convert 36 9 (.slice (some ⟨g, z, none⟩) 8 c)).run Try.prog w3.drew = .ok (.string (strOfNums (bytesL a0 8))) w3.drew := fun c => run_str_at _ _ _ 8 c (bytesL_length _ _) (show RowAt w3.drew _ _ from r3)
     refine wp_region_noPanic ?_
     refine wp_region_held_drew (S := (fun w' => ∀ c, (convert 36 9 (.slice (some ⟨g, z, none⟩) 8 c)).run Try.prog w' = .ok (.string (strOfNums (bytesL a0 8))) w')) (by kernel_rfl) cvC (fun hHeld => ?_)
     (refine tk_yes (v := ?_) 0 (some 36) rfl rfl (by kernel_rfl) (by kernel_rfl) (by kernel_rfl) (fun _ _ _ h => h) (by rfl) ?_ hHeld ?_; rotate_left; focus (intro w hSw; go_simp; try with_reducible rfl))
     simp only [Act.put, List.setIfInBounds_toArray, List.set_cons_zero, List.set_cons_succ]
     (refine tk_yes (v := ?_) 1 (some 37) rfl rfl (by kernel_rfl) (by kernel_rfl) (by kernel_rfl) (fun _ _ _ h => h) (by rfl) ?_ hHeld ?_; rotate_left; focus (intro w hSw; go_simp; try with_reducible rfl))
     simp only [Act.put, List.setIfInBounds_toArray, List.set_cons_zero, List.set_cons_succ]
     (refine tk_yes (v := ?_) 2 (some 38) rfl rfl (by kernel_rfl) (by kernel_rfl) (by kernel_rfl) (fun _ _ _ h => h) (by rfl) ?_ hHeld ?_; rotate_left; focus (intro w hSw; go_simp; try with_reducible rfl))
     simp only [Act.put, List.setIfInBounds_toArray, List.set_cons_zero, List.set_cons_succ]
     (refine tk_yes (v := ?_) 3 (some 39) rfl rfl (by kernel_rfl) (by kernel_rfl) (by kernel_rfl) (fun _ _ _ h => h) (by rfl) ?_ hHeld ?_; rotate_left; focus (intro w hSw; go_simp; try with_reducible rfl))
     simp only [Act.put, List.setIfInBounds_toArray, List.set_cons_zero, List.set_cons_succ]
     (refine tk_yes (v := ?_) 4 (some 40) rfl rfl (by kernel_rfl) (by kernel_rfl) (by kernel_rfl) (fun _ _ _ h => h) (by rfl) ?_ hHeld ?_; rotate_left; focus (intro w hSw; go_simp; try with_reducible rfl))
     simp only [Act.put, List.setIfInBounds_toArray, List.set_cons_zero, List.set_cons_succ]
     (refine tk_yes (v := ?_) 5 (some 41) rfl rfl (by kernel_rfl) (by kernel_rfl) (by kernel_rfl) (fun _ _ _ h => h) (by rfl) ?_ hHeld ?_; rotate_left; focus (intro w hSw; go_simp; try with_reducible rfl))
     simp only [Act.put, List.setIfInBounds_toArray, List.set_cons_zero, List.set_cons_succ]
     (refine tk_yes (v := ?_) 6 (some 42) rfl rfl (by kernel_rfl) (by kernel_rfl) (by kernel_rfl) (fun _ _ _ h => h) (by rfl) ?_ hHeld ?_; rotate_left; focus (intro w hSw; go_simp; try with_reducible rfl))
     simp only [Act.put, List.setIfInBounds_toArray, List.set_cons_zero, List.set_cons_succ]
     (refine tk_yes (v := ?_) 7 (some 43) rfl rfl (by kernel_rfl) (by kernel_rfl) (by kernel_rfl) (fun _ _ _ h => h) (by rfl) ?_ hHeld ?_; rotate_left; focus (intro w hSw; go_simp; try with_reducible rfl))
     simp only [Act.put, List.setIfInBounds_toArray, List.set_cons_zero, List.set_cons_succ]
     (refine tk_yes (v := ?_) 8 (some 44) rfl rfl (by kernel_rfl) (by kernel_rfl) (by kernel_rfl) (fun _ _ _ h => h) (by rfl) ?_ hHeld ?_; rotate_left; focus (intro w hSw; go_simp; try with_reducible rfl))
     simp only [Act.put, List.setIfInBounds_toArray, List.set_cons_zero, List.set_cons_succ]
     (refine tk_yes (v := ?_) 9 (some 45) rfl rfl (by kernel_rfl) (by kernel_rfl) (by kernel_rfl) (fun _ _ _ h => h) (by rfl) ?_ hHeld ?_; rotate_left; focus (intro w hSw; go_simp; try with_reducible rfl))
     simp only [Act.put, List.setIfInBounds_toArray, List.set_cons_zero, List.set_cons_succ]
     (refine tk_yes (v := ?_) 10 (some 46) rfl rfl (by kernel_rfl) (by kernel_rfl) (by kernel_rfl) (fun _ _ _ h => h) (by rfl) ?_ hHeld ?_; rotate_left; focus (intro w hSw; go_simp; try with_reducible rfl))
     simp only [Act.put, List.setIfInBounds_toArray, List.set_cons_zero, List.set_cons_succ]
     (refine tk_yes (v := ?_) 11 (some 47) rfl rfl (by kernel_rfl) (by kernel_rfl) (by kernel_rfl) (fun _ _ _ h => h) (by rfl) ?_ hHeld ?_; rotate_left; focus (intro w hSw; go_simp; try with_reducible rfl))
     simp only [Act.put, List.setIfInBounds_toArray, List.set_cons_zero, List.set_cons_succ]
     (refine tk_yes (v := ?_) 12 (some 48) rfl rfl (by kernel_rfl) (by kernel_rfl) (by kernel_rfl) (fun _ _ _ h => h) (by rfl) ?_ hHeld ?_; rotate_left; focus (intro w hSw; go_simp; try with_reducible rfl))
     simp only [Act.put, List.setIfInBounds_toArray, List.set_cons_zero, List.set_cons_succ]
     (refine tk_yes (v := ?_) 13 (some 49) rfl rfl (by kernel_rfl) (by kernel_rfl) (by kernel_rfl) (fun _ _ _ h => h) (by rfl) ?_ hHeld ?_; rotate_left; focus (intro w hSw; go_simp; try with_reducible rfl))
     simp only [Act.put, List.setIfInBounds_toArray, List.set_cons_zero, List.set_cons_succ]
     (refine tk_yes (v := ?_) 14 (some 50) rfl rfl (by kernel_rfl) (by kernel_rfl) (by kernel_rfl) (fun _ _ _ h => h) (by rfl) ?_ hHeld ?_; rotate_left; focus (intro w hSw; go_simp; try with_reducible rfl))
     simp only [Act.put, List.setIfInBounds_toArray, List.set_cons_zero, List.set_cons_succ]
     (refine tk_yes (v := ?_) 15 (some 51) rfl rfl (by kernel_rfl) (by kernel_rfl) (by kernel_rfl) (fun _ _ _ h => h) (by rfl) ?_ hHeld ?_; rotate_left; focus (intro w hSw; go_simp; try with_reducible rfl))
     simp only [Act.put, List.setIfInBounds_toArray, List.set_cons_zero, List.set_cons_succ]
     (refine tk_no 16 (some 52) rfl rfl (by kernel_rfl) (by kernel_rfl) (by kernel_rfl) (fun _ _ _ h => h) (by rfl) hHeld ?_)
     simp only [Act.put, List.setIfInBounds_toArray, List.set_cons_zero, List.set_cons_succ]
     (refine tk_no 17 (some 53) rfl rfl (by kernel_rfl) (by kernel_rfl) (by kernel_rfl) (fun _ _ _ h => h) (by rfl) hHeld ?_)
     simp only [Act.put, List.setIfInBounds_toArray, List.set_cons_zero, List.set_cons_succ]
     (refine tk_no 18 (some 54) rfl rfl (by kernel_rfl) (by kernel_rfl) (by kernel_rfl) (fun _ _ _ h => h) (by rfl) hHeld ?_)
     simp only [Act.put, List.setIfInBounds_toArray, List.set_cons_zero, List.set_cons_succ]
     (refine tk_yes (v := ?_) 19 (some 55) rfl rfl (by kernel_rfl) (by kernel_rfl) (by kernel_rfl) (fun _ _ _ h => h) (by rfl) ?_ hHeld ?_; rotate_left; focus (intro w hSw; go_simp; try with_reducible rfl))
     simp only [Act.put, List.setIfInBounds_toArray, List.set_cons_zero, List.set_cons_succ]
     (refine tk_yes (v := ?_) 20 (some 56) rfl rfl (by kernel_rfl) (by kernel_rfl) (by kernel_rfl) (fun _ _ _ h => h) (by rfl) ?_ hHeld ?_; rotate_left; focus (intro w hSw; go_simp; try with_reducible rfl))
     simp only [Act.put, List.setIfInBounds_toArray, List.set_cons_zero, List.set_cons_succ]
     (refine tk_yes (v := ?_) 21 (some 57) rfl rfl (by kernel_rfl) (by kernel_rfl) (by kernel_rfl) (fun _ _ _ h => h) (by rfl) ?_ hHeld ?_; rotate_left; focus (intro w hSw; go_simp; try with_reducible rfl))
     simp only [Act.put, List.setIfInBounds_toArray, List.set_cons_zero, List.set_cons_succ]
     (refine tk_yes (v := ?_) 22 (some 58) rfl rfl (by kernel_rfl) (by kernel_rfl) (by kernel_rfl) (fun _ _ _ h => h) (by rfl) ?_ hHeld ?_; rotate_left; focus (intro w hSw; go_simp; try with_reducible rfl))
     simp only [Act.put, List.setIfInBounds_toArray, List.set_cons_zero, List.set_cons_succ]
     (refine tk_yes (v := ?_) 23 (some 59) rfl rfl (by kernel_rfl) (by kernel_rfl) (by kernel_rfl) (fun _ _ _ h => h) (by rfl) ?_ hHeld ?_; rotate_left; focus (intro w hSw; go_simp; try with_reducible rfl))
     simp only [Act.put, List.setIfInBounds_toArray, List.set_cons_zero, List.set_cons_succ]
     (refine tk_yes (v := ?_) 24 (some 60) rfl rfl (by kernel_rfl) (by kernel_rfl) (by kernel_rfl) (fun _ _ _ h => h) (by rfl) ?_ hHeld ?_; rotate_left; focus (intro w hSw; go_simp; try with_reducible rfl))
     simp only [Act.put, List.setIfInBounds_toArray, List.set_cons_zero, List.set_cons_succ]
     (refine tk_yes (v := ?_) 25 (some 61) rfl rfl (by kernel_rfl) (by kernel_rfl) (by kernel_rfl) (fun _ _ _ h => h) (by rfl) ?_ hHeld ?_; rotate_left; focus (intro w hSw; go_simp; try with_reducible rfl))
     simp only [Act.put, List.setIfInBounds_toArray, List.set_cons_zero, List.set_cons_succ]
     (refine tk_yes (v := ?_) 26 (some 62) rfl rfl (by kernel_rfl) (by kernel_rfl) (by kernel_rfl) (fun _ _ _ h => h) (by rfl) ?_ hHeld ?_; rotate_left; focus (intro w hSw; go_simp; try with_reducible rfl))
     simp only [Act.put, List.setIfInBounds_toArray, List.set_cons_zero, List.set_cons_succ]
     (refine tk_yes (v := ?_) 27 (some 63) rfl rfl (by kernel_rfl) (by kernel_rfl) (by kernel_rfl) (fun _ _ _ h => h) (by rfl) ?_ hHeld ?_; rotate_left; focus (intro w hSw; go_simp; try with_reducible rfl))
     simp only [Act.put, List.setIfInBounds_toArray, List.set_cons_zero, List.set_cons_succ]
     (refine tk_yes (v := ?_) 28 (some 64) rfl rfl (by kernel_rfl) (by kernel_rfl) (by kernel_rfl) (fun _ _ _ h => h) (by rfl) ?_ hHeld ?_; rotate_left; focus (intro w hSw; go_simp; try with_reducible rfl))
     simp only [Act.put, List.setIfInBounds_toArray, List.set_cons_zero, List.set_cons_succ]
     (refine tk_yes (v := ?_) 29 (some 65) rfl rfl (by kernel_rfl) (by kernel_rfl) (by kernel_rfl) (fun _ _ _ h => h) (by rfl) ?_ hHeld ?_; rotate_left; focus (intro w hSw; go_simp; try with_reducible rfl))
     simp only [Act.put, List.setIfInBounds_toArray, List.set_cons_zero, List.set_cons_succ]
     (refine tk_yes (v := ?_) 30 (some 66) rfl rfl (by kernel_rfl) (by kernel_rfl) (by kernel_rfl) (fun _ _ _ h => h) (by rfl) ?_ hHeld ?_; rotate_left; focus (intro w hSw; go_simp; try with_reducible rfl))
     simp only [Act.put, List.setIfInBounds_toArray, List.set_cons_zero, List.set_cons_succ]
     (refine tk_yes (v := ?_) 31 (some 67) rfl rfl (by kernel_rfl) (by kernel_rfl) (by kernel_rfl) (fun _ _ _ h => h) (by rfl) ?_ hHeld ?_; rotate_left; focus (intro w hSw; go_simp; try with_reducible rfl))
     simp only [Act.put, List.setIfInBounds_toArray, List.set_cons_zero, List.set_cons_succ]
     (refine tk_yes (v := ?_) 32 (some 68) rfl rfl (by kernel_rfl) (by kernel_rfl) (by kernel_rfl) (fun _ _ _ h => h) (by rfl) ?_ hHeld ?_; rotate_left; focus (intro w hSw; go_simp; try with_reducible rfl))
     simp only [Act.put, List.setIfInBounds_toArray, List.set_cons_zero, List.set_cons_succ]
     (refine tk_yes (v := ?_) 33 (some 69) rfl rfl (by kernel_rfl) (by kernel_rfl) (by kernel_rfl) (fun _ _ _ h => h) (by rfl) ?_ hHeld ?_; rotate_left; focus (intro w hSw; go_simp; try with_reducible rfl))
     simp only [Act.put, List.setIfInBounds_toArray, List.set_cons_zero, List.set_cons_succ]
     (refine tk_yes (v := ?_) 34 (some 70) rfl rfl (by kernel_rfl) (by kernel_rfl) (by kernel_rfl) (fun _ _ _ h => h) (by rfl) ?_ hHeld ?_; rotate_left; focus (intro w hSw; go_simp; try with_reducible rfl))
     simp only [Act.put, List.setIfInBounds_toArray, List.set_cons_zero, List.set_cons_succ]
     (refine tk_yes (v := ?_) 35 (some 71) rfl rfl (by kernel_rfl) (by kernel_rfl) (by kernel_rfl) (fun _ _ _ h => h) (by rfl) ?_ hHeld ?_; rotate_left; focus (intro w hSw; go_simp; try with_reducible rfl))
     simp only [Act.put, List.setIfInBounds_toArray, List.set_cons_zero, List.set_cons_succ]
     (refine tk_yes (v := ?_) 36 (some 72) rfl rfl (by kernel_rfl) (by kernel_rfl) (by kernel_rfl) (fun _ _ _ h => h) (by rfl) ?_ hHeld ?_; rotate_left; focus (intro w hSw; go_simp; try with_reducible rfl))
     simp only [Act.put, List.setIfInBounds_toArray, List.set_cons_zero, List.set_cons_succ]
     (refine tk_yes (v := ?_) 37 (some 73) rfl rfl (by kernel_rfl) (by kernel_rfl) (by kernel_rfl) (fun _ _ _ h => h) (by rfl) ?_ hHeld ?_; rotate_left; focus (intro w hSw; go_simp; try with_reducible rfl))
     simp only [Act.put, List.setIfInBounds_toArray, List.set_cons_zero, List.set_cons_succ]
     (refine tk_yes (v := ?_) 38 (some 74) rfl rfl (by kernel_rfl) (by kernel_rfl) (by kernel_rfl) (fun _ _ _ h => h) (by rfl) ?_ hHeld ?_; rotate_left; focus (intro w hSw; go_simp; try with_reducible rfl))
     simp only [Act.put, List.setIfInBounds_toArray, List.set_cons_zero, List.set_cons_succ]
     (refine tk_yes (v := ?_) 41 (some 77) rfl rfl (by kernel_rfl) (by kernel_rfl) (by kernel_rfl) (fun _ _ _ h => h) (by rfl) ?_ hHeld ?_; rotate_left; focus (intro w hSw; go_simp; try with_reducible rfl))
     simp only [Act.put, List.setIfInBounds_toArray, List.set_cons_zero, List.set_cons_succ]
     (refine tk_yes (v := ?_) 42 (some 78) rfl rfl (by kernel_rfl) (by kernel_rfl) (by kernel_rfl) (fun _ _ _ h => h) (by rfl) ?_ hHeld ?_; rotate_left; focus (intro w hSw; go_simp; try with_reducible rfl))
     simp only [Act.put, List.setIfInBounds_toArray, List.set_cons_zero, List.set_cons_succ]
     (refine tk_yes (v := ?_) 43 (some 79) rfl rfl (by kernel_rfl) (by kernel_rfl) (by kernel_rfl) (fun _ _ _ h => h) (by rfl) ?_ hHeld ?_; rotate_left; focus (intro w hSw; go_simp; try with_reducible rfl))
     simp only [Act.put, List.setIfInBounds_toArray, List.set_cons_zero, List.set_cons_succ]
     (refine tk_yes (v := ?_) 44 (some 80) rfl rfl (by kernel_rfl) (by kernel_rfl) (by kernel_rfl) (fun _ _ _ h => h) (by rfl) ?_ hHeld ?_; rotate_left; focus (intro w hSw; go_simp; try with_reducible rfl))
     simp only [Act.put, List.setIfInBounds_toArray, List.set_cons_zero, List.set_cons_succ]
     (refine tk_yes (v := ?_) 45 (some 81) rfl rfl (by kernel_rfl) (by kernel_rfl) (by kernel_rfl) (fun _ _ _ h => h) (by rfl) ?_ hHeld ?_; rotate_left; focus (intro w hSw; go_simp; try with_reducible rfl))
     simp only [Act.put, List.setIfInBounds_toArray, List.set_cons_zero, List.set_cons_succ]
     (refine tk_yes (v := ?_) 46 (some 82) rfl rfl (by kernel_rfl) (by kernel_rfl) (by kernel_rfl) (fun _ _ _ h => h) (by rfl) ?_ hHeld ?_; rotate_left; focus (intro w hSw; go_simp; try with_reducible rfl))
     simp only [Act.put, List.setIfInBounds_toArray, List.set_cons_zero, List.set_cons_succ]
     refine wpAnyH_ready (rs := [39]) (by kernel_rfl) (by simp) ?_
     refine AllReadyH.cons rfl (fun K hK => ?_) AllReadyH.nil
     go_simp
     refine (put_fit a0 8 _ (by decide) (by decide) b0 (by omega)).mono ?_
     rintro e w' ⟨rfl, rfl⟩
     go_wp2
     refine hK.out _ _ cvB (fun hHeld => ?_)
     clear hK K
     try simp only [Act.put, List.setIfInBounds_toArray, List.set_cons_zero, List.set_cons_succ]
     refine wpAnyH_ready (rs := [40]) (by kernel_rfl) (by simp) ?_
     refine AllReadyH.cons rfl (fun K hK => ?_) AllReadyH.nil
     go_simp
     refine hK.out _ _ cvB (fun hHeld => ?_)
     clear hK K
     try simp only [Act.put, List.setIfInBounds_toArray, List.set_cons_zero, List.set_cons_succ]
     (refine tk_yes (v := ?_) 47 (some 83) rfl rfl (by kernel_rfl) (by kernel_rfl) (by kernel_rfl) (fun _ _ _ h => h) (by rfl) ?_ hHeld ?_; rotate_left; focus (intro w hSw; go_simp; try with_reducible rfl))
     simp only [Act.put, List.setIfInBounds_toArray, List.set_cons_zero, List.set_cons_succ]
     (refine tk_yes (v := ?_) 48 (some 84) rfl rfl (by kernel_rfl) (by kernel_rfl) (by kernel_rfl) (fun _ _ _ h => h) (by rfl) ?_ hHeld ?_; rotate_left; focus (intro w hSw; go_simp; try with_reducible rfl))
     simp only [Act.put, List.setIfInBounds_toArray, List.set_cons_zero, List.set_cons_succ]
     (refine tk_yes (v := ?_) 49 (some 6) rfl rfl (by kernel_rfl) (by kernel_rfl) (by kernel_rfl) (fun _ _ _ h => h) (by rfl) ?_ hHeld ?_; rotate_left; focus (intro w hSw; go_simp; try with_reducible rfl))
     simp only [Act.put, List.setIfInBounds_toArray, List.set_cons_zero, List.set_cons_succ]
     refine wpAnyH_done (by kernel_rfl) ?_ _
     refine NoPanic.normal ?_
     go_wp2
     go_ret
     exact ⟨rfl, (hB3.alloc hB3.size _).drew⟩

theorem noughts_walk (a0 a1 a2 : Int) (b0 : 0 ≤ a0) (b1 : a0 ≤ 18446744073709551615) (b2 : 0 ≤ a1) (b3 : a1 ≤ 255) (b4 : 0 ≤ a2) (b5 : a2 ≤ 255) (w : World) :
    Calls Try.prog 7 #[.int .u64 a0, .int .u8 a1, .int .u8 a2] w fun e w' => e = .returned (.bool true) ∧ Below w.heap.size w w' := by
  have m1 : num (a2 :: bytesL a0 8) = a2 * 18446744073709551616 + a0 := by
    rw [num_first, num_bytesL, bytesL_length, show (2 : Int) ^ (8 * 8) = 18446744073709551616 from rfl]; omega
  by_cases h : a2 = 0
  · have f1 : numB (a2 :: bytesL a0 8) = true := by unfold numB; rw [m1]; simp; omega
    exact noughts_yes a0 a1 a2 (by simp [h]) f1 (by unfold numZ; rw [f1, m1]; simp; omega) b0 b1 b2 b3 b4 b5 w
  · have f1 : numB (a2 :: bytesL a0 8) = false := by unfold numB; rw [m1]; simp; omega
    exact noughts_no a0 a1 a2 (by simp [h]) f1 (by unfold numZ; rw [f1]; simp) b0 b1 b2 b3 b4 b5 w

theorem arithNoughts_own : ownKnob Try.prog.godebug = none := by kernel_rfl

set_option maxRecDepth 100000 in
theorem arithNoughts_lifted (os : Os) (started : os.Started) (H : Type) (enc : TypeId × Value → H) :
    ReturnsInHanded {} Try.checked os 7 .any (Rows.arithNoughtsSpec.pre6 enc Try.prog Try.f7 Rows.arithNoughtsRow.domain false) (Rows.arithNoughtsSpec.post enc Try.prog Try.f7 false true false false) := by
  refine returnsInHanded_of_change (C := Try.checked) arithNoughts_own started (by kernel_rfl) Try.func7
    (ChangeSpec.witness6 (enc := enc) (C := Try.checked) false ⟨#[], #[.int .u64 0, .int .u8 0, .int .u8 0], []⟩ 8 (by kernel_rfl) (by kernel_rfl) (by kernel_rfl) (by kernel_rfl)) ?_
  intro W base args ds gs before hval0 hW hcnd _
  have hval : ∀ (j : Nat) t v, Try.f7.params[j]? = some t → args[j]? = some v → Value.okWide Try.prog W .any base t v := hval0
  have hW' := hW
  obtain ⟨p, q, hA0, hV, rfl, hfz, hnd⟩ := hW
  have hA : DataW.TrodAll enc Try.prog W 0 (fun _ => true) true Try.f7.params.toList args.toList ds p := hA0
  rw [Try.params7] at hA hval
  obtain ⟨v0, vs0, d0, ds0, p0, q0, hargs, rfl, rfl, h0, r0⟩ := trodAll_cons hA
  obtain ⟨v1, vs1, d1, ds1, p1, q1, rfl, rfl, rfl, h1, r1⟩ := trodAll_cons r0
  obtain ⟨v2, vs2, d2, ds2, p2, q2, rfl, rfl, rfl, h2, r2⟩ := trodAll_cons r1
  obtain ⟨rfl, rfl, rfl⟩ := trodAll_nil r2
  obtain rfl : args = #[v0, v1, v2] := by cases args; simp_all
  obtain ⟨rfl, rfl⟩ := trodVars_none hV
  obtain ⟨a0, rfl, rfl, rfl, w0⟩ := open_int Try.underlying22 (hval 0 22 v0 rfl rfl) h0
  obtain ⟨a1, rfl, rfl, rfl, w1⟩ := open_int Try.underlying5 (hval 1 5 v1 rfl rfl) h1
  obtain ⟨a2, rfl, rfl, rfl, w2⟩ := open_int Try.underlying5 (hval 2 5 v2 rfl rfl) h2
  clear hA0 hval0
  simp only [List.append_nil] at hW'
  have c0 := bounds_u64 w0
  have c1 := bounds_u8 w1
  have c2 := bounds_u8 w2
  refine (noughts_walk a0 a1 a2 c0.1 c0.2 c1.1 c1.2 c2.1 c2.2 W).mono fun e W' ⟨he, bel⟩ => ?_
  subst he
  exact ⟨_, rfl, _, _, _, [], [], [], hW', trodAll_mk1 (shut_bool Try.underlying4 _), (trodAll_cons_mk (shut_int Try.underlying22 w0) (trodAll_cons_mk (shut_int Try.underlying5 w1) (trodAll_cons_mk (shut_int Try.underlying5 w2) trodAll_mk0))), rfl, bel.frame _, fun h => by cases h⟩

theorem arithNoughts_over : Rows.arithNoughtsRow.holds Try.pinned (OpenSpec.ofChange Rows.arithNoughtsSpec) :=
  OpenClaim.holds_of_wide 7 Try.f7 rfl rfl rfl rfl rfl rfl rfl ⟨rfl, rfl, rfl, rfl, rfl⟩ rfl rfl rfl rfl rfl (by kernel_rfl) Try.func7 (by kernel_rfl)
    (of_decide_eq_true (by kernel_rfl)) (by unfold Func.isWrapper; first | (rw [if_pos (by decide +kernel)]; kernel_rfl) | (rw [if_neg (by decide +kernel)]; exact ⟨rfl, rfl⟩))
    (fun os started H enc _ => arithNoughts_lifted os started H enc)

/-- The statement. -/
theorem arithNoughts_holds : Rows.ArithNoughtsSaid := arithNoughts_over
#print axioms arithNoughts_holds
end Go.Proofs.Ytlgphfchjcpimaa
