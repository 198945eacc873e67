/- For every b, n and cut the function MapReads answers true: which numbers any bytes begin with. -/
import Derived.Test.YtdbionhkfjokiaaKnown
import Derived.Test.YtdbionhkfjokiaaZer
namespace Go.Proofs.Ytdbionhkfjokiaa
open Go.ChangeShapes Go.WideShapes Go.ChangeAt Go.RowKit

theorem app_any_step {ops : Array Oper} {o : Oper} {a : Act} {w : World} {K : Act → World → Prop} {Q : Exit → Act → World → Prop} {E : Prop} {B n1 c1 n2 c2 : Nat} {ao1 ao2 : Option Addr} {l1 l2 : List Int}
    (h1 : Row B w (.slice ao1 n1 c1) n1 l1) (hrow : RowAt w ao2 l2) (hn2 : l2.length = n2) (hnil : ao2 = none → n2 = 0 ∧ c2 = 0) (hBw : B ≤ w.heap.size) (hsmall : n1 + n2 ≤ 1000000)
    (hgd : o.guard = none) (s x : Operand) (ho : o.op = .call { callee := .builtin .append, args := #[s, x], argTypes := #[25, 25] })
    (hs : a.eval s = .slice ao1 n1 c1) (hx : a.eval x = .slice ao2 n2 c2)
    (h : ∀ ao cap w', Row B w' (.slice ao (n1 + n2) cap) (n1 + n2) (l1 ++ l2) → Turned (fun k => (Value.slice ao1 n1 c1).ownBlock = some k) w w' → K (a.put o.dst (.slice ao (n1 + n2) cap)) w') :
    if Region.wanted o (yielded ops a.tmps) = true then Oper.wp Try.prog o a w K Q else E := by
  cases ao2 with
  | some ad => exact app_row_step h1 hrow hn2 hBw hsmall hgd s x ho hs hx h
  | none =>
    obtain ⟨rfl, rfl⟩ := hnil rfl
    have e2 : l2 = [] := List.length_eq_zero_iff.1 hn2
    subst e2
    rw [if_pos (wanted_none hgd)]
    obtain ⟨i0, hi, hz0, hz1, hz2⟩ := info_parts Try.info5
    have hrun := run_append_owned_none (P := Try.prog) (w := w) B 25 o.type 5 i0 1 Try.underlying25 hi _ n1 (by8 l1) h1
    exact Go.Lib.wp_append_run w s x 25 25 ho _ _ hs hx _ w hrun (h ao1 c1 w (by rw [List.append_nil]; exact h1) (Turned.refl _ _))
/-- Each of three cells holds bytes. -/
def Three (b : Nat) (w : World) : Prop := ∀ j, j < 3 → ∃ a n c zs, w.cell? ⟨b, j, none⟩ = some (.slice a n c) ∧ Given w a n c zs
theorem Three.below {b : Nat} {w w' : World} (h : Three b w) (hb : Below w.heap.size w w') : Three b w' := by
  intro j hj
  obtain ⟨a, n, c, zs, hc, hg⟩ := h j hj
  exact ⟨a, n, c, zs, (hb.cell (p := ⟨b, j, none⟩) (World.block_lt_of_cell? w ⟨b, j, none⟩ hc)).trans hc, hg.below hb⟩
theorem Three.new {w : World} {v0 v1 v2 : Value} (t : TypeId) (h : ∀ v, v = v0 ∨ v = v1 ∨ v = v2 → ∃ a n c zs, v = .slice a n c ∧ Given w a n c zs) : Three w.heap.size (w.alloc (.cells #[v0, v1, v2] t)) := by
  have hn := heap_alloc_new w (.cells #[v0, v1, v2] t)
  intro j hj
  have hj' : j = 0 ∨ j = 1 ∨ j = 2 := by omega
  rcases hj' with rfl | rfl | rfl
  · obtain ⟨a, n, c, zs, rfl, hg⟩ := h v0 (by simp)
    exact ⟨a, n, c, zs, by rw [cell_of_head hn]; rfl, hg.below (bel1 _ _)⟩
  · obtain ⟨a, n, c, zs, rfl, hg⟩ := h v1 (by simp)
    exact ⟨a, n, c, zs, by rw [cell_of_head hn]; rfl, hg.below (bel1 _ _)⟩
  · obtain ⟨a, n, c, zs, rfl, hg⟩ := h v2 (by simp)
    exact ⟨a, n, c, zs, by rw [cell_of_head hn]; rfl, hg.below (bel1 _ _)⟩
theorem wid_numR (zs : List Int) : Wid (numR zs) := by
  unfold numR; split
  · exact wid_num zs
  · intro x hx; simp at hx
theorem byt_rep (k : Nat) : Byt (List.replicate k 0) := by
  intro x hx; rw [List.eq_of_mem_replicate hx]; omega
theorem byt_128 : Byt [128] := by intro x hx; simp at hx; subst hx; omega
set_option maxHeartbeats 4000000 in
theorem reads_N (l : List Int) (n cut : Int) (w : World) (hb : Given w (none) 0 0 l) (hc : 0 ≤ cut ∧ cut < 256) :
    Calls Try.prog 4 #[.slice (none) 0 0, .int .i64 n, .int .u8 cut] w fun e w' => e = .returned (.bool true) ∧ Below w.heap.size w w' := by
  obtain ⟨c0, c1⟩ := hc
  have f1 : IntKind.i64.wrap cut = cut := by rw [IntKind.wrap_i64]; omega
  have g1 : IntKind.i64.wrap 1 = 1 := by rw [IntKind.wrap_i64]; omega
  have g2 : cut.tmod 1 = 0 := by rw [Int.tmod_eq_emod_of_nonneg c0]; omega
  have HG := hid hb
  skip
  have HLQ := hid hb.leq
  clear hb
  go_enter Try.func4, Try.ntmps4
  go_wp2_with (go_at_call 6; refine (known6 _).mono ?_; rintro e w1 ⟨rfl, l1⟩; have L1 := hid l1; have G1 := hid (HG.out.below l1); clear l1)
  refine wp_region_noPanic ?_
  refine wp_region_held_drew (S := (fun _ => True)) (by kernel_rfl) trivial (fun hHeld => ?_)
  (refine tk_yes (v := ?_) 0 (some 20) rfl rfl (by kernel_rfl) (by kernel_rfl) (by kernel_rfl) (fun _ _ _ h => h) (by rfl) ?_ hHeld ?_; rotate_left; focus (intro w hSw; go_simp; try with_reducible rfl))
  try simp only [Act.put, List.setIfInBounds_toArray, List.set_cons_zero, List.set_cons_succ]
  (refine tk_yes (v := ?_) 1 (some 21) rfl rfl (by kernel_rfl) (by kernel_rfl) (by kernel_rfl) (fun _ _ _ h => h) (by rfl) ?_ hHeld ?_; rotate_left; focus (intro w hSw; go_simp; try with_reducible rfl))
  try simp only [Act.put, List.setIfInBounds_toArray, List.set_cons_zero, List.set_cons_succ]
  (refine tk_yes (v := ?_) 2 (some 22) rfl rfl (by kernel_rfl) (by kernel_rfl) (by kernel_rfl) (fun _ _ _ h => h) (by rfl) ?_ hHeld ?_; rotate_left; focus (intro w hSw; go_simp; try with_reducible rfl))
  try simp only [Act.put, List.setIfInBounds_toArray, List.set_cons_zero, List.set_cons_succ]
  (refine tk_yes (v := ?_) 3 (some 23) rfl rfl (by kernel_rfl) (by kernel_rfl) (by kernel_rfl) (fun _ _ _ h => h) (by rfl) ?_ hHeld ?_; rotate_left; focus (intro w hSw; go_simp; try with_reducible rfl))
  try simp only [Act.put, List.setIfInBounds_toArray, List.set_cons_zero, List.set_cons_succ]
  (refine tk_yes (v := ?_) 4 (some 24) rfl rfl (by kernel_rfl) (by kernel_rfl) (by kernel_rfl) (fun _ _ _ h => h) (by rfl) ?_ hHeld ?_; rotate_left; focus (intro w hSw; go_simp; try with_reducible rfl))
  try simp only [Act.put, List.setIfInBounds_toArray, List.set_cons_zero, List.set_cons_succ]
  (refine tk_yes (v := ?_) 10 (some 30) rfl rfl (by kernel_rfl) (by kernel_rfl) (by kernel_rfl) (fun _ _ _ h => h) (by rfl) ?_ hHeld ?_; rotate_left; focus (intro w hSw; go_simp; try with_reducible rfl))
  try simp only [Act.put, List.setIfInBounds_toArray, List.set_cons_zero, List.set_cons_succ]
  (refine tk_yes (v := ?_) 15 (some 35) rfl rfl (by kernel_rfl) (by kernel_rfl) (by kernel_rfl) (fun _ _ _ h => h) (by rfl) ?_ hHeld ?_; rotate_left; focus (intro w hSw; go_simp; try with_reducible rfl))
  try simp only [Act.put, List.setIfInBounds_toArray, List.set_cons_zero, List.set_cons_succ]
  (refine tk_yes (v := ?_) 5 (some 25) rfl rfl (by kernel_rfl) (by kernel_rfl) (by kernel_rfl) (fun _ _ _ h => h) (by rfl) ?_ hHeld ?_; rotate_left; focus (intro w hSw; go_simp; try with_reducible rfl))
  try simp only [Act.put, List.setIfInBounds_toArray, List.set_cons_zero, List.set_cons_succ]
  (refine tk_yes (v := ?_) 6 (some 26) rfl rfl (by kernel_rfl) (by kernel_rfl) (by kernel_rfl) (fun _ _ _ h => h) (by rfl) ?_ hHeld ?_; rotate_left; focus (intro w hSw; go_simp; try with_reducible rfl))
  try simp only [Act.put, List.setIfInBounds_toArray, List.set_cons_zero, List.set_cons_succ]
  (refine tk_yes (v := .int .i64 0) 7 (some 27) rfl rfl (by kernel_rfl) (by kernel_rfl) (by kernel_rfl) (fun _ _ _ h => h) (by rfl) ?_ hHeld ?_; focus (intro w hSw; go_simp))
  try simp only [Act.put, List.setIfInBounds_toArray, List.set_cons_zero, List.set_cons_succ]
  refine tk_yes (v := .slice none 0 0) 8 (some 28) rfl rfl (by kernel_rfl) (by kernel_rfl) (by kernel_rfl) (fun _ _ _ h => h) (by rfl) ?_ hHeld ?_
  · intro w hSw
    go_simp
  try simp only [Act.put, List.setIfInBounds_toArray, List.set_cons_zero, List.set_cons_succ]
  refine wpAnyH_ready (rs := [9]) (by kernel_rfl) (by simp) ?_
  refine AllReadyH.cons rfl (fun K hK => ?_) AllReadyH.nil
  go_simp
  have MB : Hid (Mk w1 (w1.alloc (Obj.cells #[Value.int IntKind.u8 128] 5)).drew (.slice (some ⟨w1.heap.size, 0, none⟩) 1 1) 1 [128]) := hid ((Mk.new w1 [128] 1 rfl (by omega)).more (Below.refl _ _).drew)
  generalize (w1.alloc (Obj.cells #[Value.int IntKind.u8 128] 5)).drew = w2 at *
  have G2 := hid (G1.out.below MB.out.2)
  refine hK.out _ _ trivial (fun hHeld => ?_)
  clear hK K
  try simp only [Act.put, List.setIfInBounds_toArray, List.set_cons_zero, List.set_cons_succ]
  refine wpAnyH_ready (rs := [11]) (by kernel_rfl) (by simp) ?_
  refine AllReadyH.cons (o := { dst := some 31, op := _, type := _, pos := _, after := _, guard := none }) rfl (fun K hK => ?_) AllReadyH.nil
  refine app_any_step (c2 := 0) MB.out.1 G2.out.row HLQ.out (fun _ => ⟨rfl, rfl⟩) MB.out.2.size (by omega) rfl _ _ rfl rfl rfl ?_
  intro ao4 cap4 w4 r4 t4
  have D4 := hid (MB.out.next r4 t4)
  clear r4 t4
  refine hK.out _ _ trivial (fun hHeld => ?_)
  clear hK K
  try simp only [Act.put, List.setIfInBounds_toArray, List.set_cons_zero, List.set_cons_succ]
  refine wpAnyH_ready (rs := [12]) (by kernel_rfl) (by simp) ?_
  refine AllReadyH.cons (o := { dst := some 32, op := _, type := _, pos := _, after := _, guard := none }) rfl (fun K hK => ?_) AllReadyH.nil
  refine app_zeros_step (k := 16) D4.out.1 (by omega) (by omega) D4.out.2.size (by omega) rfl _ _ rfl rfl rfl ?_
  intro ao5 cap5 w5 r5 t5
  have D5 := hid (D4.out.next r5 t5)
  clear r5 t5
  have G5 := hid (HG.out.below (sq L1.out D5.out.2))
  have Z5 := hid (D5.out.given (byt_app (byt_app byt_128 G5.out.byt) (byt_rep 16)))
  refine hK.out _ _ trivial (fun hHeld => ?_)
  clear hK K
  try simp only [Act.put, List.setIfInBounds_toArray, List.set_cons_zero, List.set_cons_succ]
  refine wpAnyH_ready (rs := [13]) (by kernel_rfl) (by simp) ?_
  refine AllReadyH.cons rfl (fun K hK => ?_) AllReadyH.nil
  go_simp
  have T6 : Hid (Three w5.heap.size (w5.alloc (Obj.cells #[Value.slice none 0 0, Value.slice none 0 0, Value.slice ao5 17 cap5] 25))) := hid (Three.new 25 fun v hv => by
    rcases hv with rfl | rfl | rfl
    · exact ⟨_, _, _, _, rfl, G5.out⟩
    · exact ⟨_, _, _, _, rfl, G5.out⟩
    · exact ⟨_, _, _, _, rfl, Z5.out⟩)
  have L6 : Hid (Below w.heap.size w (w5.alloc (Obj.cells #[Value.slice none 0 0, Value.slice none 0 0, Value.slice ao5 17 cap5] 25))) := hid (sq L1.out (sq D5.out.2 (bel1 _ _)))
  generalize w5.alloc (Obj.cells #[Value.slice none 0 0, Value.slice none 0 0, Value.slice ao5 17 cap5] 25) = w6 at *
  refine hK.out _ _ trivial (fun hHeld => ?_)
  clear hK K
  try simp only [Act.put, List.setIfInBounds_toArray, List.set_cons_zero, List.set_cons_succ]
  (refine tk_yes (v := ?_) 14 (some 34) rfl rfl (by kernel_rfl) (by kernel_rfl) (by kernel_rfl) (fun _ _ _ h => h) (by rfl) ?_ hHeld ?_; rotate_left; focus (intro w hSw; go_simp; try with_reducible rfl))
  try simp only [Act.put, List.setIfInBounds_toArray, List.set_cons_zero, List.set_cons_succ]
  refine wpAnyH_done (by kernel_rfl) ?_ _
  refine NoPanic.normal ?_
  clear MB D4 D5 G5 Z5 G2
  go_wp2
  go_loopw [35] (fun i wr => ∃ j : Nat, j ≤ 3 ∧ i = .int .i64 (j : Int) ∧ Below w6.heap.size w6 wr) (fun i _ => 3 - (intOf i).toNat)
  case atStart => exact ⟨0, by omega, rfl, Below.refl _ _⟩
  case round =>
    obtain ⟨j, hj, rfl, hb⟩ := hrel
    have B := hid hb
    clear hb
    by_cases hlt : j < 3
    · have j0 : (j : Int) < 3 := by omega
      obtain ⟨xa, xn, xc, zs, hc, hg⟩ := T6.out.below B.out j hlt
      have GX := hid hg
      clear hg
      go_wp2_with (first | (go_at_call 12; have kill := L9.out; refine (has12 _ _ _ zs _ _ (GX.out.below L9.out)).mono ?_; rintro e wq ⟨rfl, rfl⟩; clear kill) | (go_at_call 13; have kill := L9.out; refine (has13 _ _ _ zs _ _ (GX.out.below L9.out)).mono ?_; rintro e wq ⟨rfl, rfl⟩; clear kill) | (go_at_call 10; have kill := M8.out; refine (ints10 _ _ _ _ _ _ _ _ _ (M7.out.below M8.out.2) N8.out).mono ?_; rintro e w9 ⟨rfl, l9⟩; rw [decide_eq_true rfl]; have L9 := hid (sq (sq L7.out M8.out.2) l9); clear l9 kill) | (go_at_call 11; have kill := L7.out; refine (readR _ _ _ zs w7 (GX.out.below L7.out)).mono ?_; rintro e w8 ⟨a8, n8, c8, rfl, d8⟩; have M8 := hid d8; have N8 := hid (d8.given (wid_numR zs)); clear d8 kill) | (go_at_call 9; refine (read9 _ _ _ zs wr GX.out).mono ?_; rintro e w7 ⟨a7, n7, c7, rfl, d7⟩; have M7 := hid (d7.given (wid_numR zs)); have L7 := hid d7.2; clear d7))
      go_roundw
      case rel => exact ⟨j + 1, by omega, by go_num, sq B.out L9.out⟩
      case measure => simp [intOf]; omega
    · have j0 : ¬ (j : Int) < 3 := by omega
      go_wp2
      go_ret
      exact ⟨rfl, sq L6.out B.out⟩
set_option maxHeartbeats 4000000 in
theorem reads_S (x : Addr) (len cap : Nat) (l : List Int) (n cut : Int) (w : World) (hb : Given w (some x) len cap l) (hc : 0 ≤ cut ∧ cut < 256) (hlen : len ≤ 60) :
    Calls Try.prog 4 #[.slice (some x) len cap, .int .i64 n, .int .u8 cut] w fun e w' => e = .returned (.bool true) ∧ Below w.heap.size w w' := by
  obtain ⟨c0, c1⟩ := hc
  obtain ⟨k, hk, k1⟩ : ∃ k : Nat, cut % ((len : Int) + 1) = (k : Int) ∧ k ≤ len := ⟨(cut % ((len : Int) + 1)).toNat, by have := Int.emod_nonneg cut (show ((len : Int) + 1) ≠ 0 by omega); omega, by have := Int.emod_lt_of_pos cut (show (0 : Int) < (len : Int) + 1 by omega); have := Int.emod_nonneg cut (show ((len : Int) + 1) ≠ 0 by omega); omega⟩
  have f1 : IntKind.i64.wrap cut = cut := by rw [IntKind.wrap_i64]; omega
  have f2 : IntKind.i64.wrap ((len : Int) + 1) = (len : Int) + 1 := by rw [IntKind.wrap_i64]; omega
  have f3 : cut.tmod ((len : Int) + 1) = (k : Int) := by rw [Int.tmod_eq_emod_of_nonneg c0, hk]
  have f4 : IntKind.i64.wrap (k : Int) = (k : Int) := by rw [IntKind.wrap_i64]; omega
  have f5 : ¬ ((len : Int) + 1) = 0 := by omega
  have f6 : (((len : Int) + 1) == 0) = false := by simp; omega
  have f7 : ¬ cap < k := by have := hb.cap1; omega
  clear hk
  have HG := hid hb
  have hcap := hb.cap1
  have HLQ := hid hb.leq
  clear hb
  go_enter Try.func4, Try.ntmps4
  go_wp2_with (go_at_call 6; refine (known6 _).mono ?_; rintro e w1 ⟨rfl, l1⟩; have L1 := hid l1; have G1 := hid (HG.out.below l1); clear l1)
  refine wp_region_noPanic ?_
  refine wp_region_held_drew (S := (fun _ => True)) (by kernel_rfl) trivial (fun hHeld => ?_)
  (refine tk_yes (v := ?_) 0 (some 20) rfl rfl (by kernel_rfl) (by kernel_rfl) (by kernel_rfl) (fun _ _ _ h => h) (by rfl) ?_ hHeld ?_; rotate_left; focus (intro w hSw; go_simp; try with_reducible rfl))
  try simp only [Act.put, List.setIfInBounds_toArray, List.set_cons_zero, List.set_cons_succ]
  (refine tk_yes (v := ?_) 1 (some 21) rfl rfl (by kernel_rfl) (by kernel_rfl) (by kernel_rfl) (fun _ _ _ h => h) (by rfl) ?_ hHeld ?_; rotate_left; focus (intro w hSw; go_simp; try with_reducible rfl))
  try simp only [Act.put, List.setIfInBounds_toArray, List.set_cons_zero, List.set_cons_succ]
  (refine tk_yes (v := ?_) 2 (some 22) rfl rfl (by kernel_rfl) (by kernel_rfl) (by kernel_rfl) (fun _ _ _ h => h) (by rfl) ?_ hHeld ?_; rotate_left; focus (intro w hSw; go_simp; try with_reducible rfl))
  try simp only [Act.put, List.setIfInBounds_toArray, List.set_cons_zero, List.set_cons_succ]
  (refine tk_yes (v := ?_) 3 (some 23) rfl rfl (by kernel_rfl) (by kernel_rfl) (by kernel_rfl) (fun _ _ _ h => h) (by rfl) ?_ hHeld ?_; rotate_left; focus (intro w hSw; go_simp; try with_reducible rfl))
  try simp only [Act.put, List.setIfInBounds_toArray, List.set_cons_zero, List.set_cons_succ]
  (refine tk_yes (v := ?_) 4 (some 24) rfl rfl (by kernel_rfl) (by kernel_rfl) (by kernel_rfl) (fun _ _ _ h => h) (by rfl) ?_ hHeld ?_; rotate_left; focus (intro w hSw; go_simp; try with_reducible rfl))
  try simp only [Act.put, List.setIfInBounds_toArray, List.set_cons_zero, List.set_cons_succ]
  (refine tk_yes (v := ?_) 10 (some 30) rfl rfl (by kernel_rfl) (by kernel_rfl) (by kernel_rfl) (fun _ _ _ h => h) (by rfl) ?_ hHeld ?_; rotate_left; focus (intro w hSw; go_simp; try with_reducible rfl))
  try simp only [Act.put, List.setIfInBounds_toArray, List.set_cons_zero, List.set_cons_succ]
  (refine tk_yes (v := ?_) 15 (some 35) rfl rfl (by kernel_rfl) (by kernel_rfl) (by kernel_rfl) (fun _ _ _ h => h) (by rfl) ?_ hHeld ?_; rotate_left; focus (intro w hSw; go_simp; try with_reducible rfl))
  try simp only [Act.put, List.setIfInBounds_toArray, List.set_cons_zero, List.set_cons_succ]
  (refine tk_yes (v := ?_) 5 (some 25) rfl rfl (by kernel_rfl) (by kernel_rfl) (by kernel_rfl) (fun _ _ _ h => h) (by rfl) ?_ hHeld ?_; rotate_left; focus (intro w hSw; go_simp; try with_reducible rfl))
  try simp only [Act.put, List.setIfInBounds_toArray, List.set_cons_zero, List.set_cons_succ]
  (refine tk_yes (v := ?_) 6 (some 26) rfl rfl (by kernel_rfl) (by kernel_rfl) (by kernel_rfl) (fun _ _ _ h => h) (by rfl) ?_ hHeld ?_; rotate_left; focus (intro w hSw; go_simp; try with_reducible rfl))
  try simp only [Act.put, List.setIfInBounds_toArray, List.set_cons_zero, List.set_cons_succ]
  (refine tk_yes (v := .int .i64 (k : Int)) 7 (some 27) rfl rfl (by kernel_rfl) (by kernel_rfl) (by kernel_rfl) (fun _ _ _ h => h) (by rfl) ?_ hHeld ?_; focus (intro w hSw; go_simp))
  try simp only [Act.put, List.setIfInBounds_toArray, List.set_cons_zero, List.set_cons_succ]
  refine tk_yes (v := .slice (some x) k cap) 8 (some 28) rfl rfl (by kernel_rfl) (by kernel_rfl) (by kernel_rfl) (fun _ _ _ h => h) (by rfl) ?_ hHeld ?_
  · intro w hSw
    go_simp
  try simp only [Act.put, List.setIfInBounds_toArray, List.set_cons_zero, List.set_cons_succ]
  refine wpAnyH_ready (rs := [9]) (by kernel_rfl) (by simp) ?_
  refine AllReadyH.cons rfl (fun K hK => ?_) AllReadyH.nil
  go_simp
  have MB : Hid (Mk w1 (w1.alloc (Obj.cells #[Value.int IntKind.u8 128] 5)).drew (.slice (some ⟨w1.heap.size, 0, none⟩) 1 1) 1 [128]) := hid ((Mk.new w1 [128] 1 rfl (by omega)).more (Below.refl _ _).drew)
  generalize (w1.alloc (Obj.cells #[Value.int IntKind.u8 128] 5)).drew = w2 at *
  have G2 := hid (G1.out.below MB.out.2)
  refine hK.out _ _ trivial (fun hHeld => ?_)
  clear hK K
  try simp only [Act.put, List.setIfInBounds_toArray, List.set_cons_zero, List.set_cons_succ]
  refine wpAnyH_ready (rs := [11]) (by kernel_rfl) (by simp) ?_
  refine AllReadyH.cons (o := { dst := some 31, op := _, type := _, pos := _, after := _, guard := none }) rfl (fun K hK => ?_) AllReadyH.nil
  refine app_any_step (c2 := cap) MB.out.1 G2.out.row HLQ.out (fun e => by cases e) MB.out.2.size (by omega) rfl _ _ rfl rfl rfl ?_
  intro ao4 cap4 w4 r4 t4
  have D4 := hid (MB.out.next r4 t4)
  clear r4 t4
  refine hK.out _ _ trivial (fun hHeld => ?_)
  clear hK K
  try simp only [Act.put, List.setIfInBounds_toArray, List.set_cons_zero, List.set_cons_succ]
  refine wpAnyH_ready (rs := [12]) (by kernel_rfl) (by simp) ?_
  refine AllReadyH.cons (o := { dst := some 32, op := _, type := _, pos := _, after := _, guard := none }) rfl (fun K hK => ?_) AllReadyH.nil
  refine app_zeros_step (k := 16) D4.out.1 (by omega) (by omega) D4.out.2.size (by omega) rfl _ _ rfl rfl rfl ?_
  intro ao5 cap5 w5 r5 t5
  have D5 := hid (D4.out.next r5 t5)
  clear r5 t5
  have G5 := hid (HG.out.below (sq L1.out D5.out.2))
  have Z5 := hid (D5.out.given (byt_app (byt_app byt_128 G5.out.byt) (byt_rep 16)))
  refine hK.out _ _ trivial (fun hHeld => ?_)
  clear hK K
  try simp only [Act.put, List.setIfInBounds_toArray, List.set_cons_zero, List.set_cons_succ]
  refine wpAnyH_ready (rs := [13]) (by kernel_rfl) (by simp) ?_
  refine AllReadyH.cons rfl (fun K hK => ?_) AllReadyH.nil
  go_simp
  have T6 : Hid (Three w5.heap.size (w5.alloc (Obj.cells #[Value.slice (some x) len cap, Value.slice (some x) k cap, Value.slice ao5 (1 + len + 16) cap5] 25))) := hid (Three.new 25 fun v hv => by
    rcases hv with rfl | rfl | rfl
    · exact ⟨_, _, _, _, rfl, G5.out⟩
    · exact ⟨_, _, _, _, rfl, G5.out.front k1⟩
    · exact ⟨_, _, _, _, rfl, Z5.out⟩)
  have L6 : Hid (Below w.heap.size w (w5.alloc (Obj.cells #[Value.slice (some x) len cap, Value.slice (some x) k cap, Value.slice ao5 (1 + len + 16) cap5] 25))) := hid (sq L1.out (sq D5.out.2 (bel1 _ _)))
  generalize w5.alloc (Obj.cells #[Value.slice (some x) len cap, Value.slice (some x) k cap, Value.slice ao5 (1 + len + 16) cap5] 25) = w6 at *
  refine hK.out _ _ trivial (fun hHeld => ?_)
  clear hK K
  try simp only [Act.put, List.setIfInBounds_toArray, List.set_cons_zero, List.set_cons_succ]
  (refine tk_yes (v := ?_) 14 (some 34) rfl rfl (by kernel_rfl) (by kernel_rfl) (by kernel_rfl) (fun _ _ _ h => h) (by rfl) ?_ hHeld ?_; rotate_left; focus (intro w hSw; go_simp; try with_reducible rfl))
  try simp only [Act.put, List.setIfInBounds_toArray, List.set_cons_zero, List.set_cons_succ]
  refine wpAnyH_done (by kernel_rfl) ?_ _
  refine NoPanic.normal ?_
  clear MB D4 D5 G5 Z5 G2
  go_wp2
  go_loopw [35] (fun i wr => ∃ j : Nat, j ≤ 3 ∧ i = .int .i64 (j : Int) ∧ Below w6.heap.size w6 wr) (fun i _ => 3 - (intOf i).toNat)
  case atStart => exact ⟨0, by omega, rfl, Below.refl _ _⟩
  case round =>
    obtain ⟨j, hj, rfl, hb⟩ := hrel
    have B := hid hb
    clear hb
    by_cases hlt : j < 3
    · have j0 : (j : Int) < 3 := by omega
      obtain ⟨xa, xn, xc, zs, hc, hg⟩ := T6.out.below B.out j hlt
      have GX := hid hg
      clear hg
      go_wp2_with (first | (go_at_call 12; have kill := L9.out; refine (has12 _ _ _ zs _ _ (GX.out.below L9.out)).mono ?_; rintro e wq ⟨rfl, rfl⟩; clear kill) | (go_at_call 13; have kill := L9.out; refine (has13 _ _ _ zs _ _ (GX.out.below L9.out)).mono ?_; rintro e wq ⟨rfl, rfl⟩; clear kill) | (go_at_call 10; have kill := M8.out; refine (ints10 _ _ _ _ _ _ _ _ _ (M7.out.below M8.out.2) N8.out).mono ?_; rintro e w9 ⟨rfl, l9⟩; rw [decide_eq_true rfl]; have L9 := hid (sq (sq L7.out M8.out.2) l9); clear l9 kill) | (go_at_call 11; have kill := L7.out; refine (readR _ _ _ zs w7 (GX.out.below L7.out)).mono ?_; rintro e w8 ⟨a8, n8, c8, rfl, d8⟩; have M8 := hid d8; have N8 := hid (d8.given (wid_numR zs)); clear d8 kill) | (go_at_call 9; refine (read9 _ _ _ zs wr GX.out).mono ?_; rintro e w7 ⟨a7, n7, c7, rfl, d7⟩; have M7 := hid (d7.given (wid_numR zs)); have L7 := hid d7.2; clear d7))
      go_roundw
      case rel => exact ⟨j + 1, by omega, by go_num, sq B.out L9.out⟩
      case measure => simp [intOf]; omega
    · have j0 : ¬ (j : Int) < 3 := by omega
      go_wp2
      go_ret
      exact ⟨rfl, sq L6.out B.out⟩
set_option maxHeartbeats 1000000 in
theorem reads_long (ao : Option Addr) (len cap : Nat) (n cut : Int) (w : World) (hlen : 60 < len) :
    Calls Try.prog 4 #[.slice ao len cap, .int .i64 n, .int .u8 cut] w fun e w' => e = .returned (.bool true) ∧ Below w.heap.size w w' := by
  have h : (60 : Int) < (len : Int) := by omega
  go_enter Try.func4, Try.ntmps4
  go_wp2_with (go_at_call 6; refine (known6 _).mono ?_; rintro e w1 ⟨rfl, l1⟩; have L1 := hid l1; clear l1)
  go_ret
  exact ⟨rfl, L1.out⟩
theorem reads_walk (ao : Option Addr) (len cap : Nat) (l : List Int) (n cut : Int) (w : World) (hb : InB w ao len cap l) (_ : -9223372036854775808 ≤ n ∧ n ≤ 9223372036854775807) (hc : 0 ≤ cut ∧ cut < 256) :
    Calls Try.prog 4 #[.slice ao len cap, .int .i64 n, .int .u8 cut] w fun e w' => e = .returned (.bool true) ∧ Below w.heap.size w w' := by
  by_cases hl : 60 < len
  · exact reads_long ao len cap n cut w hl
  cases ao with
  | none =>
    obtain ⟨rfl, rfl⟩ := hb.nil rfl
    exact reads_N l n cut w hb.giv hc
  | some x => exact reads_S x len cap l n cut w hb.giv hc (by omega)
theorem mapReads_own : ownKnob Try.prog.godebug = none := by kernel_rfl
theorem mapReads_laid : laidOutB Try.prog = true := by kernel_rfl

set_option maxRecDepth 100000 in
set_option maxHeartbeats 1000000 in
theorem mapReads_lifted (os : Os) (started : os.Started) (H : Type) (enc : TypeId × Value → H) :
    ReturnsInHanded {} Try.checked os 4 .any (Rows.mapReadsSpec.pre6 enc Try.prog Try.f4 Rows.mapReadsRow.domain false) (Rows.mapReadsSpec.post enc Try.prog Try.f4 false true false false) := by
  refine returnsInHanded_of_change (C := Try.checked) mapReads_own started (by kernel_rfl) Try.func4
    (ChangeSpec.witness6 (enc := enc) (C := Try.checked) false ⟨#[], #[.slice none 0 0, .int .i64 0, .int .u8 0], []⟩ 8 (by kernel_rfl) (by kernel_rfl) (by kernel_rfl) (by kernel_rfl)) ?_
  intro W base args ds gs before hval0 hW hcnd _
  have hval : ∀ (j : Nat) t v, Try.f4.params[j]? = some t → args[j]? = some v → Value.okWide Try.prog W .any base t v := hval0
  have hW' := hW
  obtain ⟨p, q, hA0, hV, rfl, hfz, hnd⟩ := hW
  have hA : DataW.TrodAll enc Try.prog W 0 (fun _ => true) true Try.f4.params.toList args.toList ds p := hA0
  rw [Try.params4] at hA hval
  obtain ⟨v0, vs0, d0, ds0, p0, q0, hargs, rfl, rfl, h0, r0⟩ := trodAll_cons hA
  obtain ⟨v1, vs1, d1, ds1, p1, q1, rfl, rfl, rfl, h1, r1⟩ := trodAll_cons r0
  obtain ⟨v2, vs2, d2, ds2, p2, q2, rfl, rfl, rfl, h2, r2⟩ := trodAll_cons r1
  obtain ⟨rfl, rfl, rfl⟩ := trodAll_nil r2
  obtain rfl : args = #[v0, v1, v2] := by cases args; simp_all
  obtain ⟨rfl, rfl⟩ := trodVars_none hV
  obtain ⟨x0, y0, z0, rfl⟩ := okWide_slice Try.underlying25 (hval 0 25 v0 rfl rfl)
  have k0 := h0
  have lt0 : ∀ x ∈ p0, x.block < W.heap.size := by obtain ⟨m, hm⟩ := k0; exact DataW.trod_lt m _ _ _ hm
  obtain ⟨a0, len0, cap0, l0, e0, w0⟩ : ∃ a len cap l, Value.slice x0 y0 z0 = .slice a len cap ∧ InB W a len cap l := by
    obtain ⟨fuel, hf⟩ := h0
    exact open_inB hf
  cases e0
  obtain ⟨a1, rfl, rfl, rfl, w1⟩ := open_int Try.underlying3 (hval 1 3 v1 rfl rfl) h1
  obtain ⟨a2, rfl, rfl, rfl, w2⟩ := open_int Try.underlying5 (hval 2 5 v2 rfl rfl) h2
  clear hA0 hval0
  refine (reads_walk x0 y0 z0 l0 a1 a2 W w0 (by have := bounds_i64 w1; omega) (by have := bounds_u8 w2; omega)).mono fun e W' ⟨he, bel⟩ => ?_
  subst he
  exact ⟨_, rfl, _, _, _, [], _, [], hW', trodAll_mk1 (shut_bool Try.underlying4 _), (trodAll_cons_mk (Below.trod mapReads_laid (by kernel_rfl) (of_decide_eq_true (by kernel_rfl)) k0 bel lt0) (trodAll_cons_mk (shut_int Try.underlying3 w1) (trodAll_cons_mk (shut_int Try.underlying5 w2) trodAll_mk0))), rfl, bel.frame _, fun h => by cases h⟩

theorem mapReads_over : Rows.mapReadsRow.holds Try.pinned (OpenSpec.ofChange Rows.mapReadsSpec) :=
  OpenClaim.holds_of_wide 4 Try.f4 rfl rfl rfl rfl rfl rfl rfl ⟨rfl, rfl, rfl, rfl, rfl⟩ rfl rfl rfl rfl rfl (by kernel_rfl) Try.func4 (by kernel_rfl)
    (of_decide_eq_true (by kernel_rfl)) (by unfold Func.isWrapper; first | (rw [if_pos (by decide +kernel)]; kernel_rfl) | (rw [if_neg (by decide +kernel)]; exact ⟨rfl, rfl⟩))
    (fun os started H enc _ => mapReads_lifted os started H enc)

/-- The statement. -/
theorem mapReads_holds : Rows.MapReadsSaid := mapReads_over
#print axioms mapReads_holds
end Go.Proofs.Ytdbionhkfjokiaa
