/- TableTexts: the text of any table, and which table any text is, or at which line none. For every input. -/
import Derived.Test.YthhgochnlbiaaaaKnown
import Derived.Test.YthhgochnlbiaaaaEq
import Derived.Test.YthhgochnlbiaaaaTab
import Derived.Deep.CutRange
namespace Go.Proofs.Ythhgochnlbiaaaa
open Go.ChangeShapes Go.WideShapes Go.ChangeAt Go.RowKit

theorem parse15s (s : ByteArray) (w : World) (hs : s.size ≤ 1000000) : Calls Try.prog 15 #[.string s] w (PsAns w (panL s)) := by
  have h := parse15 (panL s) w (panL_byt s) (by rw [panL_len]; exact hs)
  rwa [str_panL] at h
theorem parse16s (s : ByteArray) (w : World) (hs : s.size ≤ 1000000) : Calls Try.prog 16 #[.string s] w (PsAns w (panL s)) := by
  have h := parse16 (panL s) w (panL_byt s) (by rw [panL_len]; exact hs)
  rwa [str_panL] at h
section
variable {a : Act} {w : World} {K : Act → World → Prop} {Q : Exit → Act → World → Prop} {op : Oper}
theorem bsKw {v : Int} (x : Operand) (ho : op.op = .buildSlice 40 1 #[(0, x)]) (hx : a.eval x = .int .u8 v)
    (h : ∀ b w', RowAt w' (some ⟨b, 0, none⟩) [v] → Below w.heap.size w w' → K (a.put op.dst (.slice (some ⟨b, 0, none⟩) 1 1)) w') : op.wp Try.prog a w K Q := by
  obtain ⟨i, hi, hz0, hz1, hz2⟩ := info_parts Try.info5
  have hrow : RowAt (w.alloc (.cells #[.int .u8 v] 5)) (some ⟨w.heap.size, 0, none⟩) [v] := (row_new w [v] 1 rfl (by omega)).at
  refine wp_buildSlice 40 5 1 _ ho #[.int .u8 v] i _ Try.underlying40 hi hz0 (by rw [hz1]; decide) (by rw [hz1]; decide) ?_ (h _ _ hrow (bel1 _ _))
  have := Great.fill_whole (s := 1) (by decide) [Value.int .u8 v] ((Array.range (1 * i.size)).map ((Value.int .u8 0).cells[· % (Value.int .u8 0).cells.size]!))
    (by intro u hu; simp at hu; subst hu; rfl) (by simp [hz1])
  rw [hz1] at this ⊢
  simpa [hx, Value.cells] using this
theorem cvKw {ao : Option Addr} {len cap : Nat} {zs : List Int} (hr : RowAt w ao zs) (hl : zs.length = len) (x : Operand) (ho : op.op = .convert 40 9 x) (hx : a.eval x = .slice ao len cap)
    (h : K (a.put op.dst (.string (strOfNums zs))) w) : op.wp Try.prog a w K Q := by
  have kc := run_str w ao zs len cap hl hr
  unfold Oper.wp execOp
  simp only [ho, hx]
  simp [kc, go_sem]
  exact h
end
theorem info9 : (Try.prog.info? 9).map (fun i => (i.zero, i.size, i.bytes)) = some (some (.string ⟨#[]⟩), 1, 16) := by kernel_rfl
/-- Three texts lie side by side; none is long. -/
def Tx3 (w : World) (g : Nat) : Prop := ∀ j, j < 3 → ∃ s : ByteArray, w.cell? ⟨g, j, none⟩ = some (.string s) ∧ s.size ≤ 3000
theorem Tx3.below {w w' : World} {g : Nat} (h : Tx3 w g) (hb : Below w.heap.size w w') : Tx3 w' g := fun j hj => by
  obtain ⟨s, h1, h2⟩ := h j hj
  exact ⟨s, cellkept h1 hb, h2⟩
theorem bsT3 {ops : Array Oper} {rest : List Oper} {op : Oper} {a : Act} {w : World} {Q : Exit → Act → World → Prop} {r s t : ByteArray} (hr : r.size ≤ 3000) (hs : s.size ≤ 3000) (ht : t.size ≤ 3000) (hgd : op.guard = none) (x y z : Operand) (ho : op.op = .buildSlice 41 3 #[(0, x), (1, y), (2, z)]) (hx : a.eval x = .string r) (hy : a.eval y = .string s) (hz : a.eval z = .string t)
    (h : ∀ w' g, Tx3 w' g → Below w.heap.size w w' → wpList Try.prog ops Q rest (a.put op.dst (.slice (some ⟨g, 0, none⟩) 3 3)) w') : wpList Try.prog ops Q (op :: rest) a w :=
  wpList_plain hgd fun K hK => by
  obtain ⟨i, hi, hz0, hz1, hz2⟩ := info_parts info9
  have hn := heap_alloc_new w (.cells #[.string r, .string s, .string t] 9)
  have hT : Tx3 (w.alloc (.cells #[.string r, .string s, .string t] 9)) w.heap.size := fun j hj => by
    have h012 : j = 0 ∨ j = 1 ∨ j = 2 := by omega
    rcases h012 with rfl | rfl | rfl
    · exact ⟨r, by rw [cell_of_head hn]; rfl, hr⟩
    · exact ⟨s, by rw [cell_of_head hn]; rfl, hs⟩
    · exact ⟨t, by rw [cell_of_head hn]; rfl, ht⟩
  refine wp_buildSlice 41 9 3 _ ho #[.string r, .string s, .string t] i _ Try.underlying41 hi hz0 (by rw [hz1]; decide) (by rw [hz1]; decide) ?_ (hK _ _ (h _ _ hT (bel1 _ _)))
  have := Great.fill_whole (s := 1) (by decide) [Value.string r, .string s, .string t] ((Array.range (3 * i.size)).map ((Value.string ⟨#[]⟩).cells[· % (Value.string ⟨#[]⟩).cells.size]!))
    (by intro v hv; simp at hv; rcases hv with hv | hv | hv <;> subst hv <;> rfl) (by simp [hz1])
  rw [hz1] at this ⊢
  simpa [hx, hy, hz, Value.cells] using this
set_option maxRecDepth 20000 in
set_option maxHeartbeats 16000000 in
theorem texts_walk (x0 : Option Addr) (y0 z0 : Nat) (l0 : List St) (x1 : Option Addr) (y1 z1 : Nat) (l1 : List Int) (few : Int) (s : ByteArray) (at' c how : Int) (W : World) (h0 : InA W x0 y0 z0 l0) (h1 : InN W x1 y1 z1 l1) (hfew : 0 ≤ few ∧ few < 256) (hs : s.size ≤ maxLen) (hat : 0 ≤ at' ∧ at' < 65536) (_hc : 0 ≤ c ∧ c < 256) (hhow : 0 ≤ how ∧ how < 256) :
    Calls Try.prog 4 #[.slice x0 y0 z0, .slice x1 y1 z1, .int .u8 few, .string s, .int .u16 at', .int .u8 c, .int .u8 how] W fun e w' => e = .returned (.bool true) ∧ Below W.heap.size W w' := by
  have H0 := hid h0
  have H1 := hid h1.1
  have HF := hid hfew
  have ba0 := hat.1
  have ba1 := hat.2
  have bh0 := hhow.1
  have bh1 := hhow.2
  have hy0 := Nat.le_trans h0.1.cap1 h0.1.cap2
  have hy1 := h1.2
  have hs0 : s.size ≤ 9223372036854775807 := by unfold maxLen at hs; omega
  have HX0 : Hid True := trivial
  clear h0 h1 hfew hhow hat hs
  by_cases h40 : 40 < y0
  · have d0 : decide ((40 : Int) < (y0 : Int)) = true := decide_eq_true (by omega)
    go_enter Try.func4, Try.ntmps4
    go_wp2_with (go_at_call 7; have kill := HX0.out; refine (known7 _).mono ?_; rintro e w1 ⟨rfl, l1⟩; have L1 := hid l1; clear l1 kill HX0)
    go_ret
    exact ⟨rfl, L1.out⟩
  have d0 : decide ((40 : Int) < (y0 : Int)) = false := decide_eq_false (by omega)
  by_cases h41 : 40 < y1
  · have d1 : decide ((40 : Int) < (y1 : Int)) = true := decide_eq_true (by omega)
    go_enter Try.func4, Try.ntmps4
    go_wp2_with (go_at_call 7; have kill := HX0.out; refine (known7 _).mono ?_; rintro e w1 ⟨rfl, l1⟩; have L1 := hid l1; clear l1 kill HX0)
    go_ret
    exact ⟨rfl, L1.out⟩
  have d1 : decide ((40 : Int) < (y1 : Int)) = false := decide_eq_false (by omega)
  by_cases h42 : 200 < s.size
  · have d2 : decide ((200 : Int) < (s.size : Int)) = true := decide_eq_true (by omega)
    go_enter Try.func4, Try.ntmps4
    go_wp2_with (go_at_call 7; have kill := HX0.out; refine (known7 _).mono ?_; rintro e w1 ⟨rfl, l1⟩; have L1 := hid l1; clear l1 kill HX0)
    go_ret
    exact ⟨rfl, L1.out⟩
  have d2 : decide ((200 : Int) < (s.size : Int)) = false := decide_eq_false (by omega)
  have hq0 : y0 ≤ 1000 := by omega
  have hq1 : y1 ≤ 40 := by omega
  have hs1 : s.size ≤ 200 := by omega
  clear h40 h41 h42
  obtain ⟨TR, hTR⟩ : ∃ T, strOfNums (textL l0) = T := ⟨_, rfl⟩
  have HTR := hid hTR
  clear hTR
  go_enter Try.func4, Try.ntmps4
  go_upto_if 61 with (first | (go_at_call 14; have kill := L5.out; refine (text14 _ _ _ l0 _ (H0.out.1.below L5.out) hq0 H0.out.2).mono ?_; rintro e w6 ⟨rfl, l6⟩; rw [HTR.out]; have L6 := hid (sq L5.out l6); clear l6 kill L5) | (go_at_call 13; have kill := L4.out; refine (text13 _ _ _ l0 _ (H0.out.1.below L4.out) hq0 H0.out.2).mono ?_; rintro e w5 ⟨rfl, l5⟩; rw [HTR.out]; have L5 := hid (sq L4.out l5); clear l5 kill L4) | (go_at_call 14; have kill := L3.out; refine (text14 _ _ _ ls _ M2.out (by omega) OK2.out).mono ?_; rintro e w4 ⟨rfl, l4⟩; rw [HT.out]; have L4 := hid (sq L3.out l4); clear l4 kill L3) | (go_at_call 13; have kill := L2.out; refine (text13 _ _ _ ls _ M2.out (by omega) OK2.out).mono ?_; rintro e w3 ⟨rfl, l3⟩; rw [HT.out]; have L3 := hid (sq L2.out l3); have M2 := hid (M2.out.below l3); clear l3 kill L2) | (go_at_call 8; have kill := L1.out; refine (table8 x1 y1 z1 few _ (H1.out.below L1.out) (by omega) HF.out).mono ?_; rintro e w2 ⟨a2, c2, ls, rfl, m2, ok2⟩; have M2 := hid m2.given; have OK2 := hid ok2; have LS : Hid (ls.length = y1) := m2.1.len; have L2 := hid (sq L1.out m2.2); obtain ⟨T, hT⟩ : ∃ T, strOfNums (textL ls) = T := ⟨_, rfl⟩; have HT := hid hT; clear m2 ok2 hT kill L1) | (go_at_call 7; have kill := HX0.out; refine (known7 _).mono ?_; rintro e w1 ⟨rfl, l1⟩; have L1 := hid l1; clear l1 kill HX0))
  have hTs : T.size ≤ 560 := by
    have h := textL_len ls
    have h2 := LS.out
    rw [← HT.out, strOfNums_size]; omega
  go_cut [17] from 62 to 81 (fun v wx => ∃ u : ByteArray, v = .string u ∧ u.size ≤ 3000 ∧ Below W.heap.size W wx)
  case first =>
    by_cases hT0 : T.size = 0
    · have e0 : T = ⟨#[]⟩ := ByteArray.ext (Array.eq_empty_of_size_eq_zero hT0)
      subst e0
      go_wp2
      go_meet
      case rel => exact ⟨_, rfl, by decide, L6.out⟩
    · have hT1 : 0 < T.size := by omega
      have fa : IntKind.i64.wrap at' = at' := by rw [IntKind.wrap_i64]; omega
      have hz : ((T.size : Int) == 0) = false := by rw [beq_eq_false_iff_ne]; omega
      obtain ⟨iz, hiz⟩ : ∃ z, at'.tmod (T.size : Int) = z := ⟨_, rfl⟩
      have bi := tmod_bd at' (T.size : Int) ba0 (by omega)
      rw [hiz] at bi
      obtain ⟨i, rfl⟩ : ∃ i : Nat, iz = (i : Int) := ⟨iz.toNat, by omega⟩
      have hi1 : i < T.size := by omega
      obtain ⟨hz2, hh2⟩ : ∃ z, how.tmod 2 = z := ⟨_, rfl⟩
      have bh := tmod_bd how 2 bh0 (by omega)
      rw [hh2] at bh
      have fh : IntKind.i64.wrap hz2 = hz2 := by rw [IntKind.wrap_i64]; omega
      obtain ⟨j, hj⟩ : ∃ j : Nat, (i : Int) + hz2 = (j : Int) := ⟨(i + hz2).toNat, by omega⟩
      have hj1 : j ≤ T.size := by omega
      have hj2 : 0 ≤ (j : Int) := by omega
      have fj : IntKind.i64.wrap (j : Int) = (j : Int) := by rw [IntKind.wrap_i64]; omega
      obtain ⟨A, hA⟩ : ∃ A, T.extract 0 i = A := ⟨_, rfl⟩
      obtain ⟨B, hB⟩ : ∃ B, T.extract j T.size = B := ⟨_, rfl⟩
      have zA : A.size ≤ 560 := by rw [← hA, ByteArray.size_extract]; omega
      have zB : B.size ≤ 560 := by rw [← hB, ByteArray.size_extract]; omega
      go_upto_region 12 with fail
      refine wp_region_noPanic ?_
      refine wp_region_held_drew (S := (fun _ : World => True)) (by kernel_rfl) trivial (fun hHeld => ?_)
      have QZ := hid (L6.out.drew)
      (refine tk_yes (v := ?_) 0 (some 67) rfl rfl (by kernel_rfl) (by kernel_rfl) (by kernel_rfl) (fun _ _ _ h => h) (by rfl) ?_ hHeld ?_; rotate_left; focus (intro w hSw; go_simp; try with_reducible rfl))
      simp only [Act.put, List.setIfInBounds_toArray, List.set_cons_zero, List.set_cons_succ]
      (refine tk_yes (v := ?_) 1 (some 68) rfl rfl (by kernel_rfl) (by kernel_rfl) (by kernel_rfl) (fun _ _ _ h => h) (by rfl) ?_ hHeld ?_; rotate_left; focus (intro w hSw; go_simp; try with_reducible rfl))
      simp only [Act.put, List.setIfInBounds_toArray, List.set_cons_zero, List.set_cons_succ]
      (refine tk_yes (v := .string A) 2 (some 69) rfl rfl (by kernel_rfl) (by kernel_rfl) (by kernel_rfl) (fun _ _ _ h => h) (by rfl) ?_ hHeld ?_; focus (intro w hSw; go_simp; first | done | omega | (intros; exfalso; omega) | with_reducible rfl))
      simp only [Act.put, List.setIfInBounds_toArray, List.set_cons_zero, List.set_cons_succ]
      (refine tk_yes (v := ?_) 3 (some 70) rfl rfl (by kernel_rfl) (by kernel_rfl) (by kernel_rfl) (fun _ _ _ h => h) (by rfl) ?_ hHeld ?_; rotate_left; focus (intro w hSw; go_simp; try with_reducible rfl))
      simp only [Act.put, List.setIfInBounds_toArray, List.set_cons_zero, List.set_cons_succ]
      (refine tk_yes (v := ?_) 7 (some 74) rfl rfl (by kernel_rfl) (by kernel_rfl) (by kernel_rfl) (fun _ _ _ h => h) (by rfl) ?_ hHeld ?_; rotate_left; focus (intro w hSw; go_simp; try with_reducible rfl))
      simp only [Act.put, List.setIfInBounds_toArray, List.set_cons_zero, List.set_cons_succ]
      (refine tk_yes (v := ?_) 8 (some 75) rfl rfl (by kernel_rfl) (by kernel_rfl) (by kernel_rfl) (fun _ _ _ h => h) (by rfl) ?_ hHeld ?_; rotate_left; focus (intro w hSw; go_simp; try with_reducible rfl))
      simp only [Act.put, List.setIfInBounds_toArray, List.set_cons_zero, List.set_cons_succ]
      (refine tk_yes (v := ?_) 9 (some 76) rfl rfl (by kernel_rfl) (by kernel_rfl) (by kernel_rfl) (fun _ _ _ h => h) (by rfl) ?_ hHeld ?_; rotate_left; focus (intro w hSw; go_simp; try with_reducible rfl))
      simp only [Act.put, List.setIfInBounds_toArray, List.set_cons_zero, List.set_cons_succ]
      (refine tk_yes (v := .int .u8 hz2) 10 (some 77) rfl rfl (by kernel_rfl) (by kernel_rfl) (by kernel_rfl) (fun _ _ _ h => h) (by rfl) ?_ hHeld ?_; focus (intro w hSw; go_simp; first | done | omega | (intros; exfalso; omega) | with_reducible rfl))
      simp only [Act.put, List.setIfInBounds_toArray, List.set_cons_zero, List.set_cons_succ]
      (refine tk_yes (v := .int .i64 hz2) 11 (some 78) rfl rfl (by kernel_rfl) (by kernel_rfl) (by kernel_rfl) (fun _ _ _ h => h) (by rfl) ?_ hHeld ?_; focus (intro w hSw; go_simp; first | done | omega | (intros; exfalso; omega) | with_reducible rfl))
      simp only [Act.put, List.setIfInBounds_toArray, List.set_cons_zero, List.set_cons_succ]
      (refine tk_yes (v := .int .i64 (j : Int)) 12 (some 79) rfl rfl (by kernel_rfl) (by kernel_rfl) (by kernel_rfl) (fun _ _ _ h => h) (by rfl) ?_ hHeld ?_; focus (intro w hSw; go_simp; first | done | omega | (intros; exfalso; omega) | with_reducible rfl))
      simp only [Act.put, List.setIfInBounds_toArray, List.set_cons_zero, List.set_cons_succ]
      (refine tk_yes (v := .string B) 13 (some 80) rfl rfl (by kernel_rfl) (by kernel_rfl) (by kernel_rfl) (fun _ _ _ h => h) (by rfl) ?_ hHeld ?_; focus (intro w hSw; go_simp; first | done | omega | (intros; exfalso; omega) | with_reducible rfl))
      simp only [Act.put, List.setIfInBounds_toArray, List.set_cons_zero, List.set_cons_succ]
      refine wpAnyH_ready (rs := [4]) (by kernel_rfl) (by simp) ?_
      refine AllReadyH.cons rfl (fun KC hK => ?_) AllReadyH.nil
      refine step_of (o := { dst := some 71, op := _, type := _, pos := _, after := _, guard := none }) rfl (bsKw (v := c) _ rfl rfl ?_)
      intro b6 w6b r6 l6b
      have R6 := hid r6
      have LB := hid (sq QZ.out l6b)
      refine hK.out _ _ trivial (fun hHeld => ?_)
      clear hK r6 l6b
      try simp only [Act.put, List.setIfInBounds_toArray, List.set_cons_zero, List.set_cons_succ]
      refine wpAnyH_ready (rs := [5]) (by kernel_rfl) (by simp) ?_
      refine AllReadyH.cons rfl (fun KC hK => ?_) AllReadyH.nil
      refine step_of (o := { dst := some 72, op := _, type := _, pos := _, after := _, guard := none }) rfl (cvKw R6.out rfl _ rfl rfl ?_)
      refine hK.out _ _ trivial (fun hHeld => ?_)
      clear hK
      try simp only [Act.put, List.setIfInBounds_toArray, List.set_cons_zero, List.set_cons_succ]
      obtain ⟨C1, hC1⟩ : ∃ C, strOfNums [c] = C := ⟨_, rfl⟩
      have zC : C1.size = 1 := by rw [← hC1, strOfNums_size]; rfl
      rw [hC1]
      (refine tk_yes (v := .string (A ++ C1)) 6 (some 73) rfl rfl (by kernel_rfl) (by kernel_rfl) (by kernel_rfl) (fun _ _ _ h => h) (by rfl) ?_ hHeld ?_; focus (intro w hSw; go_simp; first | done | omega | (intros; exfalso; omega) | with_reducible rfl))
      simp only [Act.put, List.setIfInBounds_toArray, List.set_cons_zero, List.set_cons_succ]
      (refine tk_yes (v := .string (A ++ C1 ++ B)) 14 (some 81) rfl rfl (by kernel_rfl) (by kernel_rfl) (by kernel_rfl) (fun _ _ _ h => h) (by rfl) ?_ hHeld ?_; focus (intro w hSw; go_simp; first | done | omega | (intros; exfalso; omega) | with_reducible rfl))
      simp only [Act.put, List.setIfInBounds_toArray, List.set_cons_zero, List.set_cons_succ]
      (refine tk_yes (v := ?_) 15 (some 17) rfl rfl (by kernel_rfl) (by kernel_rfl) (by kernel_rfl) (fun _ _ _ h => h) (by rfl) ?_ hHeld ?_; rotate_left; focus (intro w hSw; go_simp; try with_reducible rfl))
      simp only [Act.put, List.setIfInBounds_toArray, List.set_cons_zero, List.set_cons_succ]
      refine wpAnyH_done (by kernel_rfl) ?_ _
      refine NoPanic.normal ?_
      go_wp2
      go_meet
      case rel => exact ⟨A ++ C1 ++ B, rfl, by simp only [ByteArray.size_append]; omega, LB.out⟩
  case rest =>
    obtain ⟨u, rfl, hu, lc⟩ := hcut
    have LC := hid lc
    clear lc L6 M2
    go_upto_region 14 with (have kill := LC.out; refine bsT3 (by omega) hu (by omega) rfl _ _ _ rfl rfl rfl rfl ?_; intro w9 g h9 l9; have G9 := hid h9; have L9 := hid (sq LC.out l9); clear h9 l9 kill LC)
    go_loopw [87] (fun i wr => ∃ j : Nat, j ≤ 3 ∧ i = .int .i64 (j : Int) ∧ Tx3 wr g ∧ Below W.heap.size W wr) (fun i _ => 3 - (intOf i).toNat)
    case atStart => exact ⟨0, by omega, rfl, G9.out, L9.out⟩
    case round =>
      obtain ⟨j, hj, rfl, hg, hl⟩ := hrel
      have G1 := hid hg
      have E1 := hid hl
      clear hg hl G9 L9
      by_cases hlt : j < 3
      · obtain ⟨t, ct, ht⟩ := G1.out j hlt
        obtain ⟨⟨pc1, pl1, cnt⟩, hp⟩ : ∃ p, prsL (panL t) = p := ⟨_, rfl⟩
        have HP := hid hp
        have HTT : Hid (t.size ≤ 1000000) := by unfold Hid; omega
        clear hp
        have hjj : (j : Int) < 3 := by omega
        go_wp2_with (first | (go_at_call 17; have kill := L3.out; refine (states17 _ _ _ _ _ _ _ (M2.out.given.below M3.out.2) M3.out.given).mono ?_; rintro e w4 ⟨rfl, l4⟩; have L4 := hid (sq L3.out l4); clear l4 kill L3) | (go_at_call 16; have kill := L2.out; refine (parse16s t _ HTT.out).mono ?_; rintro e w3 ⟨a3, n3, c3, rfl, m3⟩; rw [HP.out] at m3 ⊢; obtain rfl := m3.1.len.symm.trans (sts_len _ _); have M3 := hid m3; have L3 := hid (sq L2.out m3.2); clear m3 kill L2) | (go_at_call 15; have kill := E1.out; refine (parse15s t _ HTT.out).mono ?_; rintro e w2 ⟨a2, n2, c2, rfl, m2⟩; rw [HP.out] at m2 ⊢; obtain rfl := m2.1.len.symm.trans (sts_len _ _); have M2 := hid m2; have L2 := hid m2.2; clear m2 kill))
        go_roundw
        case rel => exact ⟨j + 1, by omega, by go_num, G1.out.below L4.out, sq E1.out L4.out⟩
        case measure => simp [intOf]; omega
      · obtain rfl : 3 = j := by omega
        go_wp2
        go_ret
        exact ⟨rfl, E1.out⟩
theorem tableTexts_own : ownKnob Try.prog.godebug = none := by kernel_rfl
theorem tableTexts_laid : laidOutB Try.prog = true := by kernel_rfl

set_option maxRecDepth 100000 in
set_option maxHeartbeats 1000000 in
theorem tableTexts_lifted (os : Os) (started : os.Started) (H : Type) (enc : TypeId × Value → H) :
    ReturnsInHanded {} Try.checked os 4 .any (Rows.tableTextsSpec.pre6 enc Try.prog Try.f4 Rows.tableTextsRow.domain false) (Rows.tableTextsSpec.post enc Try.prog Try.f4 false true false false) := by
  refine returnsInHanded_of_change (C := Try.checked) tableTexts_own started (by kernel_rfl) Try.func4
    (ChangeSpec.witness6 (enc := enc) (C := Try.checked) false ⟨#[], #[.slice none 0 0, .slice none 0 0, .int .u8 0, .string ⟨#[]⟩, .int .u16 0, .int .u8 0, .int .u8 0], []⟩ 8 (by kernel_rfl) (by kernel_rfl) (by kernel_rfl) (by kernel_rfl)) ?_
  intro W base args ds gs before hval0 hW hcnd _
  have hval : ∀ (j : Nat) t v, Try.f4.params[j]? = some t → args[j]? = some v → Value.okWide Try.prog W .any base t v := hval0
  have hW' := hW
  obtain ⟨p, q, hA0, hV, rfl, hfz, hnd⟩ := hW
  have hA : DataW.TrodAll enc Try.prog W 0 (fun _ => true) true Try.f4.params.toList args.toList ds p := hA0
  rw [Try.params4] at hA hval
  obtain ⟨v0, vs0, d0, ds0, p0, q0, hargs, rfl, rfl, h0, r0⟩ := trodAll_cons hA
  obtain ⟨v1, vs1, d1, ds1, p1, q1, rfl, rfl, rfl, h1, r1⟩ := trodAll_cons r0
  obtain ⟨v2, vs2, d2, ds2, p2, q2, rfl, rfl, rfl, h2, r2⟩ := trodAll_cons r1
  obtain ⟨v3, vs3, d3, ds3, p3, q3, rfl, rfl, rfl, h3, r3⟩ := trodAll_cons r2
  obtain ⟨v4, vs4, d4, ds4, p4, q4, rfl, rfl, rfl, h4, r4⟩ := trodAll_cons r3
  obtain ⟨v5, vs5, d5, ds5, p5, q5, rfl, rfl, rfl, h5, r5⟩ := trodAll_cons r4
  obtain ⟨v6, vs6, d6, ds6, p6, q6, rfl, rfl, rfl, h6, r6⟩ := trodAll_cons r5
  obtain ⟨rfl, rfl, rfl⟩ := trodAll_nil r6
  obtain rfl : args = #[v0, v1, v2, v3, v4, v5, v6] := by cases args; simp_all
  obtain ⟨rfl, rfl⟩ := trodVars_none hV
  obtain ⟨x0, y0, z0, rfl⟩ := okWide_slice Try.underlying22 (hval 0 22 v0 rfl rfl)
  have k0 := h0
  have lt0 : ∀ x ∈ p0, x.block < W.heap.size := by obtain ⟨m, hm⟩ := k0; exact DataW.trod_lt m _ _ _ hm
  obtain ⟨a0, len0, cap0, l0, e0, w0⟩ : ∃ a len cap l, Value.slice x0 y0 z0 = .slice a len cap ∧ InA W a len cap l := by
    obtain ⟨fuel, hf⟩ := h0
    exact open_inA hf
  cases e0
  obtain ⟨x1, y1, z1, rfl⟩ := okWide_slice Try.underlying23 (hval 1 23 v1 rfl rfl)
  have k1 := h1
  have lt1 : ∀ x ∈ p1, x.block < W.heap.size := by obtain ⟨m, hm⟩ := k1; exact DataW.trod_lt m _ _ _ hm
  obtain ⟨a1, len1, cap1, l1, e1, w1⟩ : ∃ a len cap l, Value.slice x1 y1 z1 = .slice a len cap ∧ InN W a len cap l := by
    obtain ⟨fuel, hf⟩ := h1
    exact open_inN hf
  cases e1
  obtain ⟨a2, rfl, rfl, rfl, w2⟩ := open_int Try.underlying5 (hval 2 5 v2 rfl rfl) h2
  obtain ⟨a3, rfl, rfl, rfl, w3⟩ := Go.ChangeMaps.open_string Try.underlying9 (hval 3 9 v3 rfl rfl) h3
  obtain ⟨a4, rfl, rfl, rfl, w4⟩ := open_int Try.underlying38 (hval 4 38 v4 rfl rfl) h4
  obtain ⟨a5, rfl, rfl, rfl, w5⟩ := open_int Try.underlying5 (hval 5 5 v5 rfl rfl) h5
  obtain ⟨a6, rfl, rfl, rfl, w6⟩ := open_int Try.underlying5 (hval 6 5 v6 rfl rfl) h6
  clear hA0 hval0
  refine (texts_walk x0 y0 z0 l0 x1 y1 z1 l1 a2 a3 a4 a5 a6 W w0 w1 (by have := bounds_u8 w2; omega) w3 (by have := bounds_u16 w4; omega) (by have := bounds_u8 w5; omega) (by have := bounds_u8 w6; omega)).mono fun e W' ⟨he, bel⟩ => ?_
  subst he
  exact ⟨_, rfl, _, _, _, [], _, [], hW', trodAll_mk1 (shut_bool Try.underlying4 _), (trodAll_cons_mk (Below.trod tableTexts_laid (by kernel_rfl) (of_decide_eq_true (by kernel_rfl)) k0 bel lt0) (trodAll_cons_mk (Below.trod tableTexts_laid (by kernel_rfl) (of_decide_eq_true (by kernel_rfl)) k1 bel lt1) (trodAll_cons_mk (shut_int Try.underlying5 w2) (trodAll_cons_mk (Go.ChangeMaps.shut_string Try.underlying9 w3) (trodAll_cons_mk (shut_int Try.underlying38 w4) (trodAll_cons_mk (shut_int Try.underlying5 w5) (trodAll_cons_mk (shut_int Try.underlying5 w6) trodAll_mk0))))))), rfl, bel.frame _, fun h => by cases h⟩

theorem tableTexts_over : Rows.tableTextsRow.holds Try.pinned (OpenSpec.ofChange Rows.tableTextsSpec) :=
  OpenClaim.holds_of_wide 4 Try.f4 rfl rfl rfl rfl rfl rfl rfl ⟨rfl, rfl, rfl, rfl, rfl⟩ rfl rfl rfl rfl rfl (by kernel_rfl) Try.func4 (by kernel_rfl)
    (of_decide_eq_true (by kernel_rfl)) (by unfold Func.isWrapper; first | (rw [if_pos (by decide +kernel)]; kernel_rfl) | (rw [if_neg (by decide +kernel)]; exact ⟨rfl, rfl⟩))
    (fun os started H enc _ => tableTexts_lifted os started H enc)

/-- The statement. -/
theorem tableTexts_holds : Rows.TableTextsSaid := tableTexts_over
#print axioms tableTexts_holds
end Go.Proofs.Ythhgochnlbiaaaa
