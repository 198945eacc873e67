/- StanPlays: any script of numbers comes to just the document's, round the greatest one too; for every script. -/
import Derived.Test.YtahkgbhikkebhaaKnown
import Derived.Test.YtahkgbhikkebhaaActs
namespace Go.Proofs.Ytahkgbhikkebhaa
open Go.ChangeShapes Go.WideShapes Go.ChangeAt Go.RowKit Go.Maps

theorem lookI_ex {e : Operand → Value} {m x : Operand} {w : World} {o : Oper} {b n : Nat} {f : Int → Int} (ho : o.op = Op.lookup 26 m x false) (h : MR 27 keyI w b n f) (t : Int) (hm : e m = .map (some b)) (hx : e x = .int .u16 t) (h0 : 0 ≤ t) (h1 : t < 65536) :
    (execOp e o).run Try.prog w = .ok (.value (.int .u32 (f t))) w := by
  have hrun := h.look law27 Try.underlying26 t (keyOf_I t h0 h1)
  unfold keyI at hrun
  simp [execOp, ho, hm, hx, hrun]
/-- The book and the document's map, both of the call's own memory, hold the same. -/
structure PL (w0 w : World) (p b bl n m : Nat) (f g : Int → Int) : Prop where
  ob : OB w0 w p b n f
  mr : MR 27 keyI w bl m g
  hl : w0.heap.size ≤ bl
  ne : b ≠ bl
section
variable {w0 w w' : World} {p b bl n m : Nat} {f g : Int → Int}
theorem PL.below (h : PL w0 w p b bl n m f g) (k : Below w.heap.size w w') : PL w0 w' p b bl n m f g := ⟨h.ob.below k, h.mr.below k, h.hl, h.ne⟩
theorem PL.drew (h : PL w0 w p b bl n m f g) : PL w0 w.drew p b bl n m f g := ⟨⟨h.ob.bk.drew, h.ob.old.drew, h.ob.hp, h.ob.hb⟩, h.mr, h.hl, h.ne⟩
theorem PL.book {n' : Nat} {f' : Int → Int} (h : PL w0 w p b bl n m f g) (k : BK w' p b n' f') (hg : w.grownBy w' (some b)) : PL w0 w' p b bl n' m f' g :=
  ⟨h.ob.grown k hg, h.mr.kept hg (by have := h.ne; simp; omega), h.hl, h.ne⟩
theorem PL.last {m' : Nat} {g' : Int → Int} (h : PL w0 w p b bl n m f g) (k : MR 27 keyI w' bl m' g') (hg : w.grownBy w' (some bl)) : PL w0 w' p b bl n m' f g' := by
  refine ⟨⟨h.ob.bk.grown hg ?_ (by simpa using h.ne), h.ob.old.grown hg h.ob.old.size (fun _ e => by cases e; exact h.hl), h.ob.hp, h.ob.hb⟩, k, h.hl, h.ne⟩
  intro e
  cases e
  obtain ⟨es, c, hb⟩ := h.mr.type
  rw [h.ob.bk.head] at hb
  cases hb
theorem PL.mono {n' m' : Nat} (h : PL w0 w p b bl n m f g) (hn : n ≤ n') (hm : m ≤ m') : PL w0 w p b bl n' m' f g := ⟨⟨h.ob.bk.mono hn, h.ob.old, h.ob.hp, h.ob.hb⟩, h.mr.mono hm, h.hl, h.ne⟩
end
/-- Each number is 0 to the greatest one. -/
def Lim (f : Int → Int) : Prop := ∀ t, 0 ≤ f t ∧ f t ≤ 999999
theorem Lim.upd {f : Int → Int} (h : Lim f) (t v : Int) (h0 : 0 ≤ v) (h1 : v ≤ 999999) : Lim (upd f t v) := by
  intro x; unfold Ytahkgbhikkebhaa.upd; split
  · omega
  · exact h x
theorem Lim.saw {f : Int → Int} (h : Lim f) (t s : Int) (h0 : 0 ≤ s) : Lim (sawL f t s) := by
  unfold sawL; split
  · exact h.upd _ _ h0 (by omega)
  · exact h
set_option maxRecDepth 20000 in
set_option maxHeartbeats 8000000 in
theorem plays3 (ao : Option Addr) (len cap : Nat) (l : List Int) (w : World) (hl : InA w ao len cap l) :
    Calls Try.prog 3 #[.slice ao len cap] w fun e w' => e = .returned (.bool true) ∧ Below w.heap.size w w' := by
  obtain ⟨hrow, hlen⟩ := hl
  have TK := hid True.intro
  have hmm := @run_makeMap Try.prog
  by_cases hbig : 100 < len
  · have hd : (100 : Int) < (len : Int) := by omega
    go_enter Try.func3, Try.ntmps3
    go_wp2_with (go_at_call 6; have kill := TK.out; refine (known6 _).mono ?_; rintro e w1 ⟨rfl, l1⟩; have L1 := hid l1; clear l1 kill TK)
    go_ret
    exact ⟨rfl, L1.out⟩
  have hsm : len ≤ 100 := by omega
  have hd : decide ((100 : Int) < (len : Int)) = false := decide_eq_false (by omega)
  have hd2 : ¬ (100 : Int) < (len : Int) := by omega
  go_enter Try.func3, Try.ntmps3
  go_upto_region 7 with (first
    | (go_at_call 7; have kill := L1.out; refine (new7 _).mono ?_; rintro e w2 ⟨p, b, rfl, k1, hp, hb, l2⟩; have NB := hid k1.map.lt; have K1 := hid (OB.mk k1 (sq L1.out l2) (Nat.le_trans L1.out.size hp) (Nat.le_trans L1.out.size hb)); clear k1 l2 hp hb kill L1)
    | (go_at_call 6; have kill := TK.out; refine (known6 _).mono ?_; rintro e w1 ⟨rfl, l1⟩; have L1 := hid l1; clear l1 kill TK))
  have R0 : Hid (PL w (w2.alloc (.map #[] 0)) p b w2.heap.size 0 0 (fun _ => 0) (fun _ => 0)) := hid ⟨K1.out.below (bel1 _ _), MR.made 27 keyI w2, K1.out.old.size, by have := NB.out; omega⟩
  clear hmm K1 NB hd hd2 hbig
  generalize w2.heap.size = bl at *
  generalize w2.alloc (.map #[] 0) = w3 at *
  have HROW := hid hrow
  clear hrow
  go_upto_region 8 with (fail)
  go_loopw [5] (fun i wr => ∃ (k : Nat) (f : Int → Int), k ≤ len ∧ i = .int .i64 (k : Int) ∧ Lim f ∧ PL w wr p b bl k (2 * k) f f) (fun i _ => len - (intOf i).toNat)
  case atStart => exact ⟨0, _, Nat.zero_le _, rfl, fun t => by omega, R0.out⟩
  case round =>
    obtain ⟨k, f, hk, rfl, hlim, hpl⟩ := hrel
    have R1 := hid hpl
    have LM := hid hlim
    clear hpl hlim R0
    by_cases hlt : k < len
    · obtain ⟨B, o, x, y, z, rfl, hact⟩ := HROW.out k hlt
      obtain ⟨c0, c1, c2, hx, hy, hz⟩ := hact.below R1.out.ob.old
      clear hact
      have j2 : (k : Int) < (len : Int) := by omega
      by_cases h3 : k % 3 = 0
      · by_cases h4 : x % 4 = 0
        · have e4 : x.tmod 4 = 0 := by rw [Int.tmod_eq_emod_of_nonneg hx.1]; omega
          by_cases h8 : x % 8 = 0
          · have e3 : (k : Int).tmod 3 = 0 := by rw [Int.tmod_eq_emod_of_nonneg (by omega)]; omega
            obtain ⟨T, eT, T0, T1⟩ : ∃ T, y = T ∧ 0 ≤ T ∧ T < 65536 := ⟨_, rfl, hy.1, hy.2⟩
            subst eT
            have e8 : x.tmod 8 = 0 := by rw [Int.tmod_eq_emod_of_nonneg hx.1]; omega
            obtain ⟨zz, ez, p0, p1⟩ : ∃ zz, z.tmod 3 = zz ∧ 0 ≤ zz ∧ zz < 3 := ⟨z % 3, by rw [Int.tmod_eq_emod_of_nonneg hz.1], by omega, by omega⟩
            obtain ⟨NN, eN, N0, N1⟩ : ∃ NN, IntKind.u32.wrap (999999 - zz) = NN ∧ 0 ≤ NN ∧ NN < 4294967296 := ⟨999999 - zz, by rw [IntKind.wrap_u32]; omega, by omega, by omega⟩
            clear p0 p1
            obtain ⟨X, hX⟩ : ∃ X, f y = X := ⟨_, rfl⟩
            have HX := hid hX
            have HT0 := hid T0
            have HT1 := hid T1
            have HN0 := hid N0
            have HN1 := hid N1
            have HS : Hid (sawL f y NN = if X < NN ∧ NN ≤ 999999 then upd f y NN else f) := by unfold Hid sawL; rw [hX]
            have R2 := hid (R1.out.below (bel1 wr (.cells #[.int .u8 x, .int .u16 y, .int .u32 z] 30)))
            clear hX T0 T1 N0 N1
            go_upto_region 24 with (fail)
            generalize wr.alloc (.cells #[.int .u8 x, .int .u16 y, .int .u32 z] 30) = w4 at *
            clear c0 c1 c2 j2 e3 e4 e8 hx hy ez eN hz
            by_cases g1 : X < NN
            · by_cases g2 : NN ≤ 999999
              · have HE := hid (HS.out.trans (if_pos ⟨g1, g2⟩))
                clear HS
                go_upto_region 27 with (first | (at_lookup; refine lookI rfl _ _ rfl R3.out.mr y rfl rfl HT0.out HT1.out ?_; rw [HX.out]) | (at_mapUpdate; have kill := R3.out; refine storeI rfl _ _ _ rfl R3.out.mr (by omega) y NN rfl rfl rfl HT0.out HT1.out HN0.out HN1.out ?_; intro w6 m6 g6; have R4 := hid (R3.out.last m6 g6); clear m6 g6 kill R3) | (go_at_call 8; have kill := R2.out; refine (saw8 R2.out.ob.bk (by omega) y NN HT0.out HT1.out HN0.out HN1.out).mono ?_; rw [HE.out]; rintro e w5 ⟨rfl, b5, g5⟩; have R3 := hid (R2.out.book b5 g5); clear b5 g5 kill R2))
                have Q2 := hid R4.out.drew
                refine wp_region_noPanic ?_
                refine wp_region_held_drew (S := (fun w' : World => MR 27 keyI w' bl (2 * k + 1) (upd f y NN))) (by kernel_rfl) Q2.out.mr (fun hHeld => ?_)
                (refine tk_yes (v := ?_) 0 (some 84) rfl rfl (by kernel_rfl) (by kernel_rfl) (by kernel_rfl) (fun _ _ _ h => h) (by rfl) ?_ hHeld ?_; rotate_left; focus (intro w hSw; go_simp; try with_reducible rfl))
                simp only [Act.put, List.setIfInBounds_toArray, List.set_cons_zero, List.set_cons_succ]
                (refine tk_yes (v := ?_) 1 (some 85) rfl rfl (by kernel_rfl) (by kernel_rfl) (by kernel_rfl) (fun _ _ _ h => h) (by rfl) ?_ hHeld ?_; rotate_left; focus (intro w hSw; go_simp; try with_reducible rfl))
                simp only [Act.put, List.setIfInBounds_toArray, List.set_cons_zero, List.set_cons_succ]
                (refine tk_yes (v := ?_) 3 (some 87) rfl rfl (by kernel_rfl) (by kernel_rfl) (by kernel_rfl) (fun _ _ _ h => h) (by rfl) ?_ hHeld ?_; rotate_left; focus (intro w hSw; go_simp; try with_reducible rfl))
                simp only [Act.put, List.setIfInBounds_toArray, List.set_cons_zero, List.set_cons_succ]
                (refine tk_yes (v := ?_) 4 (some 88) rfl rfl (by kernel_rfl) (by kernel_rfl) (by kernel_rfl) (fun _ _ _ h => h) (by rfl) ?_ hHeld ?_; rotate_left; focus (intro w hSw; go_simp; try with_reducible rfl))
                simp only [Act.put, List.setIfInBounds_toArray, List.set_cons_zero, List.set_cons_succ]
                (refine tk_yes (v := .int .u32 ((upd f y NN) y)) 5 (some 89) rfl rfl (by kernel_rfl) (by kernel_rfl) (by kernel_rfl) (fun _ _ _ h => h) (by rfl) ?_ hHeld ?_; focus (intro w hSw; exact lookI_ex rfl hSw y rfl rfl HT0.out HT1.out))
                simp only [Act.put, List.setIfInBounds_toArray, List.set_cons_zero, List.set_cons_succ]
                refine wpAnyH_ready (rs := [2]) (by kernel_rfl) (by simp) ?_
                refine AllReadyH.cons rfl (fun K hK => ?_) AllReadyH.nil
                go_simp
                go_at_call 10
                refine (last10 Q2.out.ob.bk y HT0.out HT1.out).mono ?_
                rintro e v2 ⟨rfl, l2⟩
                have Q3 := hid (Q2.out.below l2)
                clear l2
                go_wp2_with fail
                refine hK.out _ _ Q3.out.mr (fun hHeld => ?_)
                clear hK K
                try simp only [Act.put, List.setIfInBounds_toArray, List.set_cons_zero, List.set_cons_succ]
                (refine tk_yes (v := .bool false) 6 (some 90) rfl rfl (by kernel_rfl) (by kernel_rfl) (by kernel_rfl) (fun _ _ _ h => h) (by rfl) ?_ hHeld ?_; focus (intro w hSw; go_simp))
                simp only [Act.put, List.setIfInBounds_toArray, List.set_cons_zero, List.set_cons_succ]
                refine wpAnyH_done (by kernel_rfl) ?_ _
                refine NoPanic.normal ?_
                go_wp2
                go_roundw
                case rel => exact ⟨k + 1, (upd f y NN), by omega, by go_num, (LM.out.upd _ _ HN0.out g2), Q3.out.mono (by omega) (by omega)⟩
                case measure => simp [intOf]; omega
              · have HE := hid (HS.out.trans (if_neg (fun h => g2 h.2)))
                clear HS
                go_upto_region 27 with (first | (at_lookup; refine lookI rfl _ _ rfl R3.out.mr y rfl rfl HT0.out HT1.out ?_; rw [HX.out]) | (go_at_call 8; have kill := R2.out; refine (saw8 R2.out.ob.bk (by omega) y NN HT0.out HT1.out HN0.out HN1.out).mono ?_; rw [HE.out]; rintro e w5 ⟨rfl, b5, g5⟩; have R3 := hid (R2.out.book b5 g5); clear b5 g5 kill R2))
                have Q2 := hid R3.out.drew
                refine wp_region_noPanic ?_
                refine wp_region_held_drew (S := (fun w' : World => MR 27 keyI w' bl (2 * k) f)) (by kernel_rfl) Q2.out.mr (fun hHeld => ?_)
                (refine tk_yes (v := ?_) 0 (some 84) rfl rfl (by kernel_rfl) (by kernel_rfl) (by kernel_rfl) (fun _ _ _ h => h) (by rfl) ?_ hHeld ?_; rotate_left; focus (intro w hSw; go_simp; try with_reducible rfl))
                simp only [Act.put, List.setIfInBounds_toArray, List.set_cons_zero, List.set_cons_succ]
                (refine tk_yes (v := ?_) 1 (some 85) rfl rfl (by kernel_rfl) (by kernel_rfl) (by kernel_rfl) (fun _ _ _ h => h) (by rfl) ?_ hHeld ?_; rotate_left; focus (intro w hSw; go_simp; try with_reducible rfl))
                simp only [Act.put, List.setIfInBounds_toArray, List.set_cons_zero, List.set_cons_succ]
                (refine tk_yes (v := ?_) 3 (some 87) rfl rfl (by kernel_rfl) (by kernel_rfl) (by kernel_rfl) (fun _ _ _ h => h) (by rfl) ?_ hHeld ?_; rotate_left; focus (intro w hSw; go_simp; try with_reducible rfl))
                simp only [Act.put, List.setIfInBounds_toArray, List.set_cons_zero, List.set_cons_succ]
                (refine tk_yes (v := ?_) 4 (some 88) rfl rfl (by kernel_rfl) (by kernel_rfl) (by kernel_rfl) (fun _ _ _ h => h) (by rfl) ?_ hHeld ?_; rotate_left; focus (intro w hSw; go_simp; try with_reducible rfl))
                simp only [Act.put, List.setIfInBounds_toArray, List.set_cons_zero, List.set_cons_succ]
                (refine tk_yes (v := .int .u32 (f y)) 5 (some 89) rfl rfl (by kernel_rfl) (by kernel_rfl) (by kernel_rfl) (fun _ _ _ h => h) (by rfl) ?_ hHeld ?_; focus (intro w hSw; exact lookI_ex rfl hSw y rfl rfl HT0.out HT1.out))
                simp only [Act.put, List.setIfInBounds_toArray, List.set_cons_zero, List.set_cons_succ]
                refine wpAnyH_ready (rs := [2]) (by kernel_rfl) (by simp) ?_
                refine AllReadyH.cons rfl (fun K hK => ?_) AllReadyH.nil
                go_simp
                go_at_call 10
                refine (last10 Q2.out.ob.bk y HT0.out HT1.out).mono ?_
                rintro e v2 ⟨rfl, l2⟩
                have Q3 := hid (Q2.out.below l2)
                clear l2
                go_wp2_with fail
                refine hK.out _ _ Q3.out.mr (fun hHeld => ?_)
                clear hK K
                try simp only [Act.put, List.setIfInBounds_toArray, List.set_cons_zero, List.set_cons_succ]
                (refine tk_yes (v := .bool false) 6 (some 90) rfl rfl (by kernel_rfl) (by kernel_rfl) (by kernel_rfl) (fun _ _ _ h => h) (by rfl) ?_ hHeld ?_; focus (intro w hSw; go_simp))
                simp only [Act.put, List.setIfInBounds_toArray, List.set_cons_zero, List.set_cons_succ]
                refine wpAnyH_done (by kernel_rfl) ?_ _
                refine NoPanic.normal ?_
                go_wp2
                go_roundw
                case rel => exact ⟨k + 1, f, by omega, by go_num, LM.out, Q3.out.mono (by omega) (by omega)⟩
                case measure => simp [intOf]; omega
            · have HE := hid (HS.out.trans (if_neg (fun h => g1 h.1)))
              clear HS
              go_upto_region 27 with (first | (at_lookup; refine lookI rfl _ _ rfl R3.out.mr y rfl rfl HT0.out HT1.out ?_; rw [HX.out]) | (go_at_call 8; have kill := R2.out; refine (saw8 R2.out.ob.bk (by omega) y NN HT0.out HT1.out HN0.out HN1.out).mono ?_; rw [HE.out]; rintro e w5 ⟨rfl, b5, g5⟩; have R3 := hid (R2.out.book b5 g5); clear b5 g5 kill R2))
              have Q2 := hid R3.out.drew
              refine wp_region_noPanic ?_
              refine wp_region_held_drew (S := (fun w' : World => MR 27 keyI w' bl (2 * k) f)) (by kernel_rfl) Q2.out.mr (fun hHeld => ?_)
              (refine tk_yes (v := ?_) 0 (some 84) rfl rfl (by kernel_rfl) (by kernel_rfl) (by kernel_rfl) (fun _ _ _ h => h) (by rfl) ?_ hHeld ?_; rotate_left; focus (intro w hSw; go_simp; try with_reducible rfl))
              simp only [Act.put, List.setIfInBounds_toArray, List.set_cons_zero, List.set_cons_succ]
              (refine tk_yes (v := ?_) 1 (some 85) rfl rfl (by kernel_rfl) (by kernel_rfl) (by kernel_rfl) (fun _ _ _ h => h) (by rfl) ?_ hHeld ?_; rotate_left; focus (intro w hSw; go_simp; try with_reducible rfl))
              simp only [Act.put, List.setIfInBounds_toArray, List.set_cons_zero, List.set_cons_succ]
              (refine tk_yes (v := ?_) 3 (some 87) rfl rfl (by kernel_rfl) (by kernel_rfl) (by kernel_rfl) (fun _ _ _ h => h) (by rfl) ?_ hHeld ?_; rotate_left; focus (intro w hSw; go_simp; try with_reducible rfl))
              simp only [Act.put, List.setIfInBounds_toArray, List.set_cons_zero, List.set_cons_succ]
              (refine tk_yes (v := ?_) 4 (some 88) rfl rfl (by kernel_rfl) (by kernel_rfl) (by kernel_rfl) (fun _ _ _ h => h) (by rfl) ?_ hHeld ?_; rotate_left; focus (intro w hSw; go_simp; try with_reducible rfl))
              simp only [Act.put, List.setIfInBounds_toArray, List.set_cons_zero, List.set_cons_succ]
              (refine tk_yes (v := .int .u32 (f y)) 5 (some 89) rfl rfl (by kernel_rfl) (by kernel_rfl) (by kernel_rfl) (fun _ _ _ h => h) (by rfl) ?_ hHeld ?_; focus (intro w hSw; exact lookI_ex rfl hSw y rfl rfl HT0.out HT1.out))
              simp only [Act.put, List.setIfInBounds_toArray, List.set_cons_zero, List.set_cons_succ]
              refine wpAnyH_ready (rs := [2]) (by kernel_rfl) (by simp) ?_
              refine AllReadyH.cons rfl (fun K hK => ?_) AllReadyH.nil
              go_simp
              go_at_call 10
              refine (last10 Q2.out.ob.bk y HT0.out HT1.out).mono ?_
              rintro e v2 ⟨rfl, l2⟩
              have Q3 := hid (Q2.out.below l2)
              clear l2
              go_wp2_with fail
              refine hK.out _ _ Q3.out.mr (fun hHeld => ?_)
              clear hK K
              try simp only [Act.put, List.setIfInBounds_toArray, List.set_cons_zero, List.set_cons_succ]
              (refine tk_yes (v := .bool false) 6 (some 90) rfl rfl (by kernel_rfl) (by kernel_rfl) (by kernel_rfl) (fun _ _ _ h => h) (by rfl) ?_ hHeld ?_; focus (intro w hSw; go_simp))
              simp only [Act.put, List.setIfInBounds_toArray, List.set_cons_zero, List.set_cons_succ]
              refine wpAnyH_done (by kernel_rfl) ?_ _
              refine NoPanic.normal ?_
              go_wp2
              go_roundw
              case rel => exact ⟨k + 1, f, by omega, by go_num, LM.out, Q3.out.mono (by omega) (by omega)⟩
              case measure => simp [intOf]; omega
          · have e3 : (k : Int).tmod 3 = 0 := by rw [Int.tmod_eq_emod_of_nonneg (by omega)]; omega
            obtain ⟨T, eT, T0, T1⟩ : ∃ T, y = T ∧ 0 ≤ T ∧ T < 65536 := ⟨_, rfl, hy.1, hy.2⟩
            subst eT
            obtain ⟨m8, e8, n8⟩ : ∃ m8, x.tmod 8 = m8 ∧ ¬ m8 = 0 := ⟨x % 8, by rw [Int.tmod_eq_emod_of_nonneg hx.1], h8⟩
            obtain ⟨N0, N1⟩ := hz
            obtain ⟨X, hX⟩ : ∃ X, f y = X := ⟨_, rfl⟩
            have HX := hid hX
            have HT0 := hid T0
            have HT1 := hid T1
            have HN0 := hid N0
            have HN1 := hid N1
            have HS : Hid (sawL f y z = if X < z ∧ z ≤ 999999 then upd f y z else f) := by unfold Hid sawL; rw [hX]
            have R2 := hid (R1.out.below (bel1 wr (.cells #[.int .u8 x, .int .u16 y, .int .u32 z] 30)))
            clear hX T0 T1 N0 N1
            go_upto_region 24 with (fail)
            generalize wr.alloc (.cells #[.int .u8 x, .int .u16 y, .int .u32 z] 30) = w4 at *
            clear c0 c1 c2 j2 e3 e4 e8 hx hy n8
            by_cases g1 : X < z
            · by_cases g2 : z ≤ 999999
              · have HE := hid (HS.out.trans (if_pos ⟨g1, g2⟩))
                clear HS
                go_upto_region 27 with (first | (at_lookup; refine lookI rfl _ _ rfl R3.out.mr y rfl rfl HT0.out HT1.out ?_; rw [HX.out]) | (at_mapUpdate; have kill := R3.out; refine storeI rfl _ _ _ rfl R3.out.mr (by omega) y z rfl rfl rfl HT0.out HT1.out HN0.out HN1.out ?_; intro w6 m6 g6; have R4 := hid (R3.out.last m6 g6); clear m6 g6 kill R3) | (go_at_call 8; have kill := R2.out; refine (saw8 R2.out.ob.bk (by omega) y z HT0.out HT1.out HN0.out HN1.out).mono ?_; rw [HE.out]; rintro e w5 ⟨rfl, b5, g5⟩; have R3 := hid (R2.out.book b5 g5); clear b5 g5 kill R2))
                have Q2 := hid R4.out.drew
                refine wp_region_noPanic ?_
                refine wp_region_held_drew (S := (fun w' : World => MR 27 keyI w' bl (2 * k + 1) (upd f y z))) (by kernel_rfl) Q2.out.mr (fun hHeld => ?_)
                (refine tk_yes (v := ?_) 0 (some 84) rfl rfl (by kernel_rfl) (by kernel_rfl) (by kernel_rfl) (fun _ _ _ h => h) (by rfl) ?_ hHeld ?_; rotate_left; focus (intro w hSw; go_simp; try with_reducible rfl))
                simp only [Act.put, List.setIfInBounds_toArray, List.set_cons_zero, List.set_cons_succ]
                (refine tk_yes (v := ?_) 1 (some 85) rfl rfl (by kernel_rfl) (by kernel_rfl) (by kernel_rfl) (fun _ _ _ h => h) (by rfl) ?_ hHeld ?_; rotate_left; focus (intro w hSw; go_simp; try with_reducible rfl))
                simp only [Act.put, List.setIfInBounds_toArray, List.set_cons_zero, List.set_cons_succ]
                (refine tk_yes (v := ?_) 3 (some 87) rfl rfl (by kernel_rfl) (by kernel_rfl) (by kernel_rfl) (fun _ _ _ h => h) (by rfl) ?_ hHeld ?_; rotate_left; focus (intro w hSw; go_simp; try with_reducible rfl))
                simp only [Act.put, List.setIfInBounds_toArray, List.set_cons_zero, List.set_cons_succ]
                (refine tk_yes (v := ?_) 4 (some 88) rfl rfl (by kernel_rfl) (by kernel_rfl) (by kernel_rfl) (fun _ _ _ h => h) (by rfl) ?_ hHeld ?_; rotate_left; focus (intro w hSw; go_simp; try with_reducible rfl))
                simp only [Act.put, List.setIfInBounds_toArray, List.set_cons_zero, List.set_cons_succ]
                (refine tk_yes (v := .int .u32 ((upd f y z) y)) 5 (some 89) rfl rfl (by kernel_rfl) (by kernel_rfl) (by kernel_rfl) (fun _ _ _ h => h) (by rfl) ?_ hHeld ?_; focus (intro w hSw; exact lookI_ex rfl hSw y rfl rfl HT0.out HT1.out))
                simp only [Act.put, List.setIfInBounds_toArray, List.set_cons_zero, List.set_cons_succ]
                refine wpAnyH_ready (rs := [2]) (by kernel_rfl) (by simp) ?_
                refine AllReadyH.cons rfl (fun K hK => ?_) AllReadyH.nil
                go_simp
                go_at_call 10
                refine (last10 Q2.out.ob.bk y HT0.out HT1.out).mono ?_
                rintro e v2 ⟨rfl, l2⟩
                have Q3 := hid (Q2.out.below l2)
                clear l2
                go_wp2_with fail
                refine hK.out _ _ Q3.out.mr (fun hHeld => ?_)
                clear hK K
                try simp only [Act.put, List.setIfInBounds_toArray, List.set_cons_zero, List.set_cons_succ]
                (refine tk_yes (v := .bool false) 6 (some 90) rfl rfl (by kernel_rfl) (by kernel_rfl) (by kernel_rfl) (fun _ _ _ h => h) (by rfl) ?_ hHeld ?_; focus (intro w hSw; go_simp))
                simp only [Act.put, List.setIfInBounds_toArray, List.set_cons_zero, List.set_cons_succ]
                refine wpAnyH_done (by kernel_rfl) ?_ _
                refine NoPanic.normal ?_
                go_wp2
                go_roundw
                case rel => exact ⟨k + 1, (upd f y z), by omega, by go_num, (LM.out.upd _ _ HN0.out g2), Q3.out.mono (by omega) (by omega)⟩
                case measure => simp [intOf]; omega
              · have HE := hid (HS.out.trans (if_neg (fun h => g2 h.2)))
                clear HS
                go_upto_region 27 with (first | (at_lookup; refine lookI rfl _ _ rfl R3.out.mr y rfl rfl HT0.out HT1.out ?_; rw [HX.out]) | (go_at_call 8; have kill := R2.out; refine (saw8 R2.out.ob.bk (by omega) y z HT0.out HT1.out HN0.out HN1.out).mono ?_; rw [HE.out]; rintro e w5 ⟨rfl, b5, g5⟩; have R3 := hid (R2.out.book b5 g5); clear b5 g5 kill R2))
                have Q2 := hid R3.out.drew
                refine wp_region_noPanic ?_
                refine wp_region_held_drew (S := (fun w' : World => MR 27 keyI w' bl (2 * k) f)) (by kernel_rfl) Q2.out.mr (fun hHeld => ?_)
                (refine tk_yes (v := ?_) 0 (some 84) rfl rfl (by kernel_rfl) (by kernel_rfl) (by kernel_rfl) (fun _ _ _ h => h) (by rfl) ?_ hHeld ?_; rotate_left; focus (intro w hSw; go_simp; try with_reducible rfl))
                simp only [Act.put, List.setIfInBounds_toArray, List.set_cons_zero, List.set_cons_succ]
                (refine tk_yes (v := ?_) 1 (some 85) rfl rfl (by kernel_rfl) (by kernel_rfl) (by kernel_rfl) (fun _ _ _ h => h) (by rfl) ?_ hHeld ?_; rotate_left; focus (intro w hSw; go_simp; try with_reducible rfl))
                simp only [Act.put, List.setIfInBounds_toArray, List.set_cons_zero, List.set_cons_succ]
                (refine tk_yes (v := ?_) 3 (some 87) rfl rfl (by kernel_rfl) (by kernel_rfl) (by kernel_rfl) (fun _ _ _ h => h) (by rfl) ?_ hHeld ?_; rotate_left; focus (intro w hSw; go_simp; try with_reducible rfl))
                simp only [Act.put, List.setIfInBounds_toArray, List.set_cons_zero, List.set_cons_succ]
                (refine tk_yes (v := ?_) 4 (some 88) rfl rfl (by kernel_rfl) (by kernel_rfl) (by kernel_rfl) (fun _ _ _ h => h) (by rfl) ?_ hHeld ?_; rotate_left; focus (intro w hSw; go_simp; try with_reducible rfl))
                simp only [Act.put, List.setIfInBounds_toArray, List.set_cons_zero, List.set_cons_succ]
                (refine tk_yes (v := .int .u32 (f y)) 5 (some 89) rfl rfl (by kernel_rfl) (by kernel_rfl) (by kernel_rfl) (fun _ _ _ h => h) (by rfl) ?_ hHeld ?_; focus (intro w hSw; exact lookI_ex rfl hSw y rfl rfl HT0.out HT1.out))
                simp only [Act.put, List.setIfInBounds_toArray, List.set_cons_zero, List.set_cons_succ]
                refine wpAnyH_ready (rs := [2]) (by kernel_rfl) (by simp) ?_
                refine AllReadyH.cons rfl (fun K hK => ?_) AllReadyH.nil
                go_simp
                go_at_call 10
                refine (last10 Q2.out.ob.bk y HT0.out HT1.out).mono ?_
                rintro e v2 ⟨rfl, l2⟩
                have Q3 := hid (Q2.out.below l2)
                clear l2
                go_wp2_with fail
                refine hK.out _ _ Q3.out.mr (fun hHeld => ?_)
                clear hK K
                try simp only [Act.put, List.setIfInBounds_toArray, List.set_cons_zero, List.set_cons_succ]
                (refine tk_yes (v := .bool false) 6 (some 90) rfl rfl (by kernel_rfl) (by kernel_rfl) (by kernel_rfl) (fun _ _ _ h => h) (by rfl) ?_ hHeld ?_; focus (intro w hSw; go_simp))
                simp only [Act.put, List.setIfInBounds_toArray, List.set_cons_zero, List.set_cons_succ]
                refine wpAnyH_done (by kernel_rfl) ?_ _
                refine NoPanic.normal ?_
                go_wp2
                go_roundw
                case rel => exact ⟨k + 1, f, by omega, by go_num, LM.out, Q3.out.mono (by omega) (by omega)⟩
                case measure => simp [intOf]; omega
            · have HE := hid (HS.out.trans (if_neg (fun h => g1 h.1)))
              clear HS
              go_upto_region 27 with (first | (at_lookup; refine lookI rfl _ _ rfl R3.out.mr y rfl rfl HT0.out HT1.out ?_; rw [HX.out]) | (go_at_call 8; have kill := R2.out; refine (saw8 R2.out.ob.bk (by omega) y z HT0.out HT1.out HN0.out HN1.out).mono ?_; rw [HE.out]; rintro e w5 ⟨rfl, b5, g5⟩; have R3 := hid (R2.out.book b5 g5); clear b5 g5 kill R2))
              have Q2 := hid R3.out.drew
              refine wp_region_noPanic ?_
              refine wp_region_held_drew (S := (fun w' : World => MR 27 keyI w' bl (2 * k) f)) (by kernel_rfl) Q2.out.mr (fun hHeld => ?_)
              (refine tk_yes (v := ?_) 0 (some 84) rfl rfl (by kernel_rfl) (by kernel_rfl) (by kernel_rfl) (fun _ _ _ h => h) (by rfl) ?_ hHeld ?_; rotate_left; focus (intro w hSw; go_simp; try with_reducible rfl))
              simp only [Act.put, List.setIfInBounds_toArray, List.set_cons_zero, List.set_cons_succ]
              (refine tk_yes (v := ?_) 1 (some 85) rfl rfl (by kernel_rfl) (by kernel_rfl) (by kernel_rfl) (fun _ _ _ h => h) (by rfl) ?_ hHeld ?_; rotate_left; focus (intro w hSw; go_simp; try with_reducible rfl))
              simp only [Act.put, List.setIfInBounds_toArray, List.set_cons_zero, List.set_cons_succ]
              (refine tk_yes (v := ?_) 3 (some 87) rfl rfl (by kernel_rfl) (by kernel_rfl) (by kernel_rfl) (fun _ _ _ h => h) (by rfl) ?_ hHeld ?_; rotate_left; focus (intro w hSw; go_simp; try with_reducible rfl))
              simp only [Act.put, List.setIfInBounds_toArray, List.set_cons_zero, List.set_cons_succ]
              (refine tk_yes (v := ?_) 4 (some 88) rfl rfl (by kernel_rfl) (by kernel_rfl) (by kernel_rfl) (fun _ _ _ h => h) (by rfl) ?_ hHeld ?_; rotate_left; focus (intro w hSw; go_simp; try with_reducible rfl))
              simp only [Act.put, List.setIfInBounds_toArray, List.set_cons_zero, List.set_cons_succ]
              (refine tk_yes (v := .int .u32 (f y)) 5 (some 89) rfl rfl (by kernel_rfl) (by kernel_rfl) (by kernel_rfl) (fun _ _ _ h => h) (by rfl) ?_ hHeld ?_; focus (intro w hSw; exact lookI_ex rfl hSw y rfl rfl HT0.out HT1.out))
              simp only [Act.put, List.setIfInBounds_toArray, List.set_cons_zero, List.set_cons_succ]
              refine wpAnyH_ready (rs := [2]) (by kernel_rfl) (by simp) ?_
              refine AllReadyH.cons rfl (fun K hK => ?_) AllReadyH.nil
              go_simp
              go_at_call 10
              refine (last10 Q2.out.ob.bk y HT0.out HT1.out).mono ?_
              rintro e v2 ⟨rfl, l2⟩
              have Q3 := hid (Q2.out.below l2)
              clear l2
              go_wp2_with fail
              refine hK.out _ _ Q3.out.mr (fun hHeld => ?_)
              clear hK K
              try simp only [Act.put, List.setIfInBounds_toArray, List.set_cons_zero, List.set_cons_succ]
              (refine tk_yes (v := .bool false) 6 (some 90) rfl rfl (by kernel_rfl) (by kernel_rfl) (by kernel_rfl) (fun _ _ _ h => h) (by rfl) ?_ hHeld ?_; focus (intro w hSw; go_simp))
              simp only [Act.put, List.setIfInBounds_toArray, List.set_cons_zero, List.set_cons_succ]
              refine wpAnyH_done (by kernel_rfl) ?_ _
              refine NoPanic.normal ?_
              go_wp2
              go_roundw
              case rel => exact ⟨k + 1, f, by omega, by go_num, LM.out, Q3.out.mono (by omega) (by omega)⟩
              case measure => simp [intOf]; omega
        · obtain ⟨m4, e4, n4⟩ : ∃ m4, x.tmod 4 = m4 ∧ ¬ m4 = 0 := ⟨x % 4, by rw [Int.tmod_eq_emod_of_nonneg hx.1], h4⟩
          have e3 : (k : Int).tmod 3 = 0 := by rw [Int.tmod_eq_emod_of_nonneg (by omega)]; omega
          obtain ⟨T, eT, T0, T1⟩ : ∃ T, y = T ∧ 0 ≤ T ∧ T < 65536 := ⟨_, rfl, hy.1, hy.2⟩
          subst eT
          obtain ⟨X, hX⟩ : ∃ X, f y = X := ⟨_, rfl⟩
          obtain ⟨X0, X1⟩ := LM.out y
          rw [hX] at X0 X1
          have HX := hid hX
          have HX0 := hid X0
          have HX1 := hid X1
          have HT0 := hid T0
          have HT1 := hid T1
          have HN : Hid (nextL X = if 999999 ≤ X then 1 else X + 1) := rfl
          have x1 : IntKind.u32.wrap (X + 1) = X + 1 := by rw [IntKind.wrap_u32]; omega
          have R2 := hid (R1.out.below (bel1 wr (.cells #[.int .u8 x, .int .u16 y, .int .u32 z] 30)))
          clear hX X0 X1 T0 T1
          go_upto_region 15 with (fail)
          generalize wr.alloc (.cells #[.int .u8 x, .int .u16 y, .int .u32 z] 30) = w4 at *
          clear c0 c1 c2 j2 e3 e4 n4 hx hy hz
          by_cases hb : 999999 ≤ X
          · have HY := hid (HN.out.trans (if_pos hb))
            clear HN
            have hb3 : 999999 < X + 1 := by omega
            go_upto_region 18 with (first | (at_lookup; refine lookI rfl _ _ rfl R3.out.mr y rfl rfl HT0.out HT1.out ?_; rw [upd_same]) | (at_mapUpdate; have kill := R3.out; refine storeI rfl _ _ _ rfl R3.out.mr (by omega) y 1 rfl rfl rfl HT0.out HT1.out (by omega) (by omega) ?_; intro w6 m6 g6; rw [upd_upd] at m6; have R4 := hid (R3.out.last m6 g6); clear m6 g6 kill R3) | (at_lookup; refine lookI rfl _ _ rfl R2.out.mr y rfl rfl HT0.out HT1.out ?_; rw [HX.out]) | (at_mapUpdate; have kill := R2.out; refine storeI rfl _ _ _ rfl R2.out.mr (by omega) y (X + 1) rfl rfl rfl HT0.out HT1.out (by have := HX0.out; omega) (by have := HX1.out; omega) ?_; intro w5 m5 g5; have R3 := hid (R2.out.last m5 g5); clear m5 g5 kill R2))
            refine wp_region_noPanic ?_
            refine wp_region_held_drew (S := (fun w' : World => MR 27 keyI w' bl (2 * k + 1 + 1) (upd f y 1))) (by kernel_rfl) R4.out.drew.mr (fun hHeld => ?_)
            (refine tk_yes (v := ?_) 0 (some 46) rfl rfl (by kernel_rfl) (by kernel_rfl) (by kernel_rfl) (fun _ _ _ h => h) (by rfl) ?_ hHeld ?_; rotate_left; focus (intro w hSw; go_simp; try with_reducible rfl))
            simp only [Act.put, List.setIfInBounds_toArray, List.set_cons_zero, List.set_cons_succ]
            (refine tk_yes (v := ?_) 1 (some 47) rfl rfl (by kernel_rfl) (by kernel_rfl) (by kernel_rfl) (fun _ _ _ h => h) (by rfl) ?_ hHeld ?_; rotate_left; focus (intro w hSw; go_simp; try with_reducible rfl))
            simp only [Act.put, List.setIfInBounds_toArray, List.set_cons_zero, List.set_cons_succ]
            (refine tk_yes (v := ?_) 3 (some 49) rfl rfl (by kernel_rfl) (by kernel_rfl) (by kernel_rfl) (fun _ _ _ h => h) (by rfl) ?_ hHeld ?_; rotate_left; focus (intro w hSw; go_simp; try with_reducible rfl))
            simp only [Act.put, List.setIfInBounds_toArray, List.set_cons_zero, List.set_cons_succ]
            (refine tk_yes (v := ?_) 4 (some 50) rfl rfl (by kernel_rfl) (by kernel_rfl) (by kernel_rfl) (fun _ _ _ h => h) (by rfl) ?_ hHeld ?_; rotate_left; focus (intro w hSw; go_simp; try with_reducible rfl))
            simp only [Act.put, List.setIfInBounds_toArray, List.set_cons_zero, List.set_cons_succ]
            (refine tk_yes (v := ?_) 5 (some 51) rfl rfl (by kernel_rfl) (by kernel_rfl) (by kernel_rfl) (fun _ _ _ h => h) (by rfl) ?_ hHeld ?_; rotate_left; focus (intro w hSw; go_simp; try with_reducible rfl))
            simp only [Act.put, List.setIfInBounds_toArray, List.set_cons_zero, List.set_cons_succ]
            (refine tk_yes (v := .int .u32 1) 6 (some 52) rfl rfl (by kernel_rfl) (by kernel_rfl) (by kernel_rfl) (fun _ _ _ h => h) (by rfl) ?_ hHeld ?_; focus (intro w hSw; exact (lookI_ex rfl hSw y rfl rfl HT0.out HT1.out).trans (by rw [upd_same])))
            simp only [Act.put, List.setIfInBounds_toArray, List.set_cons_zero, List.set_cons_succ]
            (refine tk_yes (v := ?_) 7 (some 53) rfl rfl (by kernel_rfl) (by kernel_rfl) (by kernel_rfl) (fun _ _ _ h => h) (by rfl) ?_ hHeld ?_; rotate_left; focus (intro w hSw; go_simp; try with_reducible rfl))
            simp only [Act.put, List.setIfInBounds_toArray, List.set_cons_zero, List.set_cons_succ]
            refine wpAnyH_ready (rs := [2]) (by kernel_rfl) (by simp) ?_
            refine AllReadyH.cons rfl (fun K hK => ?_) AllReadyH.nil
            go_simp
            go_at_call 9
            refine (nextk R4.out.drew.ob.bk (by omega) y X 1 HT0.out HT1.out HX.out HY.out HX0.out HX1.out).mono ?_
            rintro e v1 ⟨rfl, b1, g1⟩
            have Q1 := hid (R4.out.drew.book b1 g1)
            clear b1 g1
            go_wp2_with fail
            refine hK.out _ _ Q1.out.mr (fun hHeld => ?_)
            clear hK K
            try simp only [Act.put, List.setIfInBounds_toArray, List.set_cons_zero, List.set_cons_succ]
            (refine tk_yes (v := .bool false) 8 (some 54) rfl rfl (by kernel_rfl) (by kernel_rfl) (by kernel_rfl) (fun _ _ _ h => h) (by rfl) ?_ hHeld ?_; focus (intro w hSw; exact (neqq rfl rfl rfl).trans (by simp)))
            simp only [Act.put, List.setIfInBounds_toArray, List.set_cons_zero, List.set_cons_succ]
            refine wpAnyH_done (by kernel_rfl) ?_ _
            refine NoPanic.normal ?_
            go_upto_region 27 with (fail)
            have Q2 := hid Q1.out.drew
            refine wp_region_noPanic ?_
            refine wp_region_held_drew (S := (fun w' : World => MR 27 keyI w' bl (2 * k + 1 + 1) (upd f y 1))) (by kernel_rfl) Q2.out.mr (fun hHeld => ?_)
            (refine tk_yes (v := ?_) 0 (some 84) rfl rfl (by kernel_rfl) (by kernel_rfl) (by kernel_rfl) (fun _ _ _ h => h) (by rfl) ?_ hHeld ?_; rotate_left; focus (intro w hSw; go_simp; try with_reducible rfl))
            simp only [Act.put, List.setIfInBounds_toArray, List.set_cons_zero, List.set_cons_succ]
            (refine tk_yes (v := ?_) 1 (some 85) rfl rfl (by kernel_rfl) (by kernel_rfl) (by kernel_rfl) (fun _ _ _ h => h) (by rfl) ?_ hHeld ?_; rotate_left; focus (intro w hSw; go_simp; try with_reducible rfl))
            simp only [Act.put, List.setIfInBounds_toArray, List.set_cons_zero, List.set_cons_succ]
            (refine tk_yes (v := ?_) 3 (some 87) rfl rfl (by kernel_rfl) (by kernel_rfl) (by kernel_rfl) (fun _ _ _ h => h) (by rfl) ?_ hHeld ?_; rotate_left; focus (intro w hSw; go_simp; try with_reducible rfl))
            simp only [Act.put, List.setIfInBounds_toArray, List.set_cons_zero, List.set_cons_succ]
            (refine tk_yes (v := ?_) 4 (some 88) rfl rfl (by kernel_rfl) (by kernel_rfl) (by kernel_rfl) (fun _ _ _ h => h) (by rfl) ?_ hHeld ?_; rotate_left; focus (intro w hSw; go_simp; try with_reducible rfl))
            simp only [Act.put, List.setIfInBounds_toArray, List.set_cons_zero, List.set_cons_succ]
            (refine tk_yes (v := .int .u32 ((upd f y 1) y)) 5 (some 89) rfl rfl (by kernel_rfl) (by kernel_rfl) (by kernel_rfl) (fun _ _ _ h => h) (by rfl) ?_ hHeld ?_; focus (intro w hSw; exact lookI_ex rfl hSw y rfl rfl HT0.out HT1.out))
            simp only [Act.put, List.setIfInBounds_toArray, List.set_cons_zero, List.set_cons_succ]
            refine wpAnyH_ready (rs := [2]) (by kernel_rfl) (by simp) ?_
            refine AllReadyH.cons rfl (fun K hK => ?_) AllReadyH.nil
            go_simp
            go_at_call 10
            refine (last10 Q2.out.ob.bk y HT0.out HT1.out).mono ?_
            rintro e v2 ⟨rfl, l2⟩
            have Q3 := hid (Q2.out.below l2)
            clear l2
            go_wp2_with fail
            refine hK.out _ _ Q3.out.mr (fun hHeld => ?_)
            clear hK K
            try simp only [Act.put, List.setIfInBounds_toArray, List.set_cons_zero, List.set_cons_succ]
            (refine tk_yes (v := .bool false) 6 (some 90) rfl rfl (by kernel_rfl) (by kernel_rfl) (by kernel_rfl) (fun _ _ _ h => h) (by rfl) ?_ hHeld ?_; focus (intro w hSw; go_simp))
            simp only [Act.put, List.setIfInBounds_toArray, List.set_cons_zero, List.set_cons_succ]
            refine wpAnyH_done (by kernel_rfl) ?_ _
            refine NoPanic.normal ?_
            go_wp2
            go_roundw
            case rel => exact ⟨k + 1, (upd f y 1), by omega, by go_num, (LM.out.upd _ _ (by have := HX0.out; omega) (by have := HX1.out; omega)), Q3.out.mono (by omega) (by omega)⟩
            case measure => simp [intOf]; omega
          · have HY := hid (HN.out.trans (if_neg hb))
            clear HN
            have hb2 : X ≤ 999998 := by omega
            have hb3 : ¬ 999999 < X + 1 := by omega
            go_upto_region 18 with (first | (at_lookup; refine lookI rfl _ _ rfl R3.out.mr y rfl rfl HT0.out HT1.out ?_; rw [upd_same]) | (at_lookup; refine lookI rfl _ _ rfl R2.out.mr y rfl rfl HT0.out HT1.out ?_; rw [HX.out]) | (at_mapUpdate; have kill := R2.out; refine storeI rfl _ _ _ rfl R2.out.mr (by omega) y (X + 1) rfl rfl rfl HT0.out HT1.out (by have := HX0.out; omega) (by have := HX1.out; omega) ?_; intro w5 m5 g5; have R3 := hid (R2.out.last m5 g5); clear m5 g5 kill R2))
            refine wp_region_noPanic ?_
            refine wp_region_held_drew (S := (fun w' : World => MR 27 keyI w' bl (2 * k + 1) (upd f y (X + 1)))) (by kernel_rfl) R3.out.drew.mr (fun hHeld => ?_)
            (refine tk_yes (v := ?_) 0 (some 46) rfl rfl (by kernel_rfl) (by kernel_rfl) (by kernel_rfl) (fun _ _ _ h => h) (by rfl) ?_ hHeld ?_; rotate_left; focus (intro w hSw; go_simp; try with_reducible rfl))
            simp only [Act.put, List.setIfInBounds_toArray, List.set_cons_zero, List.set_cons_succ]
            (refine tk_yes (v := ?_) 1 (some 47) rfl rfl (by kernel_rfl) (by kernel_rfl) (by kernel_rfl) (fun _ _ _ h => h) (by rfl) ?_ hHeld ?_; rotate_left; focus (intro w hSw; go_simp; try with_reducible rfl))
            simp only [Act.put, List.setIfInBounds_toArray, List.set_cons_zero, List.set_cons_succ]
            (refine tk_yes (v := ?_) 3 (some 49) rfl rfl (by kernel_rfl) (by kernel_rfl) (by kernel_rfl) (fun _ _ _ h => h) (by rfl) ?_ hHeld ?_; rotate_left; focus (intro w hSw; go_simp; try with_reducible rfl))
            simp only [Act.put, List.setIfInBounds_toArray, List.set_cons_zero, List.set_cons_succ]
            (refine tk_yes (v := ?_) 4 (some 50) rfl rfl (by kernel_rfl) (by kernel_rfl) (by kernel_rfl) (fun _ _ _ h => h) (by rfl) ?_ hHeld ?_; rotate_left; focus (intro w hSw; go_simp; try with_reducible rfl))
            simp only [Act.put, List.setIfInBounds_toArray, List.set_cons_zero, List.set_cons_succ]
            (refine tk_yes (v := ?_) 5 (some 51) rfl rfl (by kernel_rfl) (by kernel_rfl) (by kernel_rfl) (fun _ _ _ h => h) (by rfl) ?_ hHeld ?_; rotate_left; focus (intro w hSw; go_simp; try with_reducible rfl))
            simp only [Act.put, List.setIfInBounds_toArray, List.set_cons_zero, List.set_cons_succ]
            (refine tk_yes (v := .int .u32 (X + 1)) 6 (some 52) rfl rfl (by kernel_rfl) (by kernel_rfl) (by kernel_rfl) (fun _ _ _ h => h) (by rfl) ?_ hHeld ?_; focus (intro w hSw; exact (lookI_ex rfl hSw y rfl rfl HT0.out HT1.out).trans (by rw [upd_same])))
            simp only [Act.put, List.setIfInBounds_toArray, List.set_cons_zero, List.set_cons_succ]
            (refine tk_yes (v := ?_) 7 (some 53) rfl rfl (by kernel_rfl) (by kernel_rfl) (by kernel_rfl) (fun _ _ _ h => h) (by rfl) ?_ hHeld ?_; rotate_left; focus (intro w hSw; go_simp; try with_reducible rfl))
            simp only [Act.put, List.setIfInBounds_toArray, List.set_cons_zero, List.set_cons_succ]
            refine wpAnyH_ready (rs := [2]) (by kernel_rfl) (by simp) ?_
            refine AllReadyH.cons rfl (fun K hK => ?_) AllReadyH.nil
            go_simp
            go_at_call 9
            refine (nextk R3.out.drew.ob.bk (by omega) y X (X + 1) HT0.out HT1.out HX.out HY.out HX0.out HX1.out).mono ?_
            rintro e v1 ⟨rfl, b1, g1⟩
            have Q1 := hid (R3.out.drew.book b1 g1)
            clear b1 g1
            go_wp2_with fail
            refine hK.out _ _ Q1.out.mr (fun hHeld => ?_)
            clear hK K
            try simp only [Act.put, List.setIfInBounds_toArray, List.set_cons_zero, List.set_cons_succ]
            (refine tk_yes (v := .bool false) 8 (some 54) rfl rfl (by kernel_rfl) (by kernel_rfl) (by kernel_rfl) (fun _ _ _ h => h) (by rfl) ?_ hHeld ?_; focus (intro w hSw; exact (neqq rfl rfl rfl).trans (by simp)))
            simp only [Act.put, List.setIfInBounds_toArray, List.set_cons_zero, List.set_cons_succ]
            refine wpAnyH_done (by kernel_rfl) ?_ _
            refine NoPanic.normal ?_
            go_upto_region 27 with (fail)
            have Q2 := hid Q1.out.drew
            refine wp_region_noPanic ?_
            refine wp_region_held_drew (S := (fun w' : World => MR 27 keyI w' bl (2 * k + 1) (upd f y (X + 1)))) (by kernel_rfl) Q2.out.mr (fun hHeld => ?_)
            (refine tk_yes (v := ?_) 0 (some 84) rfl rfl (by kernel_rfl) (by kernel_rfl) (by kernel_rfl) (fun _ _ _ h => h) (by rfl) ?_ hHeld ?_; rotate_left; focus (intro w hSw; go_simp; try with_reducible rfl))
            simp only [Act.put, List.setIfInBounds_toArray, List.set_cons_zero, List.set_cons_succ]
            (refine tk_yes (v := ?_) 1 (some 85) rfl rfl (by kernel_rfl) (by kernel_rfl) (by kernel_rfl) (fun _ _ _ h => h) (by rfl) ?_ hHeld ?_; rotate_left; focus (intro w hSw; go_simp; try with_reducible rfl))
            simp only [Act.put, List.setIfInBounds_toArray, List.set_cons_zero, List.set_cons_succ]
            (refine tk_yes (v := ?_) 3 (some 87) rfl rfl (by kernel_rfl) (by kernel_rfl) (by kernel_rfl) (fun _ _ _ h => h) (by rfl) ?_ hHeld ?_; rotate_left; focus (intro w hSw; go_simp; try with_reducible rfl))
            simp only [Act.put, List.setIfInBounds_toArray, List.set_cons_zero, List.set_cons_succ]
            (refine tk_yes (v := ?_) 4 (some 88) rfl rfl (by kernel_rfl) (by kernel_rfl) (by kernel_rfl) (fun _ _ _ h => h) (by rfl) ?_ hHeld ?_; rotate_left; focus (intro w hSw; go_simp; try with_reducible rfl))
            simp only [Act.put, List.setIfInBounds_toArray, List.set_cons_zero, List.set_cons_succ]
            (refine tk_yes (v := .int .u32 ((upd f y (X + 1)) y)) 5 (some 89) rfl rfl (by kernel_rfl) (by kernel_rfl) (by kernel_rfl) (fun _ _ _ h => h) (by rfl) ?_ hHeld ?_; focus (intro w hSw; exact lookI_ex rfl hSw y rfl rfl HT0.out HT1.out))
            simp only [Act.put, List.setIfInBounds_toArray, List.set_cons_zero, List.set_cons_succ]
            refine wpAnyH_ready (rs := [2]) (by kernel_rfl) (by simp) ?_
            refine AllReadyH.cons rfl (fun K hK => ?_) AllReadyH.nil
            go_simp
            go_at_call 10
            refine (last10 Q2.out.ob.bk y HT0.out HT1.out).mono ?_
            rintro e v2 ⟨rfl, l2⟩
            have Q3 := hid (Q2.out.below l2)
            clear l2
            go_wp2_with fail
            refine hK.out _ _ Q3.out.mr (fun hHeld => ?_)
            clear hK K
            try simp only [Act.put, List.setIfInBounds_toArray, List.set_cons_zero, List.set_cons_succ]
            (refine tk_yes (v := .bool false) 6 (some 90) rfl rfl (by kernel_rfl) (by kernel_rfl) (by kernel_rfl) (fun _ _ _ h => h) (by rfl) ?_ hHeld ?_; focus (intro w hSw; go_simp))
            simp only [Act.put, List.setIfInBounds_toArray, List.set_cons_zero, List.set_cons_succ]
            refine wpAnyH_done (by kernel_rfl) ?_ _
            refine NoPanic.normal ?_
            go_wp2
            go_roundw
            case rel => exact ⟨k + 1, (upd f y (X + 1)), by omega, by go_num, (LM.out.upd _ _ (by have := HX0.out; omega) (by have := HX1.out; omega)), Q3.out.mono (by omega) (by omega)⟩
            case measure => simp [intOf]; omega
      · by_cases h4 : x % 4 = 0
        · have e4 : x.tmod 4 = 0 := by rw [Int.tmod_eq_emod_of_nonneg hx.1]; omega
          by_cases h8 : x % 8 = 0
          · obtain ⟨z3, e3, p3⟩ : ∃ z3, (k : Int).tmod 3 = z3 ∧ 0 < z3 := ⟨(k : Int) % 3, by rw [Int.tmod_eq_emod_of_nonneg (by omega)], by omega⟩
            obtain ⟨T, eT, T0, T1⟩ : ∃ T, y.tmod 3 = T ∧ 0 ≤ T ∧ T < 65536 := ⟨y % 3, by rw [Int.tmod_eq_emod_of_nonneg hy.1], by omega, by omega⟩
            have e8 : x.tmod 8 = 0 := by rw [Int.tmod_eq_emod_of_nonneg hx.1]; omega
            obtain ⟨zz, ez, p0, p1⟩ : ∃ zz, z.tmod 3 = zz ∧ 0 ≤ zz ∧ zz < 3 := ⟨z % 3, by rw [Int.tmod_eq_emod_of_nonneg hz.1], by omega, by omega⟩
            obtain ⟨NN, eN, N0, N1⟩ : ∃ NN, IntKind.u32.wrap (999999 - zz) = NN ∧ 0 ≤ NN ∧ NN < 4294967296 := ⟨999999 - zz, by rw [IntKind.wrap_u32]; omega, by omega, by omega⟩
            clear p0 p1
            obtain ⟨X, hX⟩ : ∃ X, f T = X := ⟨_, rfl⟩
            have HX := hid hX
            have HT0 := hid T0
            have HT1 := hid T1
            have HN0 := hid N0
            have HN1 := hid N1
            have HS : Hid (sawL f T NN = if X < NN ∧ NN ≤ 999999 then upd f T NN else f) := by unfold Hid sawL; rw [hX]
            have R2 := hid (R1.out.below (bel1 wr (.cells #[.int .u8 x, .int .u16 y, .int .u32 z] 30)))
            clear hX T0 T1 N0 N1
            go_upto_region 24 with (fail)
            generalize wr.alloc (.cells #[.int .u8 x, .int .u16 y, .int .u32 z] 30) = w4 at *
            clear c0 c1 c2 j2 e3 e4 e8 hx hy p3 eT ez eN hz
            by_cases g1 : X < NN
            · by_cases g2 : NN ≤ 999999
              · have HE := hid (HS.out.trans (if_pos ⟨g1, g2⟩))
                clear HS
                go_upto_region 27 with (first | (at_lookup; refine lookI rfl _ _ rfl R3.out.mr T rfl rfl HT0.out HT1.out ?_; rw [HX.out]) | (at_mapUpdate; have kill := R3.out; refine storeI rfl _ _ _ rfl R3.out.mr (by omega) T NN rfl rfl rfl HT0.out HT1.out HN0.out HN1.out ?_; intro w6 m6 g6; have R4 := hid (R3.out.last m6 g6); clear m6 g6 kill R3) | (go_at_call 8; have kill := R2.out; refine (saw8 R2.out.ob.bk (by omega) T NN HT0.out HT1.out HN0.out HN1.out).mono ?_; rw [HE.out]; rintro e w5 ⟨rfl, b5, g5⟩; have R3 := hid (R2.out.book b5 g5); clear b5 g5 kill R2))
                have Q2 := hid R4.out.drew
                refine wp_region_noPanic ?_
                refine wp_region_held_drew (S := (fun w' : World => MR 27 keyI w' bl (2 * k + 1) (upd f T NN))) (by kernel_rfl) Q2.out.mr (fun hHeld => ?_)
                (refine tk_yes (v := ?_) 0 (some 84) rfl rfl (by kernel_rfl) (by kernel_rfl) (by kernel_rfl) (fun _ _ _ h => h) (by rfl) ?_ hHeld ?_; rotate_left; focus (intro w hSw; go_simp; try with_reducible rfl))
                simp only [Act.put, List.setIfInBounds_toArray, List.set_cons_zero, List.set_cons_succ]
                (refine tk_yes (v := ?_) 1 (some 85) rfl rfl (by kernel_rfl) (by kernel_rfl) (by kernel_rfl) (fun _ _ _ h => h) (by rfl) ?_ hHeld ?_; rotate_left; focus (intro w hSw; go_simp; try with_reducible rfl))
                simp only [Act.put, List.setIfInBounds_toArray, List.set_cons_zero, List.set_cons_succ]
                (refine tk_yes (v := ?_) 3 (some 87) rfl rfl (by kernel_rfl) (by kernel_rfl) (by kernel_rfl) (fun _ _ _ h => h) (by rfl) ?_ hHeld ?_; rotate_left; focus (intro w hSw; go_simp; try with_reducible rfl))
                simp only [Act.put, List.setIfInBounds_toArray, List.set_cons_zero, List.set_cons_succ]
                (refine tk_yes (v := ?_) 4 (some 88) rfl rfl (by kernel_rfl) (by kernel_rfl) (by kernel_rfl) (fun _ _ _ h => h) (by rfl) ?_ hHeld ?_; rotate_left; focus (intro w hSw; go_simp; try with_reducible rfl))
                simp only [Act.put, List.setIfInBounds_toArray, List.set_cons_zero, List.set_cons_succ]
                (refine tk_yes (v := .int .u32 ((upd f T NN) T)) 5 (some 89) rfl rfl (by kernel_rfl) (by kernel_rfl) (by kernel_rfl) (fun _ _ _ h => h) (by rfl) ?_ hHeld ?_; focus (intro w hSw; exact lookI_ex rfl hSw T rfl rfl HT0.out HT1.out))
                simp only [Act.put, List.setIfInBounds_toArray, List.set_cons_zero, List.set_cons_succ]
                refine wpAnyH_ready (rs := [2]) (by kernel_rfl) (by simp) ?_
                refine AllReadyH.cons rfl (fun K hK => ?_) AllReadyH.nil
                go_simp
                go_at_call 10
                refine (last10 Q2.out.ob.bk T HT0.out HT1.out).mono ?_
                rintro e v2 ⟨rfl, l2⟩
                have Q3 := hid (Q2.out.below l2)
                clear l2
                go_wp2_with fail
                refine hK.out _ _ Q3.out.mr (fun hHeld => ?_)
                clear hK K
                try simp only [Act.put, List.setIfInBounds_toArray, List.set_cons_zero, List.set_cons_succ]
                (refine tk_yes (v := .bool false) 6 (some 90) rfl rfl (by kernel_rfl) (by kernel_rfl) (by kernel_rfl) (fun _ _ _ h => h) (by rfl) ?_ hHeld ?_; focus (intro w hSw; go_simp))
                simp only [Act.put, List.setIfInBounds_toArray, List.set_cons_zero, List.set_cons_succ]
                refine wpAnyH_done (by kernel_rfl) ?_ _
                refine NoPanic.normal ?_
                go_wp2
                go_roundw
                case rel => exact ⟨k + 1, (upd f T NN), by omega, by go_num, (LM.out.upd _ _ HN0.out g2), Q3.out.mono (by omega) (by omega)⟩
                case measure => simp [intOf]; omega
              · have HE := hid (HS.out.trans (if_neg (fun h => g2 h.2)))
                clear HS
                go_upto_region 27 with (first | (at_lookup; refine lookI rfl _ _ rfl R3.out.mr T rfl rfl HT0.out HT1.out ?_; rw [HX.out]) | (go_at_call 8; have kill := R2.out; refine (saw8 R2.out.ob.bk (by omega) T NN HT0.out HT1.out HN0.out HN1.out).mono ?_; rw [HE.out]; rintro e w5 ⟨rfl, b5, g5⟩; have R3 := hid (R2.out.book b5 g5); clear b5 g5 kill R2))
                have Q2 := hid R3.out.drew
                refine wp_region_noPanic ?_
                refine wp_region_held_drew (S := (fun w' : World => MR 27 keyI w' bl (2 * k) f)) (by kernel_rfl) Q2.out.mr (fun hHeld => ?_)
                (refine tk_yes (v := ?_) 0 (some 84) rfl rfl (by kernel_rfl) (by kernel_rfl) (by kernel_rfl) (fun _ _ _ h => h) (by rfl) ?_ hHeld ?_; rotate_left; focus (intro w hSw; go_simp; try with_reducible rfl))
                simp only [Act.put, List.setIfInBounds_toArray, List.set_cons_zero, List.set_cons_succ]
                (refine tk_yes (v := ?_) 1 (some 85) rfl rfl (by kernel_rfl) (by kernel_rfl) (by kernel_rfl) (fun _ _ _ h => h) (by rfl) ?_ hHeld ?_; rotate_left; focus (intro w hSw; go_simp; try with_reducible rfl))
                simp only [Act.put, List.setIfInBounds_toArray, List.set_cons_zero, List.set_cons_succ]
                (refine tk_yes (v := ?_) 3 (some 87) rfl rfl (by kernel_rfl) (by kernel_rfl) (by kernel_rfl) (fun _ _ _ h => h) (by rfl) ?_ hHeld ?_; rotate_left; focus (intro w hSw; go_simp; try with_reducible rfl))
                simp only [Act.put, List.setIfInBounds_toArray, List.set_cons_zero, List.set_cons_succ]
                (refine tk_yes (v := ?_) 4 (some 88) rfl rfl (by kernel_rfl) (by kernel_rfl) (by kernel_rfl) (fun _ _ _ h => h) (by rfl) ?_ hHeld ?_; rotate_left; focus (intro w hSw; go_simp; try with_reducible rfl))
                simp only [Act.put, List.setIfInBounds_toArray, List.set_cons_zero, List.set_cons_succ]
                (refine tk_yes (v := .int .u32 (f T)) 5 (some 89) rfl rfl (by kernel_rfl) (by kernel_rfl) (by kernel_rfl) (fun _ _ _ h => h) (by rfl) ?_ hHeld ?_; focus (intro w hSw; exact lookI_ex rfl hSw T rfl rfl HT0.out HT1.out))
                simp only [Act.put, List.setIfInBounds_toArray, List.set_cons_zero, List.set_cons_succ]
                refine wpAnyH_ready (rs := [2]) (by kernel_rfl) (by simp) ?_
                refine AllReadyH.cons rfl (fun K hK => ?_) AllReadyH.nil
                go_simp
                go_at_call 10
                refine (last10 Q2.out.ob.bk T HT0.out HT1.out).mono ?_
                rintro e v2 ⟨rfl, l2⟩
                have Q3 := hid (Q2.out.below l2)
                clear l2
                go_wp2_with fail
                refine hK.out _ _ Q3.out.mr (fun hHeld => ?_)
                clear hK K
                try simp only [Act.put, List.setIfInBounds_toArray, List.set_cons_zero, List.set_cons_succ]
                (refine tk_yes (v := .bool false) 6 (some 90) rfl rfl (by kernel_rfl) (by kernel_rfl) (by kernel_rfl) (fun _ _ _ h => h) (by rfl) ?_ hHeld ?_; focus (intro w hSw; go_simp))
                simp only [Act.put, List.setIfInBounds_toArray, List.set_cons_zero, List.set_cons_succ]
                refine wpAnyH_done (by kernel_rfl) ?_ _
                refine NoPanic.normal ?_
                go_wp2
                go_roundw
                case rel => exact ⟨k + 1, f, by omega, by go_num, LM.out, Q3.out.mono (by omega) (by omega)⟩
                case measure => simp [intOf]; omega
            · have HE := hid (HS.out.trans (if_neg (fun h => g1 h.1)))
              clear HS
              go_upto_region 27 with (first | (at_lookup; refine lookI rfl _ _ rfl R3.out.mr T rfl rfl HT0.out HT1.out ?_; rw [HX.out]) | (go_at_call 8; have kill := R2.out; refine (saw8 R2.out.ob.bk (by omega) T NN HT0.out HT1.out HN0.out HN1.out).mono ?_; rw [HE.out]; rintro e w5 ⟨rfl, b5, g5⟩; have R3 := hid (R2.out.book b5 g5); clear b5 g5 kill R2))
              have Q2 := hid R3.out.drew
              refine wp_region_noPanic ?_
              refine wp_region_held_drew (S := (fun w' : World => MR 27 keyI w' bl (2 * k) f)) (by kernel_rfl) Q2.out.mr (fun hHeld => ?_)
              (refine tk_yes (v := ?_) 0 (some 84) rfl rfl (by kernel_rfl) (by kernel_rfl) (by kernel_rfl) (fun _ _ _ h => h) (by rfl) ?_ hHeld ?_; rotate_left; focus (intro w hSw; go_simp; try with_reducible rfl))
              simp only [Act.put, List.setIfInBounds_toArray, List.set_cons_zero, List.set_cons_succ]
              (refine tk_yes (v := ?_) 1 (some 85) rfl rfl (by kernel_rfl) (by kernel_rfl) (by kernel_rfl) (fun _ _ _ h => h) (by rfl) ?_ hHeld ?_; rotate_left; focus (intro w hSw; go_simp; try with_reducible rfl))
              simp only [Act.put, List.setIfInBounds_toArray, List.set_cons_zero, List.set_cons_succ]
              (refine tk_yes (v := ?_) 3 (some 87) rfl rfl (by kernel_rfl) (by kernel_rfl) (by kernel_rfl) (fun _ _ _ h => h) (by rfl) ?_ hHeld ?_; rotate_left; focus (intro w hSw; go_simp; try with_reducible rfl))
              simp only [Act.put, List.setIfInBounds_toArray, List.set_cons_zero, List.set_cons_succ]
              (refine tk_yes (v := ?_) 4 (some 88) rfl rfl (by kernel_rfl) (by kernel_rfl) (by kernel_rfl) (fun _ _ _ h => h) (by rfl) ?_ hHeld ?_; rotate_left; focus (intro w hSw; go_simp; try with_reducible rfl))
              simp only [Act.put, List.setIfInBounds_toArray, List.set_cons_zero, List.set_cons_succ]
              (refine tk_yes (v := .int .u32 (f T)) 5 (some 89) rfl rfl (by kernel_rfl) (by kernel_rfl) (by kernel_rfl) (fun _ _ _ h => h) (by rfl) ?_ hHeld ?_; focus (intro w hSw; exact lookI_ex rfl hSw T rfl rfl HT0.out HT1.out))
              simp only [Act.put, List.setIfInBounds_toArray, List.set_cons_zero, List.set_cons_succ]
              refine wpAnyH_ready (rs := [2]) (by kernel_rfl) (by simp) ?_
              refine AllReadyH.cons rfl (fun K hK => ?_) AllReadyH.nil
              go_simp
              go_at_call 10
              refine (last10 Q2.out.ob.bk T HT0.out HT1.out).mono ?_
              rintro e v2 ⟨rfl, l2⟩
              have Q3 := hid (Q2.out.below l2)
              clear l2
              go_wp2_with fail
              refine hK.out _ _ Q3.out.mr (fun hHeld => ?_)
              clear hK K
              try simp only [Act.put, List.setIfInBounds_toArray, List.set_cons_zero, List.set_cons_succ]
              (refine tk_yes (v := .bool false) 6 (some 90) rfl rfl (by kernel_rfl) (by kernel_rfl) (by kernel_rfl) (fun _ _ _ h => h) (by rfl) ?_ hHeld ?_; focus (intro w hSw; go_simp))
              simp only [Act.put, List.setIfInBounds_toArray, List.set_cons_zero, List.set_cons_succ]
              refine wpAnyH_done (by kernel_rfl) ?_ _
              refine NoPanic.normal ?_
              go_wp2
              go_roundw
              case rel => exact ⟨k + 1, f, by omega, by go_num, LM.out, Q3.out.mono (by omega) (by omega)⟩
              case measure => simp [intOf]; omega
          · obtain ⟨z3, e3, p3⟩ : ∃ z3, (k : Int).tmod 3 = z3 ∧ 0 < z3 := ⟨(k : Int) % 3, by rw [Int.tmod_eq_emod_of_nonneg (by omega)], by omega⟩
            obtain ⟨T, eT, T0, T1⟩ : ∃ T, y.tmod 3 = T ∧ 0 ≤ T ∧ T < 65536 := ⟨y % 3, by rw [Int.tmod_eq_emod_of_nonneg hy.1], by omega, by omega⟩
            obtain ⟨m8, e8, n8⟩ : ∃ m8, x.tmod 8 = m8 ∧ ¬ m8 = 0 := ⟨x % 8, by rw [Int.tmod_eq_emod_of_nonneg hx.1], h8⟩
            obtain ⟨N0, N1⟩ := hz
            obtain ⟨X, hX⟩ : ∃ X, f T = X := ⟨_, rfl⟩
            have HX := hid hX
            have HT0 := hid T0
            have HT1 := hid T1
            have HN0 := hid N0
            have HN1 := hid N1
            have HS : Hid (sawL f T z = if X < z ∧ z ≤ 999999 then upd f T z else f) := by unfold Hid sawL; rw [hX]
            have R2 := hid (R1.out.below (bel1 wr (.cells #[.int .u8 x, .int .u16 y, .int .u32 z] 30)))
            clear hX T0 T1 N0 N1
            go_upto_region 24 with (fail)
            generalize wr.alloc (.cells #[.int .u8 x, .int .u16 y, .int .u32 z] 30) = w4 at *
            clear c0 c1 c2 j2 e3 e4 e8 hx hy p3 eT n8
            by_cases g1 : X < z
            · by_cases g2 : z ≤ 999999
              · have HE := hid (HS.out.trans (if_pos ⟨g1, g2⟩))
                clear HS
                go_upto_region 27 with (first | (at_lookup; refine lookI rfl _ _ rfl R3.out.mr T rfl rfl HT0.out HT1.out ?_; rw [HX.out]) | (at_mapUpdate; have kill := R3.out; refine storeI rfl _ _ _ rfl R3.out.mr (by omega) T z rfl rfl rfl HT0.out HT1.out HN0.out HN1.out ?_; intro w6 m6 g6; have R4 := hid (R3.out.last m6 g6); clear m6 g6 kill R3) | (go_at_call 8; have kill := R2.out; refine (saw8 R2.out.ob.bk (by omega) T z HT0.out HT1.out HN0.out HN1.out).mono ?_; rw [HE.out]; rintro e w5 ⟨rfl, b5, g5⟩; have R3 := hid (R2.out.book b5 g5); clear b5 g5 kill R2))
                have Q2 := hid R4.out.drew
                refine wp_region_noPanic ?_
                refine wp_region_held_drew (S := (fun w' : World => MR 27 keyI w' bl (2 * k + 1) (upd f T z))) (by kernel_rfl) Q2.out.mr (fun hHeld => ?_)
                (refine tk_yes (v := ?_) 0 (some 84) rfl rfl (by kernel_rfl) (by kernel_rfl) (by kernel_rfl) (fun _ _ _ h => h) (by rfl) ?_ hHeld ?_; rotate_left; focus (intro w hSw; go_simp; try with_reducible rfl))
                simp only [Act.put, List.setIfInBounds_toArray, List.set_cons_zero, List.set_cons_succ]
                (refine tk_yes (v := ?_) 1 (some 85) rfl rfl (by kernel_rfl) (by kernel_rfl) (by kernel_rfl) (fun _ _ _ h => h) (by rfl) ?_ hHeld ?_; rotate_left; focus (intro w hSw; go_simp; try with_reducible rfl))
                simp only [Act.put, List.setIfInBounds_toArray, List.set_cons_zero, List.set_cons_succ]
                (refine tk_yes (v := ?_) 3 (some 87) rfl rfl (by kernel_rfl) (by kernel_rfl) (by kernel_rfl) (fun _ _ _ h => h) (by rfl) ?_ hHeld ?_; rotate_left; focus (intro w hSw; go_simp; try with_reducible rfl))
                simp only [Act.put, List.setIfInBounds_toArray, List.set_cons_zero, List.set_cons_succ]
                (refine tk_yes (v := ?_) 4 (some 88) rfl rfl (by kernel_rfl) (by kernel_rfl) (by kernel_rfl) (fun _ _ _ h => h) (by rfl) ?_ hHeld ?_; rotate_left; focus (intro w hSw; go_simp; try with_reducible rfl))
                simp only [Act.put, List.setIfInBounds_toArray, List.set_cons_zero, List.set_cons_succ]
                (refine tk_yes (v := .int .u32 ((upd f T z) T)) 5 (some 89) rfl rfl (by kernel_rfl) (by kernel_rfl) (by kernel_rfl) (fun _ _ _ h => h) (by rfl) ?_ hHeld ?_; focus (intro w hSw; exact lookI_ex rfl hSw T rfl rfl HT0.out HT1.out))
                simp only [Act.put, List.setIfInBounds_toArray, List.set_cons_zero, List.set_cons_succ]
                refine wpAnyH_ready (rs := [2]) (by kernel_rfl) (by simp) ?_
                refine AllReadyH.cons rfl (fun K hK => ?_) AllReadyH.nil
                go_simp
                go_at_call 10
                refine (last10 Q2.out.ob.bk T HT0.out HT1.out).mono ?_
                rintro e v2 ⟨rfl, l2⟩
                have Q3 := hid (Q2.out.below l2)
                clear l2
                go_wp2_with fail
                refine hK.out _ _ Q3.out.mr (fun hHeld => ?_)
                clear hK K
                try simp only [Act.put, List.setIfInBounds_toArray, List.set_cons_zero, List.set_cons_succ]
                (refine tk_yes (v := .bool false) 6 (some 90) rfl rfl (by kernel_rfl) (by kernel_rfl) (by kernel_rfl) (fun _ _ _ h => h) (by rfl) ?_ hHeld ?_; focus (intro w hSw; go_simp))
                simp only [Act.put, List.setIfInBounds_toArray, List.set_cons_zero, List.set_cons_succ]
                refine wpAnyH_done (by kernel_rfl) ?_ _
                refine NoPanic.normal ?_
                go_wp2
                go_roundw
                case rel => exact ⟨k + 1, (upd f T z), by omega, by go_num, (LM.out.upd _ _ HN0.out g2), Q3.out.mono (by omega) (by omega)⟩
                case measure => simp [intOf]; omega
              · have HE := hid (HS.out.trans (if_neg (fun h => g2 h.2)))
                clear HS
                go_upto_region 27 with (first | (at_lookup; refine lookI rfl _ _ rfl R3.out.mr T rfl rfl HT0.out HT1.out ?_; rw [HX.out]) | (go_at_call 8; have kill := R2.out; refine (saw8 R2.out.ob.bk (by omega) T z HT0.out HT1.out HN0.out HN1.out).mono ?_; rw [HE.out]; rintro e w5 ⟨rfl, b5, g5⟩; have R3 := hid (R2.out.book b5 g5); clear b5 g5 kill R2))
                have Q2 := hid R3.out.drew
                refine wp_region_noPanic ?_
                refine wp_region_held_drew (S := (fun w' : World => MR 27 keyI w' bl (2 * k) f)) (by kernel_rfl) Q2.out.mr (fun hHeld => ?_)
                (refine tk_yes (v := ?_) 0 (some 84) rfl rfl (by kernel_rfl) (by kernel_rfl) (by kernel_rfl) (fun _ _ _ h => h) (by rfl) ?_ hHeld ?_; rotate_left; focus (intro w hSw; go_simp; try with_reducible rfl))
                simp only [Act.put, List.setIfInBounds_toArray, List.set_cons_zero, List.set_cons_succ]
                (refine tk_yes (v := ?_) 1 (some 85) rfl rfl (by kernel_rfl) (by kernel_rfl) (by kernel_rfl) (fun _ _ _ h => h) (by rfl) ?_ hHeld ?_; rotate_left; focus (intro w hSw; go_simp; try with_reducible rfl))
                simp only [Act.put, List.setIfInBounds_toArray, List.set_cons_zero, List.set_cons_succ]
                (refine tk_yes (v := ?_) 3 (some 87) rfl rfl (by kernel_rfl) (by kernel_rfl) (by kernel_rfl) (fun _ _ _ h => h) (by rfl) ?_ hHeld ?_; rotate_left; focus (intro w hSw; go_simp; try with_reducible rfl))
                simp only [Act.put, List.setIfInBounds_toArray, List.set_cons_zero, List.set_cons_succ]
                (refine tk_yes (v := ?_) 4 (some 88) rfl rfl (by kernel_rfl) (by kernel_rfl) (by kernel_rfl) (fun _ _ _ h => h) (by rfl) ?_ hHeld ?_; rotate_left; focus (intro w hSw; go_simp; try with_reducible rfl))
                simp only [Act.put, List.setIfInBounds_toArray, List.set_cons_zero, List.set_cons_succ]
                (refine tk_yes (v := .int .u32 (f T)) 5 (some 89) rfl rfl (by kernel_rfl) (by kernel_rfl) (by kernel_rfl) (fun _ _ _ h => h) (by rfl) ?_ hHeld ?_; focus (intro w hSw; exact lookI_ex rfl hSw T rfl rfl HT0.out HT1.out))
                simp only [Act.put, List.setIfInBounds_toArray, List.set_cons_zero, List.set_cons_succ]
                refine wpAnyH_ready (rs := [2]) (by kernel_rfl) (by simp) ?_
                refine AllReadyH.cons rfl (fun K hK => ?_) AllReadyH.nil
                go_simp
                go_at_call 10
                refine (last10 Q2.out.ob.bk T HT0.out HT1.out).mono ?_
                rintro e v2 ⟨rfl, l2⟩
                have Q3 := hid (Q2.out.below l2)
                clear l2
                go_wp2_with fail
                refine hK.out _ _ Q3.out.mr (fun hHeld => ?_)
                clear hK K
                try simp only [Act.put, List.setIfInBounds_toArray, List.set_cons_zero, List.set_cons_succ]
                (refine tk_yes (v := .bool false) 6 (some 90) rfl rfl (by kernel_rfl) (by kernel_rfl) (by kernel_rfl) (fun _ _ _ h => h) (by rfl) ?_ hHeld ?_; focus (intro w hSw; go_simp))
                simp only [Act.put, List.setIfInBounds_toArray, List.set_cons_zero, List.set_cons_succ]
                refine wpAnyH_done (by kernel_rfl) ?_ _
                refine NoPanic.normal ?_
                go_wp2
                go_roundw
                case rel => exact ⟨k + 1, f, by omega, by go_num, LM.out, Q3.out.mono (by omega) (by omega)⟩
                case measure => simp [intOf]; omega
            · have HE := hid (HS.out.trans (if_neg (fun h => g1 h.1)))
              clear HS
              go_upto_region 27 with (first | (at_lookup; refine lookI rfl _ _ rfl R3.out.mr T rfl rfl HT0.out HT1.out ?_; rw [HX.out]) | (go_at_call 8; have kill := R2.out; refine (saw8 R2.out.ob.bk (by omega) T z HT0.out HT1.out HN0.out HN1.out).mono ?_; rw [HE.out]; rintro e w5 ⟨rfl, b5, g5⟩; have R3 := hid (R2.out.book b5 g5); clear b5 g5 kill R2))
              have Q2 := hid R3.out.drew
              refine wp_region_noPanic ?_
              refine wp_region_held_drew (S := (fun w' : World => MR 27 keyI w' bl (2 * k) f)) (by kernel_rfl) Q2.out.mr (fun hHeld => ?_)
              (refine tk_yes (v := ?_) 0 (some 84) rfl rfl (by kernel_rfl) (by kernel_rfl) (by kernel_rfl) (fun _ _ _ h => h) (by rfl) ?_ hHeld ?_; rotate_left; focus (intro w hSw; go_simp; try with_reducible rfl))
              simp only [Act.put, List.setIfInBounds_toArray, List.set_cons_zero, List.set_cons_succ]
              (refine tk_yes (v := ?_) 1 (some 85) rfl rfl (by kernel_rfl) (by kernel_rfl) (by kernel_rfl) (fun _ _ _ h => h) (by rfl) ?_ hHeld ?_; rotate_left; focus (intro w hSw; go_simp; try with_reducible rfl))
              simp only [Act.put, List.setIfInBounds_toArray, List.set_cons_zero, List.set_cons_succ]
              (refine tk_yes (v := ?_) 3 (some 87) rfl rfl (by kernel_rfl) (by kernel_rfl) (by kernel_rfl) (fun _ _ _ h => h) (by rfl) ?_ hHeld ?_; rotate_left; focus (intro w hSw; go_simp; try with_reducible rfl))
              simp only [Act.put, List.setIfInBounds_toArray, List.set_cons_zero, List.set_cons_succ]
              (refine tk_yes (v := ?_) 4 (some 88) rfl rfl (by kernel_rfl) (by kernel_rfl) (by kernel_rfl) (fun _ _ _ h => h) (by rfl) ?_ hHeld ?_; rotate_left; focus (intro w hSw; go_simp; try with_reducible rfl))
              simp only [Act.put, List.setIfInBounds_toArray, List.set_cons_zero, List.set_cons_succ]
              (refine tk_yes (v := .int .u32 (f T)) 5 (some 89) rfl rfl (by kernel_rfl) (by kernel_rfl) (by kernel_rfl) (fun _ _ _ h => h) (by rfl) ?_ hHeld ?_; focus (intro w hSw; exact lookI_ex rfl hSw T rfl rfl HT0.out HT1.out))
              simp only [Act.put, List.setIfInBounds_toArray, List.set_cons_zero, List.set_cons_succ]
              refine wpAnyH_ready (rs := [2]) (by kernel_rfl) (by simp) ?_
              refine AllReadyH.cons rfl (fun K hK => ?_) AllReadyH.nil
              go_simp
              go_at_call 10
              refine (last10 Q2.out.ob.bk T HT0.out HT1.out).mono ?_
              rintro e v2 ⟨rfl, l2⟩
              have Q3 := hid (Q2.out.below l2)
              clear l2
              go_wp2_with fail
              refine hK.out _ _ Q3.out.mr (fun hHeld => ?_)
              clear hK K
              try simp only [Act.put, List.setIfInBounds_toArray, List.set_cons_zero, List.set_cons_succ]
              (refine tk_yes (v := .bool false) 6 (some 90) rfl rfl (by kernel_rfl) (by kernel_rfl) (by kernel_rfl) (fun _ _ _ h => h) (by rfl) ?_ hHeld ?_; focus (intro w hSw; go_simp))
              simp only [Act.put, List.setIfInBounds_toArray, List.set_cons_zero, List.set_cons_succ]
              refine wpAnyH_done (by kernel_rfl) ?_ _
              refine NoPanic.normal ?_
              go_wp2
              go_roundw
              case rel => exact ⟨k + 1, f, by omega, by go_num, LM.out, Q3.out.mono (by omega) (by omega)⟩
              case measure => simp [intOf]; omega
        · obtain ⟨m4, e4, n4⟩ : ∃ m4, x.tmod 4 = m4 ∧ ¬ m4 = 0 := ⟨x % 4, by rw [Int.tmod_eq_emod_of_nonneg hx.1], h4⟩
          obtain ⟨z3, e3, p3⟩ : ∃ z3, (k : Int).tmod 3 = z3 ∧ 0 < z3 := ⟨(k : Int) % 3, by rw [Int.tmod_eq_emod_of_nonneg (by omega)], by omega⟩
          obtain ⟨T, eT, T0, T1⟩ : ∃ T, y.tmod 3 = T ∧ 0 ≤ T ∧ T < 65536 := ⟨y % 3, by rw [Int.tmod_eq_emod_of_nonneg hy.1], by omega, by omega⟩
          obtain ⟨X, hX⟩ : ∃ X, f T = X := ⟨_, rfl⟩
          obtain ⟨X0, X1⟩ := LM.out T
          rw [hX] at X0 X1
          have HX := hid hX
          have HX0 := hid X0
          have HX1 := hid X1
          have HT0 := hid T0
          have HT1 := hid T1
          have HN : Hid (nextL X = if 999999 ≤ X then 1 else X + 1) := rfl
          have x1 : IntKind.u32.wrap (X + 1) = X + 1 := by rw [IntKind.wrap_u32]; omega
          have R2 := hid (R1.out.below (bel1 wr (.cells #[.int .u8 x, .int .u16 y, .int .u32 z] 30)))
          clear hX X0 X1 T0 T1
          go_upto_region 15 with (fail)
          generalize wr.alloc (.cells #[.int .u8 x, .int .u16 y, .int .u32 z] 30) = w4 at *
          clear c0 c1 c2 j2 e3 e4 n4 hx hy hz p3 eT
          by_cases hb : 999999 ≤ X
          · have HY := hid (HN.out.trans (if_pos hb))
            clear HN
            have hb3 : 999999 < X + 1 := by omega
            go_upto_region 18 with (first | (at_lookup; refine lookI rfl _ _ rfl R3.out.mr T rfl rfl HT0.out HT1.out ?_; rw [upd_same]) | (at_mapUpdate; have kill := R3.out; refine storeI rfl _ _ _ rfl R3.out.mr (by omega) T 1 rfl rfl rfl HT0.out HT1.out (by omega) (by omega) ?_; intro w6 m6 g6; rw [upd_upd] at m6; have R4 := hid (R3.out.last m6 g6); clear m6 g6 kill R3) | (at_lookup; refine lookI rfl _ _ rfl R2.out.mr T rfl rfl HT0.out HT1.out ?_; rw [HX.out]) | (at_mapUpdate; have kill := R2.out; refine storeI rfl _ _ _ rfl R2.out.mr (by omega) T (X + 1) rfl rfl rfl HT0.out HT1.out (by have := HX0.out; omega) (by have := HX1.out; omega) ?_; intro w5 m5 g5; have R3 := hid (R2.out.last m5 g5); clear m5 g5 kill R2))
            refine wp_region_noPanic ?_
            refine wp_region_held_drew (S := (fun w' : World => MR 27 keyI w' bl (2 * k + 1 + 1) (upd f T 1))) (by kernel_rfl) R4.out.drew.mr (fun hHeld => ?_)
            (refine tk_yes (v := ?_) 0 (some 46) rfl rfl (by kernel_rfl) (by kernel_rfl) (by kernel_rfl) (fun _ _ _ h => h) (by rfl) ?_ hHeld ?_; rotate_left; focus (intro w hSw; go_simp; try with_reducible rfl))
            simp only [Act.put, List.setIfInBounds_toArray, List.set_cons_zero, List.set_cons_succ]
            (refine tk_yes (v := ?_) 1 (some 47) rfl rfl (by kernel_rfl) (by kernel_rfl) (by kernel_rfl) (fun _ _ _ h => h) (by rfl) ?_ hHeld ?_; rotate_left; focus (intro w hSw; go_simp; try with_reducible rfl))
            simp only [Act.put, List.setIfInBounds_toArray, List.set_cons_zero, List.set_cons_succ]
            (refine tk_yes (v := ?_) 3 (some 49) rfl rfl (by kernel_rfl) (by kernel_rfl) (by kernel_rfl) (fun _ _ _ h => h) (by rfl) ?_ hHeld ?_; rotate_left; focus (intro w hSw; go_simp; try with_reducible rfl))
            simp only [Act.put, List.setIfInBounds_toArray, List.set_cons_zero, List.set_cons_succ]
            (refine tk_yes (v := ?_) 4 (some 50) rfl rfl (by kernel_rfl) (by kernel_rfl) (by kernel_rfl) (fun _ _ _ h => h) (by rfl) ?_ hHeld ?_; rotate_left; focus (intro w hSw; go_simp; try with_reducible rfl))
            simp only [Act.put, List.setIfInBounds_toArray, List.set_cons_zero, List.set_cons_succ]
            (refine tk_yes (v := ?_) 5 (some 51) rfl rfl (by kernel_rfl) (by kernel_rfl) (by kernel_rfl) (fun _ _ _ h => h) (by rfl) ?_ hHeld ?_; rotate_left; focus (intro w hSw; go_simp; try with_reducible rfl))
            simp only [Act.put, List.setIfInBounds_toArray, List.set_cons_zero, List.set_cons_succ]
            (refine tk_yes (v := .int .u32 1) 6 (some 52) rfl rfl (by kernel_rfl) (by kernel_rfl) (by kernel_rfl) (fun _ _ _ h => h) (by rfl) ?_ hHeld ?_; focus (intro w hSw; exact (lookI_ex rfl hSw T rfl rfl HT0.out HT1.out).trans (by rw [upd_same])))
            simp only [Act.put, List.setIfInBounds_toArray, List.set_cons_zero, List.set_cons_succ]
            (refine tk_yes (v := ?_) 7 (some 53) rfl rfl (by kernel_rfl) (by kernel_rfl) (by kernel_rfl) (fun _ _ _ h => h) (by rfl) ?_ hHeld ?_; rotate_left; focus (intro w hSw; go_simp; try with_reducible rfl))
            simp only [Act.put, List.setIfInBounds_toArray, List.set_cons_zero, List.set_cons_succ]
            refine wpAnyH_ready (rs := [2]) (by kernel_rfl) (by simp) ?_
            refine AllReadyH.cons rfl (fun K hK => ?_) AllReadyH.nil
            go_simp
            go_at_call 9
            refine (nextk R4.out.drew.ob.bk (by omega) T X 1 HT0.out HT1.out HX.out HY.out HX0.out HX1.out).mono ?_
            rintro e v1 ⟨rfl, b1, g1⟩
            have Q1 := hid (R4.out.drew.book b1 g1)
            clear b1 g1
            go_wp2_with fail
            refine hK.out _ _ Q1.out.mr (fun hHeld => ?_)
            clear hK K
            try simp only [Act.put, List.setIfInBounds_toArray, List.set_cons_zero, List.set_cons_succ]
            (refine tk_yes (v := .bool false) 8 (some 54) rfl rfl (by kernel_rfl) (by kernel_rfl) (by kernel_rfl) (fun _ _ _ h => h) (by rfl) ?_ hHeld ?_; focus (intro w hSw; exact (neqq rfl rfl rfl).trans (by simp)))
            simp only [Act.put, List.setIfInBounds_toArray, List.set_cons_zero, List.set_cons_succ]
            refine wpAnyH_done (by kernel_rfl) ?_ _
            refine NoPanic.normal ?_
            go_upto_region 27 with (fail)
            have Q2 := hid Q1.out.drew
            refine wp_region_noPanic ?_
            refine wp_region_held_drew (S := (fun w' : World => MR 27 keyI w' bl (2 * k + 1 + 1) (upd f T 1))) (by kernel_rfl) Q2.out.mr (fun hHeld => ?_)
            (refine tk_yes (v := ?_) 0 (some 84) rfl rfl (by kernel_rfl) (by kernel_rfl) (by kernel_rfl) (fun _ _ _ h => h) (by rfl) ?_ hHeld ?_; rotate_left; focus (intro w hSw; go_simp; try with_reducible rfl))
            simp only [Act.put, List.setIfInBounds_toArray, List.set_cons_zero, List.set_cons_succ]
            (refine tk_yes (v := ?_) 1 (some 85) rfl rfl (by kernel_rfl) (by kernel_rfl) (by kernel_rfl) (fun _ _ _ h => h) (by rfl) ?_ hHeld ?_; rotate_left; focus (intro w hSw; go_simp; try with_reducible rfl))
            simp only [Act.put, List.setIfInBounds_toArray, List.set_cons_zero, List.set_cons_succ]
            (refine tk_yes (v := ?_) 3 (some 87) rfl rfl (by kernel_rfl) (by kernel_rfl) (by kernel_rfl) (fun _ _ _ h => h) (by rfl) ?_ hHeld ?_; rotate_left; focus (intro w hSw; go_simp; try with_reducible rfl))
            simp only [Act.put, List.setIfInBounds_toArray, List.set_cons_zero, List.set_cons_succ]
            (refine tk_yes (v := ?_) 4 (some 88) rfl rfl (by kernel_rfl) (by kernel_rfl) (by kernel_rfl) (fun _ _ _ h => h) (by rfl) ?_ hHeld ?_; rotate_left; focus (intro w hSw; go_simp; try with_reducible rfl))
            simp only [Act.put, List.setIfInBounds_toArray, List.set_cons_zero, List.set_cons_succ]
            (refine tk_yes (v := .int .u32 ((upd f T 1) T)) 5 (some 89) rfl rfl (by kernel_rfl) (by kernel_rfl) (by kernel_rfl) (fun _ _ _ h => h) (by rfl) ?_ hHeld ?_; focus (intro w hSw; exact lookI_ex rfl hSw T rfl rfl HT0.out HT1.out))
            simp only [Act.put, List.setIfInBounds_toArray, List.set_cons_zero, List.set_cons_succ]
            refine wpAnyH_ready (rs := [2]) (by kernel_rfl) (by simp) ?_
            refine AllReadyH.cons rfl (fun K hK => ?_) AllReadyH.nil
            go_simp
            go_at_call 10
            refine (last10 Q2.out.ob.bk T HT0.out HT1.out).mono ?_
            rintro e v2 ⟨rfl, l2⟩
            have Q3 := hid (Q2.out.below l2)
            clear l2
            go_wp2_with fail
            refine hK.out _ _ Q3.out.mr (fun hHeld => ?_)
            clear hK K
            try simp only [Act.put, List.setIfInBounds_toArray, List.set_cons_zero, List.set_cons_succ]
            (refine tk_yes (v := .bool false) 6 (some 90) rfl rfl (by kernel_rfl) (by kernel_rfl) (by kernel_rfl) (fun _ _ _ h => h) (by rfl) ?_ hHeld ?_; focus (intro w hSw; go_simp))
            simp only [Act.put, List.setIfInBounds_toArray, List.set_cons_zero, List.set_cons_succ]
            refine wpAnyH_done (by kernel_rfl) ?_ _
            refine NoPanic.normal ?_
            go_wp2
            go_roundw
            case rel => exact ⟨k + 1, (upd f T 1), by omega, by go_num, (LM.out.upd _ _ (by have := HX0.out; omega) (by have := HX1.out; omega)), Q3.out.mono (by omega) (by omega)⟩
            case measure => simp [intOf]; omega
          · have HY := hid (HN.out.trans (if_neg hb))
            clear HN
            have hb2 : X ≤ 999998 := by omega
            have hb3 : ¬ 999999 < X + 1 := by omega
            go_upto_region 18 with (first | (at_lookup; refine lookI rfl _ _ rfl R3.out.mr T rfl rfl HT0.out HT1.out ?_; rw [upd_same]) | (at_lookup; refine lookI rfl _ _ rfl R2.out.mr T rfl rfl HT0.out HT1.out ?_; rw [HX.out]) | (at_mapUpdate; have kill := R2.out; refine storeI rfl _ _ _ rfl R2.out.mr (by omega) T (X + 1) rfl rfl rfl HT0.out HT1.out (by have := HX0.out; omega) (by have := HX1.out; omega) ?_; intro w5 m5 g5; have R3 := hid (R2.out.last m5 g5); clear m5 g5 kill R2))
            refine wp_region_noPanic ?_
            refine wp_region_held_drew (S := (fun w' : World => MR 27 keyI w' bl (2 * k + 1) (upd f T (X + 1)))) (by kernel_rfl) R3.out.drew.mr (fun hHeld => ?_)
            (refine tk_yes (v := ?_) 0 (some 46) rfl rfl (by kernel_rfl) (by kernel_rfl) (by kernel_rfl) (fun _ _ _ h => h) (by rfl) ?_ hHeld ?_; rotate_left; focus (intro w hSw; go_simp; try with_reducible rfl))
            simp only [Act.put, List.setIfInBounds_toArray, List.set_cons_zero, List.set_cons_succ]
            (refine tk_yes (v := ?_) 1 (some 47) rfl rfl (by kernel_rfl) (by kernel_rfl) (by kernel_rfl) (fun _ _ _ h => h) (by rfl) ?_ hHeld ?_; rotate_left; focus (intro w hSw; go_simp; try with_reducible rfl))
            simp only [Act.put, List.setIfInBounds_toArray, List.set_cons_zero, List.set_cons_succ]
            (refine tk_yes (v := ?_) 3 (some 49) rfl rfl (by kernel_rfl) (by kernel_rfl) (by kernel_rfl) (fun _ _ _ h => h) (by rfl) ?_ hHeld ?_; rotate_left; focus (intro w hSw; go_simp; try with_reducible rfl))
            simp only [Act.put, List.setIfInBounds_toArray, List.set_cons_zero, List.set_cons_succ]
            (refine tk_yes (v := ?_) 4 (some 50) rfl rfl (by kernel_rfl) (by kernel_rfl) (by kernel_rfl) (fun _ _ _ h => h) (by rfl) ?_ hHeld ?_; rotate_left; focus (intro w hSw; go_simp; try with_reducible rfl))
            simp only [Act.put, List.setIfInBounds_toArray, List.set_cons_zero, List.set_cons_succ]
            (refine tk_yes (v := ?_) 5 (some 51) rfl rfl (by kernel_rfl) (by kernel_rfl) (by kernel_rfl) (fun _ _ _ h => h) (by rfl) ?_ hHeld ?_; rotate_left; focus (intro w hSw; go_simp; try with_reducible rfl))
            simp only [Act.put, List.setIfInBounds_toArray, List.set_cons_zero, List.set_cons_succ]
            (refine tk_yes (v := .int .u32 (X + 1)) 6 (some 52) rfl rfl (by kernel_rfl) (by kernel_rfl) (by kernel_rfl) (fun _ _ _ h => h) (by rfl) ?_ hHeld ?_; focus (intro w hSw; exact (lookI_ex rfl hSw T rfl rfl HT0.out HT1.out).trans (by rw [upd_same])))
            simp only [Act.put, List.setIfInBounds_toArray, List.set_cons_zero, List.set_cons_succ]
            (refine tk_yes (v := ?_) 7 (some 53) rfl rfl (by kernel_rfl) (by kernel_rfl) (by kernel_rfl) (fun _ _ _ h => h) (by rfl) ?_ hHeld ?_; rotate_left; focus (intro w hSw; go_simp; try with_reducible rfl))
            simp only [Act.put, List.setIfInBounds_toArray, List.set_cons_zero, List.set_cons_succ]
            refine wpAnyH_ready (rs := [2]) (by kernel_rfl) (by simp) ?_
            refine AllReadyH.cons rfl (fun K hK => ?_) AllReadyH.nil
            go_simp
            go_at_call 9
            refine (nextk R3.out.drew.ob.bk (by omega) T X (X + 1) HT0.out HT1.out HX.out HY.out HX0.out HX1.out).mono ?_
            rintro e v1 ⟨rfl, b1, g1⟩
            have Q1 := hid (R3.out.drew.book b1 g1)
            clear b1 g1
            go_wp2_with fail
            refine hK.out _ _ Q1.out.mr (fun hHeld => ?_)
            clear hK K
            try simp only [Act.put, List.setIfInBounds_toArray, List.set_cons_zero, List.set_cons_succ]
            (refine tk_yes (v := .bool false) 8 (some 54) rfl rfl (by kernel_rfl) (by kernel_rfl) (by kernel_rfl) (fun _ _ _ h => h) (by rfl) ?_ hHeld ?_; focus (intro w hSw; exact (neqq rfl rfl rfl).trans (by simp)))
            simp only [Act.put, List.setIfInBounds_toArray, List.set_cons_zero, List.set_cons_succ]
            refine wpAnyH_done (by kernel_rfl) ?_ _
            refine NoPanic.normal ?_
            go_upto_region 27 with (fail)
            have Q2 := hid Q1.out.drew
            refine wp_region_noPanic ?_
            refine wp_region_held_drew (S := (fun w' : World => MR 27 keyI w' bl (2 * k + 1) (upd f T (X + 1)))) (by kernel_rfl) Q2.out.mr (fun hHeld => ?_)
            (refine tk_yes (v := ?_) 0 (some 84) rfl rfl (by kernel_rfl) (by kernel_rfl) (by kernel_rfl) (fun _ _ _ h => h) (by rfl) ?_ hHeld ?_; rotate_left; focus (intro w hSw; go_simp; try with_reducible rfl))
            simp only [Act.put, List.setIfInBounds_toArray, List.set_cons_zero, List.set_cons_succ]
            (refine tk_yes (v := ?_) 1 (some 85) rfl rfl (by kernel_rfl) (by kernel_rfl) (by kernel_rfl) (fun _ _ _ h => h) (by rfl) ?_ hHeld ?_; rotate_left; focus (intro w hSw; go_simp; try with_reducible rfl))
            simp only [Act.put, List.setIfInBounds_toArray, List.set_cons_zero, List.set_cons_succ]
            (refine tk_yes (v := ?_) 3 (some 87) rfl rfl (by kernel_rfl) (by kernel_rfl) (by kernel_rfl) (fun _ _ _ h => h) (by rfl) ?_ hHeld ?_; rotate_left; focus (intro w hSw; go_simp; try with_reducible rfl))
            simp only [Act.put, List.setIfInBounds_toArray, List.set_cons_zero, List.set_cons_succ]
            (refine tk_yes (v := ?_) 4 (some 88) rfl rfl (by kernel_rfl) (by kernel_rfl) (by kernel_rfl) (fun _ _ _ h => h) (by rfl) ?_ hHeld ?_; rotate_left; focus (intro w hSw; go_simp; try with_reducible rfl))
            simp only [Act.put, List.setIfInBounds_toArray, List.set_cons_zero, List.set_cons_succ]
            (refine tk_yes (v := .int .u32 ((upd f T (X + 1)) T)) 5 (some 89) rfl rfl (by kernel_rfl) (by kernel_rfl) (by kernel_rfl) (fun _ _ _ h => h) (by rfl) ?_ hHeld ?_; focus (intro w hSw; exact lookI_ex rfl hSw T rfl rfl HT0.out HT1.out))
            simp only [Act.put, List.setIfInBounds_toArray, List.set_cons_zero, List.set_cons_succ]
            refine wpAnyH_ready (rs := [2]) (by kernel_rfl) (by simp) ?_
            refine AllReadyH.cons rfl (fun K hK => ?_) AllReadyH.nil
            go_simp
            go_at_call 10
            refine (last10 Q2.out.ob.bk T HT0.out HT1.out).mono ?_
            rintro e v2 ⟨rfl, l2⟩
            have Q3 := hid (Q2.out.below l2)
            clear l2
            go_wp2_with fail
            refine hK.out _ _ Q3.out.mr (fun hHeld => ?_)
            clear hK K
            try simp only [Act.put, List.setIfInBounds_toArray, List.set_cons_zero, List.set_cons_succ]
            (refine tk_yes (v := .bool false) 6 (some 90) rfl rfl (by kernel_rfl) (by kernel_rfl) (by kernel_rfl) (fun _ _ _ h => h) (by rfl) ?_ hHeld ?_; focus (intro w hSw; go_simp))
            simp only [Act.put, List.setIfInBounds_toArray, List.set_cons_zero, List.set_cons_succ]
            refine wpAnyH_done (by kernel_rfl) ?_ _
            refine NoPanic.normal ?_
            go_wp2
            go_roundw
            case rel => exact ⟨k + 1, (upd f T (X + 1)), by omega, by go_num, (LM.out.upd _ _ (by have := HX0.out; omega) (by have := HX1.out; omega)), Q3.out.mono (by omega) (by omega)⟩
            case measure => simp [intOf]; omega
    · have : k = len := by omega
      subst this
      have j2 : ¬ (k : Int) < (k : Int) := by omega
      go_wp2
      go_ret
      exact ⟨rfl, R1.out.ob.old⟩
theorem stanPlays_own : ownKnob Try.prog.godebug = none := by kernel_rfl
theorem stanPlays_laid : laidOutB Try.prog = true := by kernel_rfl

set_option maxRecDepth 100000 in
set_option maxHeartbeats 1000000 in
theorem stanPlays_lifted (os : Os) (started : os.Started) (H : Type) (enc : TypeId × Value → H) :
    ReturnsInHanded {} Try.checked os 3 .any (Rows.stanPlaysSpec.pre6 enc Try.prog Try.f3 Rows.stanPlaysRow.domain false) (Rows.stanPlaysSpec.post enc Try.prog Try.f3 false true false false) := by
  refine returnsInHanded_of_change (C := Try.checked) stanPlays_own started (by kernel_rfl) Try.func3
    (ChangeSpec.witness6 (enc := enc) (C := Try.checked) false ⟨#[], #[.slice none 0 0], []⟩ 8 (by kernel_rfl) (by kernel_rfl) (by kernel_rfl) (by kernel_rfl)) ?_
  intro W base args ds gs before hval0 hW hcnd _
  have hval : ∀ (j : Nat) t v, Try.f3.params[j]? = some t → args[j]? = some v → Value.okWide Try.prog W .any base t v := hval0
  have hW' := hW
  obtain ⟨p, q, hA0, hV, rfl, hfz, hnd⟩ := hW
  have hA : DataW.TrodAll enc Try.prog W 0 (fun _ => true) true Try.f3.params.toList args.toList ds p := hA0
  rw [Try.params3] at hA hval
  obtain ⟨v0, vs0, d0, ds0, p0, q0, hargs, rfl, rfl, h0, r0⟩ := trodAll_cons hA
  obtain ⟨rfl, rfl, rfl⟩ := trodAll_nil r0
  obtain rfl : args = #[v0] := by cases args; simp_all
  obtain ⟨rfl, rfl⟩ := trodVars_none hV
  obtain ⟨x0, y0, z0, rfl⟩ := okWide_slice Try.underlying22 (hval 0 22 v0 rfl rfl)
  have k0 := h0
  have lt0 : ∀ x ∈ p0, x.block < W.heap.size := by obtain ⟨m, hm⟩ := k0; exact DataW.trod_lt m _ _ _ hm
  obtain ⟨a0, len0, cap0, l0, e0, w0⟩ : ∃ a len cap l, Value.slice x0 y0 z0 = .slice a len cap ∧ InA W a len cap l := by
    obtain ⟨fuel, hf⟩ := h0
    exact open_inA hf
  cases e0
  clear hA0 hval0
  refine (plays3 x0 y0 z0 l0 W w0).mono fun e W' ⟨he, bel⟩ => ?_
  subst he
  exact ⟨_, rfl, _, _, _, [], _, [], hW', trodAll_mk1 (shut_bool Try.underlying4 _), (trodAll_cons_mk (Below.trod stanPlays_laid (by kernel_rfl) (of_decide_eq_true (by kernel_rfl)) k0 bel lt0) trodAll_mk0), rfl, bel.frame _, fun h => by cases h⟩

theorem stanPlays_over : Rows.stanPlaysRow.holds Try.pinned (OpenSpec.ofChange Rows.stanPlaysSpec) :=
  OpenClaim.holds_of_wide 3 Try.f3 rfl rfl rfl rfl rfl rfl rfl ⟨rfl, rfl, rfl, rfl, rfl⟩ rfl rfl rfl rfl rfl (by kernel_rfl) Try.func3 (by kernel_rfl)
    (of_decide_eq_true (by kernel_rfl)) (by unfold Func.isWrapper; first | (rw [if_pos (by decide +kernel)]; kernel_rfl) | (rw [if_neg (by decide +kernel)]; exact ⟨rfl, rfl⟩))
    (fun os started H enc _ => stanPlays_lifted os started H enc)

/-- The statement. -/
theorem stanPlays_holds : Rows.StanPlaysSaid := stanPlays_over
#print axioms stanPlays_holds
end Go.Proofs.Ytahkgbhikkebhaa
