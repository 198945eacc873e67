/- WireLong: just how long what is in a frame may be. -/
import Derived.Test.YtecfcfagpciccaaCat
namespace Go.Proofs.Ytecfcfagpciccaa
open Go.ChangeShapes Go.WideShapes Go.ChangeAt Go.RowKit

/-- A byte of a row of the call's own is written. -/
theorem Mk.put {W0 w : World} {ao : Option Addr} {n cap : Nat} {l : List Int} (h : Mk W0 w (.slice ao n cap) n l) (i : Nat) (hi : i < n) : ∃ g, ao = some ⟨g, 0, none⟩ ∧ w.cell? ⟨g, i, none⟩ = some (.int .u8 (l.getD i 0)) ∧ w.frozen? ⟨g, i, none⟩ = false ∧
    ∀ y, Mk W0 (w.setCell ⟨g, i, none⟩ (.int .u8 y)) (.slice ao n cap) n (l.set i y) := by
  have hlen := h.1.len
  have hat := h.1.at
  rcases h.1.2 with ⟨e, h0⟩ | ⟨g, cap', cur, e, hg, hc, h1, h2, h3, h4⟩
  · omega
  · cases e
    refine ⟨g, rfl, ?_, froz_of_head hc i, fun y => ⟨⟨by simp [hlen], .inr ⟨g, cap, cur.setIfInBounds i (.int .u8 y), rfl, hg, heap_setCell_same w g i cur 5 _ hc, h1, h2, by simp [h3], ?_⟩⟩, h.2.setCell hg _⟩⟩
    · rcases hat with h0 | ⟨b, o, he, hcl⟩
      · rw [h0] at hlen; simp at hlen; omega
      · cases he; have := hcl i (by omega); rwa [Nat.zero_add] at this
    · rw [Array.toList_setIfInBounds, List.take_set, h4, by8, by8, List.map_set]
theorem made_zero (m : Nat) : cellsOf (List.replicate m 0) = madeCells #[Value.int .u8 0] m := by
  apply Array.toList_inj.1
  rw [toList_madeCells_one, cells_toList, by8, List.map_replicate]
/-- The first j of k are c. -/
def fill (c : Int) (j k : Nat) : List Int := List.replicate j c ++ List.replicate (k - j) 0
theorem fill_0 (c : Int) (k : Nat) : fill c 0 k = List.replicate k 0 := by simp [fill]
theorem fill_k (c : Int) (k : Nat) : fill c k k = List.replicate k c := by simp [fill]
theorem fill_set (c : Int) (j k : Nat) (h : j < k) : (fill c j k).set j c = fill c (j + 1) k := by
  unfold fill
  rw [List.set_append_right _ _ (by simp), List.length_replicate, Nat.sub_self, show k - j = (k - (j + 1)) + 1 by omega, List.replicate_succ, List.set_cons_zero, List.replicate_succ' (n := j)]
  simp
theorem mk_rep (c : Int) (k : Nat) (h : 0 < k) : mkB (List.replicate k c) = (decide (c = 2) || decide (c = 3)) := by
  obtain ⟨m, rfl⟩ : ∃ m, k = m + 1 := ⟨k - 1, by omega⟩
  rw [mkB, List.any_replicate]; simp
theorem frOk_rep (c : Int) (k : Nat) (h : 0 < k) : frOk (List.replicate k c) = (decide (k ≤ 500) && !(decide (c = 2) || decide (c = 3))) := by
  unfold frOk; rw [mk_rep _ _ h, List.length_replicate]
set_option maxHeartbeats 8000000 in
set_option maxRecDepth 20000 in
theorem long_walk (n c : Int) (W : World) (h0 : 0 ≤ n ∧ n < 256) (h1 : 0 ≤ c ∧ c < 256) :
    Calls Try.prog 6 #[.int .u8 n, .int .u8 c] W fun e w' => e = .returned (.bool true) ∧ Below W.heap.size W w' := by
  have K0 := hid True.intro
  obtain ⟨r, hr⟩ : ∃ r : Nat, n % 5 = (r : Int) := ⟨(n % 5).toNat, by omega⟩
  have hr' : n.tmod 5 = (r : Int) := by rw [Int.tmod_eq_emod_of_nonneg h0.1, hr]
  have r5 : r < 5 := by omega
  obtain ⟨k, hk⟩ : ∃ k : Nat, 498 + r = k := ⟨_, rfl⟩
  have hk1 : (498 : Int) + (r : Int) = (k : Int) := by omega
  have hk2 : 498 ≤ k := by omega
  have hk3 : k ≤ 502 := by omega
  obtain ⟨c0, c1⟩ := h1
  have BY : Hid (Byt (List.replicate k c)) := by intro x hx; have := List.eq_of_mem_replicate hx; omega
  clear hr h0 hk
  have hmk := run_make_row' (P := Try.prog) 22 5 (.int .u8 0) 1 Try.underlying22 Try.info5 rfl .i64 .i64 k (by omega) (by omega)
  rw [← made_zero] at hmk
  go_enter Try.func6, Try.ntmps6
  go_wp2_with (go_at_call 9; have kill := K0.out; refine (known9 _).mono ?_; rintro e w1 ⟨rfl, b1⟩; have B1 := hid b1; clear b1 kill K0)
  have M0 : Hid (Mk w1 (w1.alloc (.cells (cellsOf (List.replicate k 0)) 5)) (.slice (some ⟨w1.heap.size, 0, none⟩) k k) k (List.replicate k 0)) := Mk.new w1 _ k (by simp) (by omega)
  generalize w1.alloc (.cells (cellsOf (List.replicate k 0)) 5) = w2 at *
  generalize w1.heap.size = g at *
  clear hmk hr' r5 hk1
  go_loopw [7] (fun i wr => ∃ (j : Nat), j ≤ k ∧ i = .int .i64 (j : Int) ∧ Mk w1 wr (.slice (some ⟨g, 0, none⟩) k k) k (fill c j k)) (fun i _ => k - (intOf i).toNat)
  case atStart => exact ⟨0, by omega, rfl, by rw [fill_0]; exact M0.out⟩
  case round =>
    obtain ⟨j, hj, rfl, hm⟩ := hrel
    have M := hid hm
    clear hm M0
    by_cases hlt : j < k
    · obtain ⟨g', eg, ce, fr, st⟩ := M.out.put j hlt
      cases eg
      have ST : Hid (∀ w', w' = wr.setCell ⟨g, j, none⟩ (.int .u8 c) → Mk w1 w' (.slice (some ⟨g, 0, none⟩) k k) k (fill c (j + 1) k)) := fun w' e => by rw [e, ← fill_set _ _ _ hlt]; exact st c
      clear st
      go_wp2
      go_roundw
      case rel => exact ⟨j + 1, by omega, by go_num, ST.out _ rfl⟩
      case measure => simp [intOf]; omega
    · obtain rfl : j = k := by omega
      have MM : Hid (Mk w1 wr (.slice (some ⟨g, 0, none⟩) j j) j (List.replicate j c)) := by have := M.out; rwa [fill_k] at this
      clear M hlt
      obtain ⟨Z, hZ⟩ : ∃ Z, List.replicate j c = Z := ⟨_, rfl⟩
      have HF0 := frOk_rep c j (by omega)
      rw [hZ] at MM BY HF0
      have HL : Hid (Z.length = j) := MM.out.1.len.trans rfl
      have G1 : Hid (Given wr (some ⟨g, 0, none⟩) j j Z) := MM.out.given BY.out
      clear hZ
      obtain ⟨F, hF⟩ : ∃ F, frOk Z = F := ⟨_, rfl⟩
      rw [hF] at HF0
      have HF := hid HF0
      have HFF := hid hF
      clear HF0 hF
      go_upto_region 10 with (go_at_call 17; refine (frame17 _ _ _ Z _ G1.out (fun e => by cases e)).mono ?_; rintro e w3 ⟨a3, n3, c3, rfl, m3⟩; rw [HFF.out]; have M3 := hid m3; clear m3)
      have R1 : Hid (RowAt (w3.alloc (.cells #[.int .u8 2] 5)) (some ⟨g, 0, none⟩) Z) := row_mono (sq M3.out.2 (bel1 _ _)) G1.out.row
      have M4 : Hid (Mk w3 (w3.alloc (.cells #[.int .u8 2] 5)) (.slice (some ⟨w3.heap.size, 0, none⟩) 1 1) 1 [2]) := Mk.new w3 [2] 1 rfl (by omega)
      go_upto_region 11 with (first | (at_builtin; have kill := M6.out; refine app_row (l2 := [3]) M6.out.1 R2.out L2.out (fun e => by cases e) M6.out.2.size (by omega) rfl _ _ rfl rfl rfl ?_; intro a5 c5 w5 r5 t5; have M7 := hid (M6.out.next r5 t5); clear r5 t5 kill M6 R2 L2) | (at_builtin; have kill := M4.out; refine app_row (l2 := Z) M4.out.1 R1.out HL.out (fun e => by cases e) M4.out.2.size (by omega) rfl _ _ rfl rfl rfl ?_; intro a4 c4 w4 r4 t4; have M5 := hid (M4.out.next r4 t4); clear r4 t4 kill M4 R1; have M6 : Hid (Mk w3 (w4.alloc (.cells #[.int .u8 3] 5)) (.slice a4 (1 + j) c4) (1 + j) ([2] ++ Z)) := (M5.out.more (bel1 _ _)); clear M5; have R2 := hid (one_row w4 3); have L2 := hid (len1 3)))
      have G5 := hid (G1.out.below (sq M3.out.2 M7.out.2))
      obtain ⟨L, hL⟩ : ∃ L, lrcL Z = L := ⟨_, rfl⟩
      obtain ⟨S, hS⟩ : ∃ S, bits .xor .u8 L 3 = S := ⟨_, rfl⟩
      have HS8 : Hid (0 ≤ S ∧ S < 256) := by unfold Hid; rw [← hS, ← hL]; exact sum_b8 BY.out
      have HLL := hid hL
      clear hL
      have M8 : Hid (Mk w3 (w5.alloc (.cells #[.int .u8 S] 5)) (.slice a5 (1 + j + 1) c5) (1 + j + 1) ([2] ++ Z ++ [3])) := M7.out.more (bel1 _ _)
      have R3 := hid (one_row w5 S)
      have L3 := hid (len1 S)
      go_upto_region 12 with (first | (at_builtin; have kill := M8.out; refine app_row (l2 := [S]) M8.out.1 R3.out L3.out (fun e => by cases e) M8.out.2.size (by omega) rfl _ _ rfl rfl rfl ?_; intro a6 c6 w6 r6 t6; have M9 := hid (M8.out.next r6 t6); clear r6 t6 kill M8 R3 L3) | (go_at_call 15; refine (lrc15 _ _ _ Z _ G5.out).mono ?_; rintro e w9 ⟨rfl, rfl⟩; rw [HLL.out]))
      have BR : Hid (Byt ([2] ++ Z ++ [3] ++ [S])) := byt_app (byt_app (byt_app (by intro x hx; simp at hx; omega) BY.out) (by intro x hx; simp at hx; omega)) (by intro x hx; simp at hx; have := HS8.out; omega)
      have GR := hid (M9.out.given BR.out)
      generalize ([2] ++ Z ++ [3] ++ [S]) = Y at *
      obtain ⟨N9, hN9⟩ : ∃ N9, ufN Y = N9 := ⟨_, rfl⟩
      obtain ⟨B9, hB9⟩ : ∃ B9, ufB Y = B9 := ⟨_, rfl⟩
      obtain ⟨X9, hX9⟩ : ∃ X9, ufX Y = X9 := ⟨_, rfl⟩
      have HN9 := hid hN9
      have HB9 := hid hB9
      have HX9 := hid hX9
      clear hN9 hB9 hX9
      go_upto_region 13 with (go_at_call 19; refine (unf19 _ _ _ Y _ GR.out (by omega)).mono ?_; rintro e w7 ⟨a7, n7, c7, rfl, m7⟩; rw [HN9.out, HB9.out]; rw [HX9.out] at m7; have M10 := hid m7; clear m7)
      have GR2 := hid (GR.out.below M10.out.2)
      go_upto_region 14 with (go_at_call 20; refine (unf20 _ _ _ Y _ GR2.out (by omega)).mono ?_; rintro e w8 ⟨a8, n8, c8, rfl, m8⟩; rw [HN9.out, HB9.out]; rw [HX9.out] at m8; have M11 := hid m8; clear m8)
      have kc1 := run_str w8 a7 X9 n7 c7 M10.out.1.len (row_mono M11.out.2 M10.out.1.at)
      have kc2 := run_str w8 a8 X9 n8 c8 M11.out.1.len M11.out.1.at
      have HLF := M3.out.1.len
      have BB : Hid (Below W.heap.size W w8) := sq (sq (sq (sq (sq B1.out MM.out.2) M3.out.2) M9.out.2) M10.out.2) M11.out.2
      generalize strOfNums X9 = S9 at *
      by_cases k5 : j ≤ 500
      · have d1 : decide ((j : Int) ≤ 500) = true := decide_eq_true (by omega)
        have d1' : decide (j ≤ 500) = true := decide_eq_true k5
        by_cases e2 : c = 2
        · have FF : F = false := by rw [HF.out, decide_eq_true e2]; simp
          subst FF e2
          rw [frX_no HFF.out] at HLF
          obtain rfl : n3 = 0 := HLF.symm
          have e4 : ((0 : Int) == (j : Int) + 3) = false := by simp; omega
          clear HF HFF HLF
          go_wp2
          go_ret
          exact ⟨rfl, BB.out⟩
        · have d2 : (c != 2) = true := by simp [e2]
          by_cases e3 : c = 3
          · have FF : F = false := by rw [HF.out, decide_eq_true e3]; simp
            subst FF e3
            rw [frX_no HFF.out] at HLF
            obtain rfl : n3 = 0 := HLF.symm
            have e4 : ((0 : Int) == (j : Int) + 3) = false := by simp; omega
            clear HF HFF HLF
            go_wp2
            go_ret
            exact ⟨rfl, BB.out⟩
          · have d3 : (c != 3) = true := by simp [e3]
            have FF : F = true := by rw [HF.out, decide_eq_true k5, decide_eq_false e2, decide_eq_false e3]; rfl
            subst FF
            rw [frX_yes HFF.out, fr_len, HL.out] at HLF
            subst HLF
            have e4 : (((j + 3 : Nat) : Int) == (j : Int) + 3) = true := by simp
            clear HF HFF
            go_wp2
            go_ret
            exact ⟨rfl, BB.out⟩
      · have d1 : decide ((j : Int) ≤ 500) = false := decide_eq_false (by omega)
        have d1' : decide (j ≤ 500) = false := decide_eq_false k5
        have FF : F = false := by rw [HF.out, d1']; rfl
        subst FF
        rw [frX_no HFF.out] at HLF
        obtain rfl : n3 = 0 := HLF.symm
        have e4 : ((0 : Int) == (j : Int) + 3) = false := by simp; omega
        clear HF HFF HLF
        go_wp2
        go_ret
        exact ⟨rfl, BB.out⟩
theorem wireLong_own : ownKnob Try.prog.godebug = none := by kernel_rfl
theorem wireLong_laid : laidOutB Try.prog = true := by kernel_rfl

set_option maxRecDepth 100000 in
set_option maxHeartbeats 1000000 in
theorem wireLong_lifted (os : Os) (started : os.Started) (H : Type) (enc : TypeId × Value → H) :
    ReturnsInHanded {} Try.checked os 6 .any (Rows.wireLongSpec.pre6 enc Try.prog Try.f6 Rows.wireLongRow.domain false) (Rows.wireLongSpec.post enc Try.prog Try.f6 false true false false) := by
  refine returnsInHanded_of_change (C := Try.checked) wireLong_own started (by kernel_rfl) Try.func6
    (ChangeSpec.witness6 (enc := enc) (C := Try.checked) false ⟨#[], #[.int .u8 0, .int .u8 0], []⟩ 8 (by kernel_rfl) (by kernel_rfl) (by kernel_rfl) (by kernel_rfl)) ?_
  intro W base args ds gs before hval0 hW hcnd _
  have hval : ∀ (j : Nat) t v, Try.f6.params[j]? = some t → args[j]? = some v → Value.okWide Try.prog W .any base t v := hval0
  have hW' := hW
  obtain ⟨p, q, hA0, hV, rfl, hfz, hnd⟩ := hW
  have hA : DataW.TrodAll enc Try.prog W 0 (fun _ => true) true Try.f6.params.toList args.toList ds p := hA0
  rw [Try.params6] at hA hval
  obtain ⟨v0, vs0, d0, ds0, p0, q0, hargs, rfl, rfl, h0, r0⟩ := trodAll_cons hA
  obtain ⟨v1, vs1, d1, ds1, p1, q1, rfl, rfl, rfl, h1, r1⟩ := trodAll_cons r0
  obtain ⟨rfl, rfl, rfl⟩ := trodAll_nil r1
  obtain rfl : args = #[v0, v1] := by cases args; simp_all
  obtain ⟨rfl, rfl⟩ := trodVars_none hV
  obtain ⟨a0, rfl, rfl, rfl, w0⟩ := open_int Try.underlying5 (hval 0 5 v0 rfl rfl) h0
  obtain ⟨a1, rfl, rfl, rfl, w1⟩ := open_int Try.underlying5 (hval 1 5 v1 rfl rfl) h1
  clear hA0 hval0
  refine (long_walk a0 a1 W (by have := bounds_u8 w0; omega) (by have := bounds_u8 w1; omega)).mono fun e W' ⟨he, bel⟩ => ?_
  subst he
  exact ⟨_, rfl, _, _, _, [], _, [], hW', trodAll_mk1 (shut_bool Try.underlying4 _), (trodAll_cons_mk (shut_int Try.underlying5 w0) (trodAll_cons_mk (shut_int Try.underlying5 w1) trodAll_mk0)), rfl, bel.frame _, fun h => by cases h⟩

theorem wireLong_over : Rows.wireLongRow.holds Try.pinned (OpenSpec.ofChange Rows.wireLongSpec) :=
  OpenClaim.holds_of_wide 6 Try.f6 rfl rfl rfl rfl rfl rfl rfl ⟨rfl, rfl, rfl, rfl, rfl⟩ rfl rfl rfl rfl rfl (by kernel_rfl) Try.func6 (by kernel_rfl)
    (of_decide_eq_true (by kernel_rfl)) (by unfold Func.isWrapper; first | (rw [if_pos (by decide +kernel)]; kernel_rfl) | (rw [if_neg (by decide +kernel)]; exact ⟨rfl, rfl⟩))
    (fun os started H enc _ => wireLong_lifted os started H enc)

/-- The statement. -/
theorem wireLong_holds : Rows.WireLongSaid := wireLong_over
#print axioms wireLong_holds
end Go.Proofs.Ytecfcfagpciccaa
