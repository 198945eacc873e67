/- Messages of numbers: the walk. -/
import Derived.Test.YtfpjjdlfofejcaaMade
namespace Go.Proofs.Ytfpjjdlfofejcaa
open Go.ChangeShapes Go.WideShapes Go.ChangeAt Go.RowKit

theorem wrap_small (x : Int) (h0 : 0 ≤ x) (h1 : x ≤ 1000000) : wrap64 x = x := by have := IntKind.wrap_i64 x; unfold wrap64; omega
theorem wrap_i64_small (x : Int) (h0 : 0 ≤ x) (h1 : x ≤ 1000000) : IntKind.i64.wrap x = x := by rw [IntKind.wrap_i64]; omega
/-- What the appending region's loads read: the field's number, the number that makes its value. -/
def SM (bn t b o : Nat) (X KK : Int) (w' : World) : Prop := w'.cell? ⟨bn, t, none⟩ = some (.int .i64 X) ∧ w'.cell? ⟨b, o + 1, none⟩ = some (.int .u64 KK) ∧ True
theorem MS.sm {w W : World} {mt : Int} {u q : Value} {N b o t : Nat} {X KK : Int} {L : List Fd} (h : MS w mt W u N L q) (ht : t < 18) (hX : ns18.getD t 0 = X) (c1 : w.cell? ⟨b, o + 1, none⟩ = some (.int .u64 KK)) : SM (w.heap.size + 3) t b o X KK W :=
  ⟨(h.n.cell t (by show t < 18; exact ht)).trans (by rw [hX]), (h.d.2.cell (World.block_lt_of_cell? w _ c1)).trans c1, trivial⟩
/-- .. and the storing one's: where the message's fields lie, the text. -/
def SV (w : World) (v : Value) (b o : Nat) (V : ByteArray) (w' : World) : Prop := w'.cell? ⟨w.heap.size + 2, 1, none⟩ = some v ∧ w'.cell? ⟨b, o + 3, none⟩ = some (.string V) ∧ True
theorem MS.sv {w W : World} {mt : Int} {u q : Value} {N b o : Nat} {V : ByteArray} {L : List Fd} (h : MS w mt W u N L q) (c3 : w.cell? ⟨b, o + 3, none⟩ = some (.string V)) : SV w q b o V W :=
  ⟨h.o.facts.2.1, (h.d.2.cell (World.block_lt_of_cell? w _ c3)).trans c3, trivial⟩
theorem MS.cells {w W : World} {mt : Int} {u q : Value} {N : Nat} {L : List Fd} (h : MS w mt W u N L q) : W.cell? ⟨w.heap.size + 2, 0, none⟩ = some (.int .i64 mt) ∧ W.cell? ⟨w.heap.size + 2, 1, none⟩ = some q ∧ W.frozen? ⟨w.heap.size + 2, 1, none⟩ = false :=
  ⟨h.o.facts.1, h.o.facts.2.1, h.o.facts.2.2.2⟩
/-- A value is set: some fields are there. -/
theorem MS.setV {w W : World} {mt : Int} {g c n : Nat} {L : List Fd} (h : MS w mt W (.slice (some ⟨g, 0, none⟩) n c) n L (.slice (some ⟨g, 0, none⟩) n c)) (i : Nat) (hi : i < n) (V : ByteArray) (hV : V.size ≤ 9223372036854775807) :
    ∃ L', MS w mt (W.setCell ⟨g, i * 2 + 1, none⟩ (.string V)) (.slice (some ⟨g, 0, none⟩) n c) n L' (.slice (some ⟨g, 0, none⟩) n c) := by
  obtain ⟨L', hL⟩ := Go.Proofs.Ytfpjjdlfofejcaa.setV h.d.1 i hi V hV
  have hg : w.heap.size ≤ g := by
    rcases h.d.1.1.2 with ⟨e, _⟩ | ⟨g', _, _, e, hB, _⟩
    · cases e
    · cases e; exact hB
  have ho : ∀ b, ¬ (Value.slice (some ⟨g, 0, none⟩) n c).ownBlock = some b → b ≠ g := fun b hb e => hb (by rw [e]; rfl)
  refine ⟨L', ⟨hL, h.d.2.setCell hg _⟩, h.x.keep ?_, h.o.keep ?_, ?_⟩
  · exact Below.heap_setCell _ _ _ _ (ho _ (h.x.other h.d.1))
  · exact Below.heap_setCell _ _ _ _ (ho _ (h.o.other h.d.1))
  · exact (Below.heap_setCell _ _ _ _ (ho _ (h.n.other h.d.1))).trans h.n
theorem own_at {B : Nat} {w : World} {ao : Option Addr} {c n : Nat} {l : List Fd} (h : RowF B w (.slice ao n c) n l) (hn : 0 < n) : ∃ g cur, ao = some ⟨g, 0, none⟩ ∧ w.heap[g]? = some (.cells cur 51 (0, 0)) ∧ n * 2 ≤ cur.size := by
  rcases h.1.2 with ⟨e, h0⟩ | ⟨g, cap, cur, e, hB, hc, h1, h2, h3, h4⟩
  · omega
  · cases e
    exact ⟨g, cur, rfl, hc, by rw [h3]; exact Nat.mul_le_mul_right 2 h1⟩
theorem own_cell {w : World} {g i : Nat} {cur : Array Value} (h : w.heap[g]? = some (.cells cur 51 (0, 0))) (hi : i < cur.size) : (∃ u, w.cell? ⟨g, i, none⟩ = some u) ∧ w.frozen? ⟨g, i, none⟩ = false :=
  ⟨⟨cur[i], by rw [cell_of_head h]; simp [hi]⟩, froz_of_head h i⟩
set_option maxRecDepth 10000 in
set_option maxHeartbeats 40000000 in
theorem made7 (a : Int) (ao : Option Addr) (len cap : Nat) (w : World) (a0 : 0 ≤ a) (_a1 : a < 256) (hI : InC w ao len) (hl : len ≤ 1000) :
    Calls Try.prog 7 #[.int .u8 a, .slice ao len cap] w fun e w' => ∃ mt ao' n c L, e = .returned (.agg #[.int .i64 mt, .slice ao' n c]) ∧ MkF w w' (.slice ao' n c) n L ∧ 100 ≤ mt ∧ mt ≤ 900 := by
  have HI := hid hI
  obtain ⟨j, hj, hj9⟩ : ∃ j : Nat, a % 9 = (j : Int) ∧ j < 9 := ⟨(a % 9).toNat, by omega, by omega⟩
  have hjt : a.tmod 9 = (j : Int) := by rw [Int.tmod_eq_emod_of_nonneg a0, hj]
  have HM9 := hid (ns9_ok j hj9)
  obtain ⟨mt, hmt⟩ : ∃ mt, ns9.getD j 0 = mt := ⟨_, rfl⟩
  rw [hmt] at HM9
  clear hI hj
  go_enter Try.func7, Try.ntmps7
  go_upto_region 2 with (refine bsN ns9 9 (w.heap.size + 1) (by simp) rfl (by omega) (by omega) rfl _ rfl rfl ?_; intro w2 n2 s2 b2; have s2' : w2.heap.size = w.heap.size + 2 := (by omega); clear s2; have c9 := (n2.cell j hj9).trans (by rw [hmt]); have X2 := hid ((VB.new w 0 (.slice none 0 0)).more b2); have B2 := hid (sq (bel1 w _) b2); clear n2 b2)
  have O2 := hid (VB.new w2 mt (.slice none 0 0))
  have hs3 : (w2.alloc (.cells #[.int .i64 mt, .slice none 0 0] 24)).heap.size = w.heap.size + 3 := by rw [World.size_alloc, s2']
  rw [s2'] at O2
  have X3 := hid (X2.out.more (bel1 w2 (.cells #[.int .i64 mt, .slice none 0 0] 24)))
  have B3 := hid (sq B2.out (bel1 w2 (.cells #[.int .i64 mt, .slice none 0 0] 24)))
  generalize w2.alloc (.cells #[.int .i64 mt, .slice none 0 0] 24) = w3 at *
  clear c9 hmt hjt s2'
  go_wp2_with (refine bsN ns18 18 (w.heap.size + 3) hs3 rfl (by omega) (by omega) rfl _ rfl rfl ?_; intro w4 n4 s4 b4; have MS4 := hid (MS.mk ((MkF.nil w).more (sq B3.out b4)) (X3.out.more b4) (O2.out.more b4) n4 : MS w mt w4 (.slice none 0 0) 0 [] (.slice none 0 0)); clear n4 b4)
  clear hs3 s4
  go_loopw [7, 8] (fun tv i wr => ∃ (k n c : Nat) (ao' : Option Addr) (L : List Fd) (t : Nat), k ≤ len ∧ i = .int .i64 (k : Int) ∧ tv = .int .i64 (t : Int) ∧ t ≤ 40 ∧ n ≤ k ∧ MS w mt wr (.slice ao' n c) n L (.slice ao' n c)) (fun _ i _ => len - (intOf i).toNat)
  case atStart => exact ⟨0, 0, 0, none, [], 0, by omega, rfl, rfl, by omega, by omega, MS4.out⟩
  case round =>
    obtain ⟨k, n, c, ao1, L, t, hk, rfl, rfl, ht, hn, hms⟩ := hrel
    have R1 := hid hms
    clear hms MS4
    by_cases hlt : k < len
    · by_cases ht8 : t < 18
      · have j1 : (t : Int) < 18 := by omega
        obtain ⟨N, KK, G, V, b, o, ⟨N0, N1⟩, ⟨K0, K1⟩, ⟨G0, G1⟩, hV, rfl, e0, e1, e2, e3⟩ := HI.out k hlt
        have c0 := (R1.out.d.2.cell (World.block_lt_of_cell? w _ e0)).trans e0
        have C1 := hid e1
        have C2 := hid e2
        have C3 := hid e3
        have HV := hid hV
        clear e0 e1 e2 e3 hV
        obtain ⟨y, hy, hy4⟩ : ∃ y : Nat, N % 4 = (y : Int) ∧ y < 4 := ⟨(N % 4).toNat, by omega, by omega⟩
        obtain ⟨s, hs⟩ : ∃ s, t + y = s := ⟨_, rfl⟩
        have hs40 : s ≤ 43 := by omega
        have HTY : Hid ((t : Int) + (y : Int) = (s : Int)) := by unfold Hid; omega
        have HYT : Hid (N.tmod 4 = (y : Int)) := by unfold Hid; rw [Int.tmod_eq_emod_of_nonneg N0, hy]
        clear hy hs
        by_cases ht18 : s < 18
        · have j3 : decide ((18 : Int) ≤ (s : Int)) = false := decide_eq_false (by omega)
          have j4 : (s : Int) < 18 := by omega
          have hx := R1.out.n.cell s ht18
          have hX2 := ns18_ok s ht18
          obtain ⟨X, hX⟩ : ∃ X, ns18.getD s 0 = X := ⟨_, rfl⟩
          rw [hX] at hx hX2
          have hof := fun w => of7' X w
          have HL0 := f_len0 X
          have HF := (f_any X).1
          have HFV := (f_any X).2.1
          generalize fD X = D at *
          obtain ⟨l0, hl0⟩ : ∃ l0, fL X = l0 := ⟨_, rfl⟩
          obtain ⟨v0, hv0⟩ : ∃ v0, fV X = v0 := ⟨_, rfl⟩
          rw [hl0, hv0] at HL0 hof
          rw [hl0] at HF
          rw [hl0, hv0] at HFV
          clear hl0 hv0
          generalize fK X = KX at *
          by_cases hv : v0 = 0
          · subst hv
            have HL := HL0 rfl
            clear HL0 HFV HF
            have hty := HTY.out
            have hyt := HYT.out
            go_upto_region 13 with (go_at_call 10; refine (hof _).mono ?_; rintro e w3 ⟨rfl, l3⟩; have R3 := hid (R1.out.more (sq l3 (bel1 w3 (.cells #[.bool D, .int .i64 (l0 : Int), .int .i64 0] 35)))); obtain ⟨q0, q1, q2⟩ := FB.new w3 D (l0 : Int) 0 35; clear l3)
            clear c0 hx q0 q1 q2 hty hyt
            obtain ⟨w4, hw4⟩ : ∃ w4, w4 = w3.alloc (.cells #[.bool D, .int .i64 (l0 : Int), .int .i64 0] 35) := ⟨_, rfl⟩
            rw [← hw4] at R3 ⊢
            clear hw4
            have RD := hid (R3.out.more (Below.refl _ w4).drew)
            have SD := hid (RD.out.sm ht18 hX C1.out)
            obtain ⟨_, q1, _⟩ := RD.out.cells
            refine wp_region_noPanic ?_
            refine wp_region_held_drew (S := SM (w.heap.size + 3) s b (o + k * 4) X KK) (by kernel_rfl) SD.out (fun hHeld => ?_)
            (refine tk_yes (v := ?_) 0 (some 68) rfl rfl (by kernel_rfl) (by kernel_rfl) (by kernel_rfl) (fun _ _ _ h => h) (by rfl) ?_ hHeld ?_; rotate_left; focus (intro w9 hSw; obtain ⟨s1, s2, s3⟩ := id hSw; go_simp; try with_reducible rfl))
            try simp only [Act.put, List.setIfInBounds_toArray, List.set_cons_zero, List.set_cons_succ]
            (refine tk_yes (v := ?_) 2 (some 70) rfl rfl (by kernel_rfl) (by kernel_rfl) (by kernel_rfl) (fun _ _ _ h => h) (by rfl) ?_ hHeld ?_; rotate_left; focus (intro w9 hSw; obtain ⟨s1, s2, s3⟩ := id hSw; go_simp; try with_reducible rfl))
            try simp only [Act.put, List.setIfInBounds_toArray, List.set_cons_zero, List.set_cons_succ]
            (refine tk_yes (v := ?_) 3 (some 71) rfl rfl (by kernel_rfl) (by kernel_rfl) (by kernel_rfl) (fun _ _ _ h => h) (by rfl) ?_ hHeld ?_; rotate_left; focus (intro w9 hSw; obtain ⟨s1, s2, s3⟩ := id hSw; go_simp; try with_reducible rfl))
            try simp only [Act.put, List.setIfInBounds_toArray, List.set_cons_zero, List.set_cons_succ]
            (refine tk_yes (v := .pointer (some ⟨w.heap.size + 3, s, none⟩)) 4 (some 72) rfl rfl (by kernel_rfl) (by kernel_rfl) (by kernel_rfl) (fun _ _ _ h => h) (by rfl) ?_ hHeld ?_; focus (intro w9 hSw; obtain ⟨s1, s2, s3⟩ := id hSw; go_simp))
            try simp only [Act.put, List.setIfInBounds_toArray, List.set_cons_zero, List.set_cons_succ]
            (refine tk_yes (v := ?_) 6 (some 74) rfl rfl (by kernel_rfl) (by kernel_rfl) (by kernel_rfl) (fun _ _ _ h => h) (by rfl) ?_ hHeld ?_; rotate_left; focus (intro w9 hSw; obtain ⟨s1, s2, s3⟩ := id hSw; go_simp; try with_reducible rfl))
            try simp only [Act.put, List.setIfInBounds_toArray, List.set_cons_zero, List.set_cons_succ]
            (refine tk_yes (v := ?_) 7 (some 75) rfl rfl (by kernel_rfl) (by kernel_rfl) (by kernel_rfl) (fun _ _ _ h => h) (by rfl) ?_ hHeld ?_; rotate_left; focus (intro w9 hSw; obtain ⟨s1, s2, s3⟩ := id hSw; go_simp; try with_reducible rfl))
            try simp only [Act.put, List.setIfInBounds_toArray, List.set_cons_zero, List.set_cons_succ]
            (refine tk_yes (v := .pointer (some ⟨b, o + k * 4, none⟩)) 8 (some 76) rfl rfl (by kernel_rfl) (by kernel_rfl) (by kernel_rfl) (fun _ _ _ h => h) (by rfl) ?_ hHeld ?_; focus (intro w9 hSw; obtain ⟨s1, s2, s3⟩ := id hSw; go_simp))
            try simp only [Act.put, List.setIfInBounds_toArray, List.set_cons_zero, List.set_cons_succ]
            (refine tk_yes (v := ?_) 9 (some 77) rfl rfl (by kernel_rfl) (by kernel_rfl) (by kernel_rfl) (fun _ _ _ h => h) (by rfl) ?_ hHeld ?_; rotate_left; focus (intro w9 hSw; obtain ⟨s1, s2, s3⟩ := id hSw; go_simp; try with_reducible rfl))
            try simp only [Act.put, List.setIfInBounds_toArray, List.set_cons_zero, List.set_cons_succ]
            (refine tk_yes (v := ?_) 11 (some 79) rfl rfl (by kernel_rfl) (by kernel_rfl) (by kernel_rfl) (fun _ _ _ h => h) (by rfl) ?_ hHeld ?_; rotate_left; focus (intro w9 hSw; obtain ⟨s1, s2, s3⟩ := id hSw; go_simp; try with_reducible rfl))
            try simp only [Act.put, List.setIfInBounds_toArray, List.set_cons_zero, List.set_cons_succ]
            (refine tk_yes (v := .int .i64 X) 5 (some 73) rfl rfl (by kernel_rfl) (by kernel_rfl) (by kernel_rfl) (fun _ _ _ h => h) (by rfl) ?_ hHeld ?_; focus (intro w9 hSw; obtain ⟨s1, s2, s3⟩ := id hSw; go_simp))
            try simp only [Act.put, List.setIfInBounds_toArray, List.set_cons_zero, List.set_cons_succ]
            (refine tk_yes (v := .int .u64 KK) 10 (some 78) rfl rfl (by kernel_rfl) (by kernel_rfl) (by kernel_rfl) (fun _ _ _ h => h) (by rfl) ?_ hHeld ?_; focus (intro w9 hSw; obtain ⟨s1, s2, s3⟩ := id hSw; go_simp))
            try simp only [Act.put, List.setIfInBounds_toArray, List.set_cons_zero, List.set_cons_succ]
            refine wpAnyH_ready (rs := [1, 12]) (by kernel_rfl) (by simp) ?_
            refine AllReadyH.cons rfl (fun K hK => ?_) (AllReadyH.cons rfl (fun K hK => ?_) AllReadyH.nil)
            · go_simp
              refine hK.out _ _ hHeld (fun hHeld => ?_)
              clear hK K
              try simp only [Act.put, List.setIfInBounds_toArray, List.set_cons_zero, List.set_cons_succ]
              refine wpAnyH_ready (rs := [12]) (by kernel_rfl) (by simp) ?_
              refine AllReadyH.cons rfl (fun K hK => ?_) AllReadyH.nil
              go_simp
              go_at_call 11
              refine (digits11 KK l0 _ K0 K1 (by omega)).mono ?_
              rintro e w5 ⟨T, rfl, hT, _, rfl⟩
              have HT : Hid ((⟨X, T⟩ : Fd).ok) := ⟨by show -9223372036854775808 ≤ X; omega, by show X ≤ 9223372036854775807; omega, by show T.size ≤ _; omega⟩
              clear hT
              go_simp
              refine hK.out _ _ hHeld (fun hHeld => ?_)
              clear hK K
              try simp only [Act.put, List.setIfInBounds_toArray, List.set_cons_zero, List.set_cons_succ]
              (refine tk_yes (v := .agg #[.int .i64 X, .string T]) 13 (some 81) rfl rfl (by kernel_rfl) (by kernel_rfl) (by kernel_rfl) (fun _ _ _ h => h) (by rfl) ?_ hHeld ?_; focus (intro w9 hSw; obtain ⟨s1, s2, s3⟩ := id hSw; go_simp))
              try simp only [Act.put, List.setIfInBounds_toArray, List.set_cons_zero, List.set_cons_succ]
              refine wpAnyH_ready (rs := [14]) (by kernel_rfl) (by simp) ?_
              refine AllReadyH.cons rfl (fun K hK => ?_) AllReadyH.nil
              refine bsF_step HT.out rfl _ rfl rfl ?_
              intro ag wg gg lg
              have GG := hid gg
              have RG := hid (RD.out.more lg)
              clear gg lg q1
              have SG := hid (RG.out.sm ht18 hX C1.out)
              refine hK.out _ _ SG.out (fun hHeld => ?_)
              clear hK K
              try simp only [Act.put, List.setIfInBounds_toArray]
              refine wpAnyH_ready (rs := [15]) (by kernel_rfl) (by simp) ?_
              refine AllReadyH.cons (o := { dst := some 83, op := _, type := _, pos := _, after := _, guard := none }) rfl (fun K hK => ?_) AllReadyH.nil
              refine app_fld_step RG.out.d GG.out rfl (by omega) rfl _ _ rfl rfl rfl ?_
              intro ao8 cap8 w8 d8 t8
              have R8 := hid (RG.out.turned d8 t8)
              clear d8 t8 RG
              have S8 := hid (R8.out.sm ht18 hX C1.out)
              refine hK.out _ _ S8.out (fun hHeld => ?_)
              clear hK K
              try simp only [Act.put]
              (refine tk_yes (v := ?_) 16 (some 84) rfl rfl (by kernel_rfl) (by kernel_rfl) (by kernel_rfl) (fun _ _ _ h => h) (by rfl) ?_ hHeld ?_; rotate_left; focus (intro w9 hSw; obtain ⟨s1, s2, s3⟩ := id hSw; go_simp; try with_reducible rfl))
              try simp only [Act.put]
              refine wpAnyH_ready (rs := [17]) (by kernel_rfl) (by simp) ?_
              refine AllReadyH.cons rfl (fun K hK => ?_) AllReadyH.nil
              obtain ⟨p0, p1, p2⟩ := R8.out.cells
              go_simp
              have RF := hid R8.out.store
              have SF := hid (RF.out.sm ht18 hX C1.out)
              clear p0 p1 p2 R8
              obtain ⟨wf, hwf⟩ : ∃ wf, wf = w8.setCell ⟨w.heap.size + 2, 1, none⟩ (.slice ao8 (n + 1) cap8) := ⟨_, rfl⟩
              rw [← hwf] at RF SF ⊢
              clear hwf
              refine hK.out _ _ SF.out (fun hHeld => ?_)
              clear hK K
              try simp only [Act.put, List.setIfInBounds_toArray, List.set_cons_zero, List.set_cons_succ]
              refine wpAnyH_done (by kernel_rfl) ?_ _
              refine NoPanic.normal ?_
              by_cases hG : G % 16 = 15
              · have hG' : G.tmod 16 = 15 := by rw [Int.tmod_eq_emod_of_nonneg G0, hG]
                have c2 := (RF.out.d.2.cell (World.block_lt_of_cell? w _ C2.out)).trans C2.out
                clear hG
                go_wp2
                clear c2 hG'
                have RV := hid (RF.out.more (Below.refl _ wf).drew)
                obtain ⟨g, cur, e8, hg8, hs8⟩ := own_at RV.out.d.1 (by omega)
                cases e8
                obtain ⟨⟨u8, k8⟩, f8⟩ := own_cell (i := n * 2 + 1) hg8 (by omega)
                have SDV := hid (RV.out.sv C3.out)
                have HM1 : Hid (IntKind.i64.wrap (n : Int) = (n : Int)) := wrap_i64_small _ (by omega) (by omega)
                have hn1 : (n : Int) < ((n + 1 : Nat) : Int) := by omega
                have hn2 : (n : Int) < (n : Int) + 1 := by omega
                clear hg8 hs8
                refine wp_region_noPanic ?_
                refine wp_region_held_drew (S := SV w (.slice (some ⟨g, 0, none⟩) (n + 1) cap8) b (o + k * 4) V) (by kernel_rfl) SDV.out (fun hHeld => ?_)
                (refine tk_yes (v := ?_) 0 (some 92) rfl rfl (by kernel_rfl) (by kernel_rfl) (by kernel_rfl) (fun _ _ _ h => h) (by rfl) ?_ hHeld ?_; rotate_left; focus (intro w9 hSw; obtain ⟨s1, s2, s3⟩ := id hSw; go_simp; try with_reducible rfl))
                try simp only [Act.put, List.setIfInBounds_toArray, List.set_cons_zero, List.set_cons_succ]
                (refine tk_yes (v := ?_) 2 (some 94) rfl rfl (by kernel_rfl) (by kernel_rfl) (by kernel_rfl) (fun _ _ _ h => h) (by rfl) ?_ hHeld ?_; rotate_left; focus (intro w9 hSw; obtain ⟨s1, s2, s3⟩ := id hSw; go_simp; try with_reducible rfl))
                try simp only [Act.put, List.setIfInBounds_toArray, List.set_cons_zero, List.set_cons_succ]
                (refine tk_yes (v := ?_) 6 (some 98) rfl rfl (by kernel_rfl) (by kernel_rfl) (by kernel_rfl) (fun _ _ _ h => h) (by rfl) ?_ hHeld ?_; rotate_left; focus (intro w9 hSw; obtain ⟨s1, s2, s3⟩ := id hSw; go_simp; try with_reducible rfl))
                try simp only [Act.put, List.setIfInBounds_toArray, List.set_cons_zero, List.set_cons_succ]
                (refine tk_yes (v := ?_) 7 (some 99) rfl rfl (by kernel_rfl) (by kernel_rfl) (by kernel_rfl) (fun _ _ _ h => h) (by rfl) ?_ hHeld ?_; rotate_left; focus (intro w9 hSw; obtain ⟨s1, s2, s3⟩ := id hSw; go_simp; try with_reducible rfl))
                try simp only [Act.put, List.setIfInBounds_toArray, List.set_cons_zero, List.set_cons_succ]
                (refine tk_yes (v := .pointer (some ⟨b, o + k * 4, none⟩)) 8 (some 100) rfl rfl (by kernel_rfl) (by kernel_rfl) (by kernel_rfl) (fun _ _ _ h => h) (by rfl) ?_ hHeld ?_; focus (intro w9 hSw; obtain ⟨s1, s2, s3⟩ := id hSw; go_simp))
                try simp only [Act.put, List.setIfInBounds_toArray, List.set_cons_zero, List.set_cons_succ]
                (refine tk_yes (v := ?_) 9 (some 101) rfl rfl (by kernel_rfl) (by kernel_rfl) (by kernel_rfl) (fun _ _ _ h => h) (by rfl) ?_ hHeld ?_; rotate_left; focus (intro w9 hSw; obtain ⟨s1, s2, s3⟩ := id hSw; go_simp; try with_reducible rfl))
                try simp only [Act.put, List.setIfInBounds_toArray, List.set_cons_zero, List.set_cons_succ]
                (refine tk_yes (v := .slice (some ⟨g, 0, none⟩) (n + 1) cap8) 1 (some 93) rfl rfl (by kernel_rfl) (by kernel_rfl) (by kernel_rfl) (fun _ _ _ h => h) (by rfl) ?_ hHeld ?_; focus (intro w9 hSw; obtain ⟨s1, s2, s3⟩ := id hSw; go_simp))
                try simp only [Act.put, List.setIfInBounds_toArray, List.set_cons_zero, List.set_cons_succ]
                (refine tk_yes (v := .slice (some ⟨g, 0, none⟩) (n + 1) cap8) 3 (some 95) rfl rfl (by kernel_rfl) (by kernel_rfl) (by kernel_rfl) (fun _ _ _ h => h) (by rfl) ?_ hHeld ?_; focus (intro w9 hSw; obtain ⟨s1, s2, s3⟩ := id hSw; go_simp))
                try simp only [Act.put, List.setIfInBounds_toArray, List.set_cons_zero, List.set_cons_succ]
                (refine tk_yes (v := .int .i64 ((n : Int) + 1)) 4 (some 96) rfl rfl (by kernel_rfl) (by kernel_rfl) (by kernel_rfl) (fun _ _ _ h => h) (by rfl) ?_ hHeld ?_; focus (intro w9 hSw; obtain ⟨s1, s2, s3⟩ := id hSw; go_simp))
                try simp only [Act.put, List.setIfInBounds_toArray, List.set_cons_zero, List.set_cons_succ]
                have hm1 := HM1.out
                (refine tk_yes (v := .int .i64 (n : Int)) 5 (some 97) rfl rfl (by kernel_rfl) (by kernel_rfl) (by kernel_rfl) (fun _ _ _ h => h) (by rfl) ?_ hHeld ?_; focus (intro w9 hSw; obtain ⟨s1, s2, s3⟩ := id hSw; go_simp))
                try simp only [Act.put, List.setIfInBounds_toArray, List.set_cons_zero, List.set_cons_succ]
                clear hm1
                (refine tk_yes (v := .string V) 10 (some 102) rfl rfl (by kernel_rfl) (by kernel_rfl) (by kernel_rfl) (fun _ _ _ h => h) (by rfl) ?_ hHeld ?_; focus (intro w9 hSw; obtain ⟨s1, s2, s3⟩ := id hSw; go_simp))
                try simp only [Act.put, List.setIfInBounds_toArray, List.set_cons_zero, List.set_cons_succ]
                (refine tk_yes (v := .pointer (some ⟨g, n * 2, none⟩)) 11 (some 103) rfl rfl (by kernel_rfl) (by kernel_rfl) (by kernel_rfl) (fun _ _ _ h => h) (by rfl) ?_ hHeld ?_; focus (intro w9 hSw; obtain ⟨s1, s2, s3⟩ := id hSw; go_simp))
                try simp only [Act.put, List.setIfInBounds_toArray, List.set_cons_zero, List.set_cons_succ]
                (refine tk_yes (v := .pointer (some ⟨g, n * 2 + 1, none⟩)) 12 (some 104) rfl rfl (by kernel_rfl) (by kernel_rfl) (by kernel_rfl) (fun _ _ _ h => h) (by rfl) ?_ hHeld ?_; focus (intro w9 hSw; obtain ⟨s1, s2, s3⟩ := id hSw; go_simp))
                try simp only [Act.put, List.setIfInBounds_toArray, List.set_cons_zero, List.set_cons_succ]
                refine wpAnyH_ready (rs := [13]) (by kernel_rfl) (by simp) ?_
                refine AllReadyH.cons rfl (fun K hK => ?_) AllReadyH.nil
                go_simp
                obtain ⟨L9, hL9⟩ := RV.out.setV n (by omega) V HV.out
                rw [show wf.drew.setCell ⟨g, n * 2 + 1, none⟩ (.string V) = (wf.setCell ⟨g, n * 2 + 1, none⟩ (.string V)).drew from rfl] at hL9
                have R9 := hid hL9
                have S9 := hid (R9.out.sv C3.out)
                clear hL9 RV k8 f8
                obtain ⟨w9, hw9⟩ : ∃ w9, w9 = (wf.setCell ⟨g, n * 2 + 1, none⟩ (.string V)).drew := ⟨_, rfl⟩
                rw [← hw9] at R9 S9 ⊢
                clear hw9
                refine hK.out _ _ S9.out (fun hHeld => ?_)
                clear hK K
                try simp only [Act.put, List.setIfInBounds_toArray, List.set_cons_zero, List.set_cons_succ]
                refine wpAnyH_done (by kernel_rfl) ?_ _
                refine NoPanic.normal ?_
                go_wp2
                go_roundw
                case rel => exact ⟨k + 1, n + 1, _, _, _, s + 1, by omega, by go_num, by go_num, by omega, by omega, R9.out⟩
                case measure => simp [intOf]; omega
              · obtain ⟨z, hz⟩ : ∃ z, G % 16 = z := ⟨_, rfl⟩
                have hG' : G.tmod 16 = z := by rw [Int.tmod_eq_emod_of_nonneg G0, hz]
                have hz' : ¬ z = 15 := by rw [← hz]; exact hG
                have c2 := (RF.out.d.2.cell (World.block_lt_of_cell? w _ C2.out)).trans C2.out
                clear hG hz
                go_wp2
                clear hG'
                go_roundw
                case rel => exact ⟨k + 1, n + 1, _, _, _, s + 1, by omega, by go_num, by go_num, by omega, by omega, RF.out⟩
                case measure => simp [intOf]; omega
            · go_simp
              go_at_call 11
              refine (digits11 KK l0 _ K0 K1 (by omega)).mono ?_
              rintro e w5 ⟨T, rfl, hT, _, rfl⟩
              have HT : Hid ((⟨X, T⟩ : Fd).ok) := ⟨by show -9223372036854775808 ≤ X; omega, by show X ≤ 9223372036854775807; omega, by show T.size ≤ _; omega⟩
              clear hT
              go_simp
              refine hK.out _ _ hHeld (fun hHeld => ?_)
              clear hK K
              try simp only [Act.put, List.setIfInBounds_toArray, List.set_cons_zero, List.set_cons_succ]
              (refine tk_yes (v := .agg #[.int .i64 X, .string T]) 13 (some 81) rfl rfl (by kernel_rfl) (by kernel_rfl) (by kernel_rfl) (fun _ _ _ h => h) (by rfl) ?_ hHeld ?_; focus (intro w9 hSw; obtain ⟨s1, s2, s3⟩ := id hSw; go_simp))
              try simp only [Act.put, List.setIfInBounds_toArray, List.set_cons_zero, List.set_cons_succ]
              refine wpAnyH_ready (rs := [1, 14]) (by kernel_rfl) (by simp) ?_
              refine AllReadyH.cons rfl (fun K hK => ?_) (AllReadyH.cons rfl (fun K hK => ?_) AllReadyH.nil)
              · go_simp
                refine hK.out _ _ hHeld (fun hHeld => ?_)
                clear hK K
                try simp only [Act.put, List.setIfInBounds_toArray, List.set_cons_zero, List.set_cons_succ]
                refine wpAnyH_ready (rs := [14]) (by kernel_rfl) (by simp) ?_
                refine AllReadyH.cons rfl (fun K hK => ?_) AllReadyH.nil
                refine bsF_step HT.out rfl _ rfl rfl ?_
                intro ag wg gg lg
                have GG := hid gg
                have RG := hid (RD.out.more lg)
                clear gg lg q1
                have SG := hid (RG.out.sm ht18 hX C1.out)
                refine hK.out _ _ SG.out (fun hHeld => ?_)
                clear hK K
                try simp only [Act.put, List.setIfInBounds_toArray]
                refine wpAnyH_ready (rs := [15]) (by kernel_rfl) (by simp) ?_
                refine AllReadyH.cons (o := { dst := some 83, op := _, type := _, pos := _, after := _, guard := none }) rfl (fun K hK => ?_) AllReadyH.nil
                refine app_fld_step RG.out.d GG.out rfl (by omega) rfl _ _ rfl rfl rfl ?_
                intro ao8 cap8 w8 d8 t8
                have R8 := hid (RG.out.turned d8 t8)
                clear d8 t8 RG
                have S8 := hid (R8.out.sm ht18 hX C1.out)
                refine hK.out _ _ S8.out (fun hHeld => ?_)
                clear hK K
                try simp only [Act.put]
                (refine tk_yes (v := ?_) 16 (some 84) rfl rfl (by kernel_rfl) (by kernel_rfl) (by kernel_rfl) (fun _ _ _ h => h) (by rfl) ?_ hHeld ?_; rotate_left; focus (intro w9 hSw; obtain ⟨s1, s2, s3⟩ := id hSw; go_simp; try with_reducible rfl))
                try simp only [Act.put]
                refine wpAnyH_ready (rs := [17]) (by kernel_rfl) (by simp) ?_
                refine AllReadyH.cons rfl (fun K hK => ?_) AllReadyH.nil
                obtain ⟨p0, p1, p2⟩ := R8.out.cells
                go_simp
                have RF := hid R8.out.store
                have SF := hid (RF.out.sm ht18 hX C1.out)
                clear p0 p1 p2 R8
                obtain ⟨wf, hwf⟩ : ∃ wf, wf = w8.setCell ⟨w.heap.size + 2, 1, none⟩ (.slice ao8 (n + 1) cap8) := ⟨_, rfl⟩
                rw [← hwf] at RF SF ⊢
                clear hwf
                refine hK.out _ _ SF.out (fun hHeld => ?_)
                clear hK K
                try simp only [Act.put, List.setIfInBounds_toArray, List.set_cons_zero, List.set_cons_succ]
                refine wpAnyH_done (by kernel_rfl) ?_ _
                refine NoPanic.normal ?_
                by_cases hG : G % 16 = 15
                · have hG' : G.tmod 16 = 15 := by rw [Int.tmod_eq_emod_of_nonneg G0, hG]
                  have c2 := (RF.out.d.2.cell (World.block_lt_of_cell? w _ C2.out)).trans C2.out
                  clear hG
                  go_wp2
                  clear c2 hG'
                  have RV := hid (RF.out.more (Below.refl _ wf).drew)
                  obtain ⟨g, cur, e8, hg8, hs8⟩ := own_at RV.out.d.1 (by omega)
                  cases e8
                  obtain ⟨⟨u8, k8⟩, f8⟩ := own_cell (i := n * 2 + 1) hg8 (by omega)
                  have SDV := hid (RV.out.sv C3.out)
                  have HM1 : Hid (IntKind.i64.wrap (n : Int) = (n : Int)) := wrap_i64_small _ (by omega) (by omega)
                  have hn1 : (n : Int) < ((n + 1 : Nat) : Int) := by omega
                  have hn2 : (n : Int) < (n : Int) + 1 := by omega
                  clear hg8 hs8
                  refine wp_region_noPanic ?_
                  refine wp_region_held_drew (S := SV w (.slice (some ⟨g, 0, none⟩) (n + 1) cap8) b (o + k * 4) V) (by kernel_rfl) SDV.out (fun hHeld => ?_)
                  (refine tk_yes (v := ?_) 0 (some 92) rfl rfl (by kernel_rfl) (by kernel_rfl) (by kernel_rfl) (fun _ _ _ h => h) (by rfl) ?_ hHeld ?_; rotate_left; focus (intro w9 hSw; obtain ⟨s1, s2, s3⟩ := id hSw; go_simp; try with_reducible rfl))
                  try simp only [Act.put, List.setIfInBounds_toArray, List.set_cons_zero, List.set_cons_succ]
                  (refine tk_yes (v := ?_) 2 (some 94) rfl rfl (by kernel_rfl) (by kernel_rfl) (by kernel_rfl) (fun _ _ _ h => h) (by rfl) ?_ hHeld ?_; rotate_left; focus (intro w9 hSw; obtain ⟨s1, s2, s3⟩ := id hSw; go_simp; try with_reducible rfl))
                  try simp only [Act.put, List.setIfInBounds_toArray, List.set_cons_zero, List.set_cons_succ]
                  (refine tk_yes (v := ?_) 6 (some 98) rfl rfl (by kernel_rfl) (by kernel_rfl) (by kernel_rfl) (fun _ _ _ h => h) (by rfl) ?_ hHeld ?_; rotate_left; focus (intro w9 hSw; obtain ⟨s1, s2, s3⟩ := id hSw; go_simp; try with_reducible rfl))
                  try simp only [Act.put, List.setIfInBounds_toArray, List.set_cons_zero, List.set_cons_succ]
                  (refine tk_yes (v := ?_) 7 (some 99) rfl rfl (by kernel_rfl) (by kernel_rfl) (by kernel_rfl) (fun _ _ _ h => h) (by rfl) ?_ hHeld ?_; rotate_left; focus (intro w9 hSw; obtain ⟨s1, s2, s3⟩ := id hSw; go_simp; try with_reducible rfl))
                  try simp only [Act.put, List.setIfInBounds_toArray, List.set_cons_zero, List.set_cons_succ]
                  (refine tk_yes (v := .pointer (some ⟨b, o + k * 4, none⟩)) 8 (some 100) rfl rfl (by kernel_rfl) (by kernel_rfl) (by kernel_rfl) (fun _ _ _ h => h) (by rfl) ?_ hHeld ?_; focus (intro w9 hSw; obtain ⟨s1, s2, s3⟩ := id hSw; go_simp))
                  try simp only [Act.put, List.setIfInBounds_toArray, List.set_cons_zero, List.set_cons_succ]
                  (refine tk_yes (v := ?_) 9 (some 101) rfl rfl (by kernel_rfl) (by kernel_rfl) (by kernel_rfl) (fun _ _ _ h => h) (by rfl) ?_ hHeld ?_; rotate_left; focus (intro w9 hSw; obtain ⟨s1, s2, s3⟩ := id hSw; go_simp; try with_reducible rfl))
                  try simp only [Act.put, List.setIfInBounds_toArray, List.set_cons_zero, List.set_cons_succ]
                  (refine tk_yes (v := .slice (some ⟨g, 0, none⟩) (n + 1) cap8) 1 (some 93) rfl rfl (by kernel_rfl) (by kernel_rfl) (by kernel_rfl) (fun _ _ _ h => h) (by rfl) ?_ hHeld ?_; focus (intro w9 hSw; obtain ⟨s1, s2, s3⟩ := id hSw; go_simp))
                  try simp only [Act.put, List.setIfInBounds_toArray, List.set_cons_zero, List.set_cons_succ]
                  (refine tk_yes (v := .slice (some ⟨g, 0, none⟩) (n + 1) cap8) 3 (some 95) rfl rfl (by kernel_rfl) (by kernel_rfl) (by kernel_rfl) (fun _ _ _ h => h) (by rfl) ?_ hHeld ?_; focus (intro w9 hSw; obtain ⟨s1, s2, s3⟩ := id hSw; go_simp))
                  try simp only [Act.put, List.setIfInBounds_toArray, List.set_cons_zero, List.set_cons_succ]
                  (refine tk_yes (v := .int .i64 ((n : Int) + 1)) 4 (some 96) rfl rfl (by kernel_rfl) (by kernel_rfl) (by kernel_rfl) (fun _ _ _ h => h) (by rfl) ?_ hHeld ?_; focus (intro w9 hSw; obtain ⟨s1, s2, s3⟩ := id hSw; go_simp))
                  try simp only [Act.put, List.setIfInBounds_toArray, List.set_cons_zero, List.set_cons_succ]
                  have hm1 := HM1.out
                  (refine tk_yes (v := .int .i64 (n : Int)) 5 (some 97) rfl rfl (by kernel_rfl) (by kernel_rfl) (by kernel_rfl) (fun _ _ _ h => h) (by rfl) ?_ hHeld ?_; focus (intro w9 hSw; obtain ⟨s1, s2, s3⟩ := id hSw; go_simp))
                  try simp only [Act.put, List.setIfInBounds_toArray, List.set_cons_zero, List.set_cons_succ]
                  clear hm1
                  (refine tk_yes (v := .string V) 10 (some 102) rfl rfl (by kernel_rfl) (by kernel_rfl) (by kernel_rfl) (fun _ _ _ h => h) (by rfl) ?_ hHeld ?_; focus (intro w9 hSw; obtain ⟨s1, s2, s3⟩ := id hSw; go_simp))
                  try simp only [Act.put, List.setIfInBounds_toArray, List.set_cons_zero, List.set_cons_succ]
                  (refine tk_yes (v := .pointer (some ⟨g, n * 2, none⟩)) 11 (some 103) rfl rfl (by kernel_rfl) (by kernel_rfl) (by kernel_rfl) (fun _ _ _ h => h) (by rfl) ?_ hHeld ?_; focus (intro w9 hSw; obtain ⟨s1, s2, s3⟩ := id hSw; go_simp))
                  try simp only [Act.put, List.setIfInBounds_toArray, List.set_cons_zero, List.set_cons_succ]
                  (refine tk_yes (v := .pointer (some ⟨g, n * 2 + 1, none⟩)) 12 (some 104) rfl rfl (by kernel_rfl) (by kernel_rfl) (by kernel_rfl) (fun _ _ _ h => h) (by rfl) ?_ hHeld ?_; focus (intro w9 hSw; obtain ⟨s1, s2, s3⟩ := id hSw; go_simp))
                  try simp only [Act.put, List.setIfInBounds_toArray, List.set_cons_zero, List.set_cons_succ]
                  refine wpAnyH_ready (rs := [13]) (by kernel_rfl) (by simp) ?_
                  refine AllReadyH.cons rfl (fun K hK => ?_) AllReadyH.nil
                  go_simp
                  obtain ⟨L9, hL9⟩ := RV.out.setV n (by omega) V HV.out
                  rw [show wf.drew.setCell ⟨g, n * 2 + 1, none⟩ (.string V) = (wf.setCell ⟨g, n * 2 + 1, none⟩ (.string V)).drew from rfl] at hL9
                  have R9 := hid hL9
                  have S9 := hid (R9.out.sv C3.out)
                  clear hL9 RV k8 f8
                  obtain ⟨w9, hw9⟩ : ∃ w9, w9 = (wf.setCell ⟨g, n * 2 + 1, none⟩ (.string V)).drew := ⟨_, rfl⟩
                  rw [← hw9] at R9 S9 ⊢
                  clear hw9
                  refine hK.out _ _ S9.out (fun hHeld => ?_)
                  clear hK K
                  try simp only [Act.put, List.setIfInBounds_toArray, List.set_cons_zero, List.set_cons_succ]
                  refine wpAnyH_done (by kernel_rfl) ?_ _
                  refine NoPanic.normal ?_
                  go_wp2
                  go_roundw
                  case rel => exact ⟨k + 1, n + 1, _, _, _, s + 1, by omega, by go_num, by go_num, by omega, by omega, R9.out⟩
                  case measure => simp [intOf]; omega
                · obtain ⟨z, hz⟩ : ∃ z, G % 16 = z := ⟨_, rfl⟩
                  have hG' : G.tmod 16 = z := by rw [Int.tmod_eq_emod_of_nonneg G0, hz]
                  have hz' : ¬ z = 15 := by rw [← hz]; exact hG
                  have c2 := (RF.out.d.2.cell (World.block_lt_of_cell? w _ C2.out)).trans C2.out
                  clear hG hz
                  go_wp2
                  clear hG'
                  go_roundw
                  case rel => exact ⟨k + 1, n + 1, _, _, _, s + 1, by omega, by go_num, by go_num, by omega, by omega, RF.out⟩
                  case measure => simp [intOf]; omega
              · refine bsF_step HT.out rfl _ rfl rfl ?_
                intro ag wg gg lg
                have GG := hid gg
                have RG := hid (RD.out.more lg)
                clear gg lg q1
                have SG := hid (RG.out.sm ht18 hX C1.out)
                refine hK.out _ _ SG.out (fun hHeld => ?_)
                clear hK K
                try simp only [Act.put, List.setIfInBounds_toArray]
                obtain ⟨_, q1, _⟩ := RG.out.cells
                refine wpAnyH_ready (rs := [1]) (by kernel_rfl) (by simp) ?_
                refine AllReadyH.cons rfl (fun K hK => ?_) AllReadyH.nil
                go_simp
                refine hK.out _ _ hHeld (fun hHeld => ?_)
                clear hK K
                try simp only [Act.put, List.setIfInBounds_toArray, List.set_cons_zero, List.set_cons_succ]
                clear q1
                refine wpAnyH_ready (rs := [15]) (by kernel_rfl) (by simp) ?_
                refine AllReadyH.cons (o := { dst := some 83, op := _, type := _, pos := _, after := _, guard := none }) rfl (fun K hK => ?_) AllReadyH.nil
                refine app_fld_step RG.out.d GG.out rfl (by omega) rfl _ _ rfl rfl rfl ?_
                intro ao8 cap8 w8 d8 t8
                have R8 := hid (RG.out.turned d8 t8)
                clear d8 t8 RG
                have S8 := hid (R8.out.sm ht18 hX C1.out)
                refine hK.out _ _ S8.out (fun hHeld => ?_)
                clear hK K
                try simp only [Act.put, List.setIfInBounds_toArray, List.set_cons_zero, List.set_cons_succ]
                (refine tk_yes (v := ?_) 16 (some 84) rfl rfl (by kernel_rfl) (by kernel_rfl) (by kernel_rfl) (fun _ _ _ h => h) (by rfl) ?_ hHeld ?_; rotate_left; focus (intro w9 hSw; obtain ⟨s1, s2, s3⟩ := id hSw; go_simp; try with_reducible rfl))
                try simp only [Act.put, List.setIfInBounds_toArray, List.set_cons_zero, List.set_cons_succ]
                refine wpAnyH_ready (rs := [17]) (by kernel_rfl) (by simp) ?_
                refine AllReadyH.cons rfl (fun K hK => ?_) AllReadyH.nil
                obtain ⟨p0, p1, p2⟩ := R8.out.cells
                go_simp
                have RF := hid R8.out.store
                have SF := hid (RF.out.sm ht18 hX C1.out)
                clear p0 p1 p2 R8
                obtain ⟨wf, hwf⟩ : ∃ wf, wf = w8.setCell ⟨w.heap.size + 2, 1, none⟩ (.slice ao8 (n + 1) cap8) := ⟨_, rfl⟩
                rw [← hwf] at RF SF ⊢
                clear hwf
                refine hK.out _ _ SF.out (fun hHeld => ?_)
                clear hK K
                try simp only [Act.put, List.setIfInBounds_toArray, List.set_cons_zero, List.set_cons_succ]
                refine wpAnyH_done (by kernel_rfl) ?_ _
                refine NoPanic.normal ?_
                by_cases hG : G % 16 = 15
                · have hG' : G.tmod 16 = 15 := by rw [Int.tmod_eq_emod_of_nonneg G0, hG]
                  have c2 := (RF.out.d.2.cell (World.block_lt_of_cell? w _ C2.out)).trans C2.out
                  clear hG
                  go_wp2
                  clear c2 hG'
                  have RV := hid (RF.out.more (Below.refl _ wf).drew)
                  obtain ⟨g, cur, e8, hg8, hs8⟩ := own_at RV.out.d.1 (by omega)
                  cases e8
                  obtain ⟨⟨u8, k8⟩, f8⟩ := own_cell (i := n * 2 + 1) hg8 (by omega)
                  have SDV := hid (RV.out.sv C3.out)
                  have HM1 : Hid (IntKind.i64.wrap (n : Int) = (n : Int)) := wrap_i64_small _ (by omega) (by omega)
                  have hn1 : (n : Int) < ((n + 1 : Nat) : Int) := by omega
                  have hn2 : (n : Int) < (n : Int) + 1 := by omega
                  clear hg8 hs8
                  refine wp_region_noPanic ?_
                  refine wp_region_held_drew (S := SV w (.slice (some ⟨g, 0, none⟩) (n + 1) cap8) b (o + k * 4) V) (by kernel_rfl) SDV.out (fun hHeld => ?_)
                  (refine tk_yes (v := ?_) 0 (some 92) rfl rfl (by kernel_rfl) (by kernel_rfl) (by kernel_rfl) (fun _ _ _ h => h) (by rfl) ?_ hHeld ?_; rotate_left; focus (intro w9 hSw; obtain ⟨s1, s2, s3⟩ := id hSw; go_simp; try with_reducible rfl))
                  try simp only [Act.put, List.setIfInBounds_toArray, List.set_cons_zero, List.set_cons_succ]
                  (refine tk_yes (v := ?_) 2 (some 94) rfl rfl (by kernel_rfl) (by kernel_rfl) (by kernel_rfl) (fun _ _ _ h => h) (by rfl) ?_ hHeld ?_; rotate_left; focus (intro w9 hSw; obtain ⟨s1, s2, s3⟩ := id hSw; go_simp; try with_reducible rfl))
                  try simp only [Act.put, List.setIfInBounds_toArray, List.set_cons_zero, List.set_cons_succ]
                  (refine tk_yes (v := ?_) 6 (some 98) rfl rfl (by kernel_rfl) (by kernel_rfl) (by kernel_rfl) (fun _ _ _ h => h) (by rfl) ?_ hHeld ?_; rotate_left; focus (intro w9 hSw; obtain ⟨s1, s2, s3⟩ := id hSw; go_simp; try with_reducible rfl))
                  try simp only [Act.put, List.setIfInBounds_toArray, List.set_cons_zero, List.set_cons_succ]
                  (refine tk_yes (v := ?_) 7 (some 99) rfl rfl (by kernel_rfl) (by kernel_rfl) (by kernel_rfl) (fun _ _ _ h => h) (by rfl) ?_ hHeld ?_; rotate_left; focus (intro w9 hSw; obtain ⟨s1, s2, s3⟩ := id hSw; go_simp; try with_reducible rfl))
                  try simp only [Act.put, List.setIfInBounds_toArray, List.set_cons_zero, List.set_cons_succ]
                  (refine tk_yes (v := .pointer (some ⟨b, o + k * 4, none⟩)) 8 (some 100) rfl rfl (by kernel_rfl) (by kernel_rfl) (by kernel_rfl) (fun _ _ _ h => h) (by rfl) ?_ hHeld ?_; focus (intro w9 hSw; obtain ⟨s1, s2, s3⟩ := id hSw; go_simp))
                  try simp only [Act.put, List.setIfInBounds_toArray, List.set_cons_zero, List.set_cons_succ]
                  (refine tk_yes (v := ?_) 9 (some 101) rfl rfl (by kernel_rfl) (by kernel_rfl) (by kernel_rfl) (fun _ _ _ h => h) (by rfl) ?_ hHeld ?_; rotate_left; focus (intro w9 hSw; obtain ⟨s1, s2, s3⟩ := id hSw; go_simp; try with_reducible rfl))
                  try simp only [Act.put, List.setIfInBounds_toArray, List.set_cons_zero, List.set_cons_succ]
                  (refine tk_yes (v := .slice (some ⟨g, 0, none⟩) (n + 1) cap8) 1 (some 93) rfl rfl (by kernel_rfl) (by kernel_rfl) (by kernel_rfl) (fun _ _ _ h => h) (by rfl) ?_ hHeld ?_; focus (intro w9 hSw; obtain ⟨s1, s2, s3⟩ := id hSw; go_simp))
                  try simp only [Act.put, List.setIfInBounds_toArray, List.set_cons_zero, List.set_cons_succ]
                  (refine tk_yes (v := .slice (some ⟨g, 0, none⟩) (n + 1) cap8) 3 (some 95) rfl rfl (by kernel_rfl) (by kernel_rfl) (by kernel_rfl) (fun _ _ _ h => h) (by rfl) ?_ hHeld ?_; focus (intro w9 hSw; obtain ⟨s1, s2, s3⟩ := id hSw; go_simp))
                  try simp only [Act.put, List.setIfInBounds_toArray, List.set_cons_zero, List.set_cons_succ]
                  (refine tk_yes (v := .int .i64 ((n : Int) + 1)) 4 (some 96) rfl rfl (by kernel_rfl) (by kernel_rfl) (by kernel_rfl) (fun _ _ _ h => h) (by rfl) ?_ hHeld ?_; focus (intro w9 hSw; obtain ⟨s1, s2, s3⟩ := id hSw; go_simp))
                  try simp only [Act.put, List.setIfInBounds_toArray, List.set_cons_zero, List.set_cons_succ]
                  have hm1 := HM1.out
                  (refine tk_yes (v := .int .i64 (n : Int)) 5 (some 97) rfl rfl (by kernel_rfl) (by kernel_rfl) (by kernel_rfl) (fun _ _ _ h => h) (by rfl) ?_ hHeld ?_; focus (intro w9 hSw; obtain ⟨s1, s2, s3⟩ := id hSw; go_simp))
                  try simp only [Act.put, List.setIfInBounds_toArray, List.set_cons_zero, List.set_cons_succ]
                  clear hm1
                  (refine tk_yes (v := .string V) 10 (some 102) rfl rfl (by kernel_rfl) (by kernel_rfl) (by kernel_rfl) (fun _ _ _ h => h) (by rfl) ?_ hHeld ?_; focus (intro w9 hSw; obtain ⟨s1, s2, s3⟩ := id hSw; go_simp))
                  try simp only [Act.put, List.setIfInBounds_toArray, List.set_cons_zero, List.set_cons_succ]
                  (refine tk_yes (v := .pointer (some ⟨g, n * 2, none⟩)) 11 (some 103) rfl rfl (by kernel_rfl) (by kernel_rfl) (by kernel_rfl) (fun _ _ _ h => h) (by rfl) ?_ hHeld ?_; focus (intro w9 hSw; obtain ⟨s1, s2, s3⟩ := id hSw; go_simp))
                  try simp only [Act.put, List.setIfInBounds_toArray, List.set_cons_zero, List.set_cons_succ]
                  (refine tk_yes (v := .pointer (some ⟨g, n * 2 + 1, none⟩)) 12 (some 104) rfl rfl (by kernel_rfl) (by kernel_rfl) (by kernel_rfl) (fun _ _ _ h => h) (by rfl) ?_ hHeld ?_; focus (intro w9 hSw; obtain ⟨s1, s2, s3⟩ := id hSw; go_simp))
                  try simp only [Act.put, List.setIfInBounds_toArray, List.set_cons_zero, List.set_cons_succ]
                  refine wpAnyH_ready (rs := [13]) (by kernel_rfl) (by simp) ?_
                  refine AllReadyH.cons rfl (fun K hK => ?_) AllReadyH.nil
                  go_simp
                  obtain ⟨L9, hL9⟩ := RV.out.setV n (by omega) V HV.out
                  rw [show wf.drew.setCell ⟨g, n * 2 + 1, none⟩ (.string V) = (wf.setCell ⟨g, n * 2 + 1, none⟩ (.string V)).drew from rfl] at hL9
                  have R9 := hid hL9
                  have S9 := hid (R9.out.sv C3.out)
                  clear hL9 RV k8 f8
                  obtain ⟨w9, hw9⟩ : ∃ w9, w9 = (wf.setCell ⟨g, n * 2 + 1, none⟩ (.string V)).drew := ⟨_, rfl⟩
                  rw [← hw9] at R9 S9 ⊢
                  clear hw9
                  refine hK.out _ _ S9.out (fun hHeld => ?_)
                  clear hK K
                  try simp only [Act.put, List.setIfInBounds_toArray, List.set_cons_zero, List.set_cons_succ]
                  refine wpAnyH_done (by kernel_rfl) ?_ _
                  refine NoPanic.normal ?_
                  go_wp2
                  go_roundw
                  case rel => exact ⟨k + 1, n + 1, _, _, _, s + 1, by omega, by go_num, by go_num, by omega, by omega, R9.out⟩
                  case measure => simp [intOf]; omega
                · obtain ⟨z, hz⟩ : ∃ z, G % 16 = z := ⟨_, rfl⟩
                  have hG' : G.tmod 16 = z := by rw [Int.tmod_eq_emod_of_nonneg G0, hz]
                  have hz' : ¬ z = 15 := by rw [← hz]; exact hG
                  have c2 := (RF.out.d.2.cell (World.block_lt_of_cell? w _ C2.out)).trans C2.out
                  clear hG hz
                  go_wp2
                  clear hG'
                  go_roundw
                  case rel => exact ⟨k + 1, n + 1, _, _, _, s + 1, by omega, by go_num, by go_num, by omega, by omega, RF.out⟩
                  case measure => simp [intOf]; omega
          · have hj5 : (0 : Int) < (v0 : Int) := by omega
            obtain ⟨z1, hz1, hz60⟩ : ∃ z1 : Nat, wrap64 ((G % if (60 : Int) < (l0 : Int) then 60 else (l0 : Int)) + 1) = (z1 : Int) ∧ z1 ≤ 60 := by
              obtain ⟨m0, hm, hm1, hm60⟩ : ∃ m0 : Int, (if (60 : Int) < (l0 : Int) then 60 else (l0 : Int)) = m0 ∧ 1 ≤ m0 ∧ m0 ≤ 60 := ⟨_, rfl, by split <;> omega, by split <;> omega⟩
              rw [hm]
              have h1 := Int.emod_nonneg G (show m0 ≠ 0 by omega)
              have h2 := Int.emod_lt_of_pos G (show 0 < m0 by omega)
              generalize G % m0 = q at *
              rw [wrap_small _ (by omega) (by omega)]
              exact ⟨(q + 1).toNat, by omega, by omega⟩
            have HZ1 := hid hz1
            have HZW : Hid (IntKind.i64.wrap G = G) := by unfold Hid; rw [IntKind.wrap_i64]; omega
            have hl1 : 1 ≤ l0 := by omega
            have hdz : ¬ (if (60 : Int) < (l0 : Int) then (60 : Int) else (l0 : Int)) = 0 := by split <;> omega
            clear hz1 HL0 HF HFV
            have hty := HTY.out
            have hyt := HYT.out
            go_upto_region 12 with (go_at_call 10; refine (hof _).mono ?_; rintro e w3 ⟨rfl, l3⟩; have R3 := hid (R1.out.more (sq l3 (bel1 w3 (.cells #[.bool D, .int .i64 (l0 : Int), .int .i64 (v0 : Int)] 35)))); obtain ⟨q0, q1, q2⟩ := FB.new w3 D (l0 : Int) (v0 : Int) 35; clear l3)
            clear c0 hx hty hyt
            obtain ⟨w4, hw4⟩ : ∃ w4, w4 = w3.alloc (.cells #[.bool D, .int .i64 (l0 : Int), .int .i64 (v0 : Int)] 35) := ⟨_, rfl⟩
            rw [← hw4] at R3 q0 q1 q2 ⊢
            clear hw4
            have c2 := (R3.out.d.2.cell (World.block_lt_of_cell? w _ C2.out)).trans C2.out
            have hki : (k : Int) < (len : Int) := by omega
            have hzw := HZW.out
            have R4 := hid (fun nq => R3.out.more (bel_drewN (Below.refl _ w4) nq))
            go_quiet (fail)
            clear c2 hzw q0 q1 q2 hdz
            rw [HZ1.out]
            generalize (if (60 : Int) < (l0 : Int) then (60 : Int) else (l0 : Int)) = m9
            have R5 := hid (R4.out nq)
            generalize w4.drewN nq = w6 at *

            go_upto_region 13 with (fail)
            have RD := hid (R5.out.more (Below.refl _ w6).drew)
            have SD := hid (RD.out.sm ht18 hX C1.out)
            obtain ⟨_, q1, _⟩ := RD.out.cells
            refine wp_region_noPanic ?_
            refine wp_region_held_drew (S := SM (w.heap.size + 3) s b (o + k * 4) X KK) (by kernel_rfl) SD.out (fun hHeld => ?_)
            (refine tk_yes (v := ?_) 0 (some 68) rfl rfl (by kernel_rfl) (by kernel_rfl) (by kernel_rfl) (fun _ _ _ h => h) (by rfl) ?_ hHeld ?_; rotate_left; focus (intro w9 hSw; obtain ⟨s1, s2, s3⟩ := id hSw; go_simp; try with_reducible rfl))
            try simp only [Act.put, List.setIfInBounds_toArray, List.set_cons_zero, List.set_cons_succ]
            (refine tk_yes (v := ?_) 2 (some 70) rfl rfl (by kernel_rfl) (by kernel_rfl) (by kernel_rfl) (fun _ _ _ h => h) (by rfl) ?_ hHeld ?_; rotate_left; focus (intro w9 hSw; obtain ⟨s1, s2, s3⟩ := id hSw; go_simp; try with_reducible rfl))
            try simp only [Act.put, List.setIfInBounds_toArray, List.set_cons_zero, List.set_cons_succ]
            (refine tk_yes (v := ?_) 3 (some 71) rfl rfl (by kernel_rfl) (by kernel_rfl) (by kernel_rfl) (fun _ _ _ h => h) (by rfl) ?_ hHeld ?_; rotate_left; focus (intro w9 hSw; obtain ⟨s1, s2, s3⟩ := id hSw; go_simp; try with_reducible rfl))
            try simp only [Act.put, List.setIfInBounds_toArray, List.set_cons_zero, List.set_cons_succ]
            (refine tk_yes (v := .pointer (some ⟨w.heap.size + 3, s, none⟩)) 4 (some 72) rfl rfl (by kernel_rfl) (by kernel_rfl) (by kernel_rfl) (fun _ _ _ h => h) (by rfl) ?_ hHeld ?_; focus (intro w9 hSw; obtain ⟨s1, s2, s3⟩ := id hSw; go_simp))
            try simp only [Act.put, List.setIfInBounds_toArray, List.set_cons_zero, List.set_cons_succ]
            (refine tk_yes (v := ?_) 6 (some 74) rfl rfl (by kernel_rfl) (by kernel_rfl) (by kernel_rfl) (fun _ _ _ h => h) (by rfl) ?_ hHeld ?_; rotate_left; focus (intro w9 hSw; obtain ⟨s1, s2, s3⟩ := id hSw; go_simp; try with_reducible rfl))
            try simp only [Act.put, List.setIfInBounds_toArray, List.set_cons_zero, List.set_cons_succ]
            (refine tk_yes (v := ?_) 7 (some 75) rfl rfl (by kernel_rfl) (by kernel_rfl) (by kernel_rfl) (fun _ _ _ h => h) (by rfl) ?_ hHeld ?_; rotate_left; focus (intro w9 hSw; obtain ⟨s1, s2, s3⟩ := id hSw; go_simp; try with_reducible rfl))
            try simp only [Act.put, List.setIfInBounds_toArray, List.set_cons_zero, List.set_cons_succ]
            (refine tk_yes (v := .pointer (some ⟨b, o + k * 4, none⟩)) 8 (some 76) rfl rfl (by kernel_rfl) (by kernel_rfl) (by kernel_rfl) (fun _ _ _ h => h) (by rfl) ?_ hHeld ?_; focus (intro w9 hSw; obtain ⟨s1, s2, s3⟩ := id hSw; go_simp))
            try simp only [Act.put, List.setIfInBounds_toArray, List.set_cons_zero, List.set_cons_succ]
            (refine tk_yes (v := ?_) 9 (some 77) rfl rfl (by kernel_rfl) (by kernel_rfl) (by kernel_rfl) (fun _ _ _ h => h) (by rfl) ?_ hHeld ?_; rotate_left; focus (intro w9 hSw; obtain ⟨s1, s2, s3⟩ := id hSw; go_simp; try with_reducible rfl))
            try simp only [Act.put, List.setIfInBounds_toArray, List.set_cons_zero, List.set_cons_succ]
            (refine tk_yes (v := ?_) 11 (some 79) rfl rfl (by kernel_rfl) (by kernel_rfl) (by kernel_rfl) (fun _ _ _ h => h) (by rfl) ?_ hHeld ?_; rotate_left; focus (intro w9 hSw; obtain ⟨s1, s2, s3⟩ := id hSw; go_simp; try with_reducible rfl))
            try simp only [Act.put, List.setIfInBounds_toArray, List.set_cons_zero, List.set_cons_succ]
            (refine tk_yes (v := .int .i64 X) 5 (some 73) rfl rfl (by kernel_rfl) (by kernel_rfl) (by kernel_rfl) (fun _ _ _ h => h) (by rfl) ?_ hHeld ?_; focus (intro w9 hSw; obtain ⟨s1, s2, s3⟩ := id hSw; go_simp))
            try simp only [Act.put, List.setIfInBounds_toArray, List.set_cons_zero, List.set_cons_succ]
            (refine tk_yes (v := .int .u64 KK) 10 (some 78) rfl rfl (by kernel_rfl) (by kernel_rfl) (by kernel_rfl) (fun _ _ _ h => h) (by rfl) ?_ hHeld ?_; focus (intro w9 hSw; obtain ⟨s1, s2, s3⟩ := id hSw; go_simp))
            try simp only [Act.put, List.setIfInBounds_toArray, List.set_cons_zero, List.set_cons_succ]
            refine wpAnyH_ready (rs := [1, 12]) (by kernel_rfl) (by simp) ?_
            refine AllReadyH.cons rfl (fun K hK => ?_) (AllReadyH.cons rfl (fun K hK => ?_) AllReadyH.nil)
            · go_simp
              refine hK.out _ _ hHeld (fun hHeld => ?_)
              clear hK K
              try simp only [Act.put, List.setIfInBounds_toArray, List.set_cons_zero, List.set_cons_succ]
              refine wpAnyH_ready (rs := [12]) (by kernel_rfl) (by simp) ?_
              refine AllReadyH.cons rfl (fun K hK => ?_) AllReadyH.nil
              go_simp
              go_at_call 11
              refine (digits11 KK z1 _ K0 K1 (by omega)).mono ?_
              rintro e w5 ⟨T, rfl, hT, _, rfl⟩
              have HT : Hid ((⟨X, T⟩ : Fd).ok) := ⟨by show -9223372036854775808 ≤ X; omega, by show X ≤ 9223372036854775807; omega, by show T.size ≤ _; omega⟩
              clear hT
              go_simp
              refine hK.out _ _ hHeld (fun hHeld => ?_)
              clear hK K
              try simp only [Act.put, List.setIfInBounds_toArray, List.set_cons_zero, List.set_cons_succ]
              (refine tk_yes (v := .agg #[.int .i64 X, .string T]) 13 (some 81) rfl rfl (by kernel_rfl) (by kernel_rfl) (by kernel_rfl) (fun _ _ _ h => h) (by rfl) ?_ hHeld ?_; focus (intro w9 hSw; obtain ⟨s1, s2, s3⟩ := id hSw; go_simp))
              try simp only [Act.put, List.setIfInBounds_toArray, List.set_cons_zero, List.set_cons_succ]
              refine wpAnyH_ready (rs := [14]) (by kernel_rfl) (by simp) ?_
              refine AllReadyH.cons rfl (fun K hK => ?_) AllReadyH.nil
              refine bsF_step HT.out rfl _ rfl rfl ?_
              intro ag wg gg lg
              have GG := hid gg
              have RG := hid (RD.out.more lg)
              clear gg lg q1
              have SG := hid (RG.out.sm ht18 hX C1.out)
              refine hK.out _ _ SG.out (fun hHeld => ?_)
              clear hK K
              try simp only [Act.put, List.setIfInBounds_toArray]
              refine wpAnyH_ready (rs := [15]) (by kernel_rfl) (by simp) ?_
              refine AllReadyH.cons (o := { dst := some 83, op := _, type := _, pos := _, after := _, guard := none }) rfl (fun K hK => ?_) AllReadyH.nil
              refine app_fld_step RG.out.d GG.out rfl (by omega) rfl _ _ rfl rfl rfl ?_
              intro ao8 cap8 w8 d8 t8
              have R8 := hid (RG.out.turned d8 t8)
              clear d8 t8 RG
              have S8 := hid (R8.out.sm ht18 hX C1.out)
              refine hK.out _ _ S8.out (fun hHeld => ?_)
              clear hK K
              try simp only [Act.put]
              (refine tk_yes (v := ?_) 16 (some 84) rfl rfl (by kernel_rfl) (by kernel_rfl) (by kernel_rfl) (fun _ _ _ h => h) (by rfl) ?_ hHeld ?_; rotate_left; focus (intro w9 hSw; obtain ⟨s1, s2, s3⟩ := id hSw; go_simp; try with_reducible rfl))
              try simp only [Act.put]
              refine wpAnyH_ready (rs := [17]) (by kernel_rfl) (by simp) ?_
              refine AllReadyH.cons rfl (fun K hK => ?_) AllReadyH.nil
              obtain ⟨p0, p1, p2⟩ := R8.out.cells
              go_simp
              have RF := hid R8.out.store
              have SF := hid (RF.out.sm ht18 hX C1.out)
              clear p0 p1 p2 R8
              obtain ⟨wf, hwf⟩ : ∃ wf, wf = w8.setCell ⟨w.heap.size + 2, 1, none⟩ (.slice ao8 (n + 1) cap8) := ⟨_, rfl⟩
              rw [← hwf] at RF SF ⊢
              clear hwf
              refine hK.out _ _ SF.out (fun hHeld => ?_)
              clear hK K
              try simp only [Act.put, List.setIfInBounds_toArray, List.set_cons_zero, List.set_cons_succ]
              refine wpAnyH_done (by kernel_rfl) ?_ _
              refine NoPanic.normal ?_
              by_cases hG : G % 16 = 15
              · have hG' : G.tmod 16 = 15 := by rw [Int.tmod_eq_emod_of_nonneg G0, hG]
                have c2 := (RF.out.d.2.cell (World.block_lt_of_cell? w _ C2.out)).trans C2.out
                clear hG
                go_wp2
                clear c2 hG'
                have RV := hid (RF.out.more (Below.refl _ wf).drew)
                obtain ⟨g, cur, e8, hg8, hs8⟩ := own_at RV.out.d.1 (by omega)
                cases e8
                obtain ⟨⟨u8, k8⟩, f8⟩ := own_cell (i := n * 2 + 1) hg8 (by omega)
                have SDV := hid (RV.out.sv C3.out)
                have HM1 : Hid (IntKind.i64.wrap (n : Int) = (n : Int)) := wrap_i64_small _ (by omega) (by omega)
                have hn1 : (n : Int) < ((n + 1 : Nat) : Int) := by omega
                have hn2 : (n : Int) < (n : Int) + 1 := by omega
                clear hg8 hs8
                refine wp_region_noPanic ?_
                refine wp_region_held_drew (S := SV w (.slice (some ⟨g, 0, none⟩) (n + 1) cap8) b (o + k * 4) V) (by kernel_rfl) SDV.out (fun hHeld => ?_)
                (refine tk_yes (v := ?_) 0 (some 92) rfl rfl (by kernel_rfl) (by kernel_rfl) (by kernel_rfl) (fun _ _ _ h => h) (by rfl) ?_ hHeld ?_; rotate_left; focus (intro w9 hSw; obtain ⟨s1, s2, s3⟩ := id hSw; go_simp; try with_reducible rfl))
                try simp only [Act.put, List.setIfInBounds_toArray, List.set_cons_zero, List.set_cons_succ]
                (refine tk_yes (v := ?_) 2 (some 94) rfl rfl (by kernel_rfl) (by kernel_rfl) (by kernel_rfl) (fun _ _ _ h => h) (by rfl) ?_ hHeld ?_; rotate_left; focus (intro w9 hSw; obtain ⟨s1, s2, s3⟩ := id hSw; go_simp; try with_reducible rfl))
                try simp only [Act.put, List.setIfInBounds_toArray, List.set_cons_zero, List.set_cons_succ]
                (refine tk_yes (v := ?_) 6 (some 98) rfl rfl (by kernel_rfl) (by kernel_rfl) (by kernel_rfl) (fun _ _ _ h => h) (by rfl) ?_ hHeld ?_; rotate_left; focus (intro w9 hSw; obtain ⟨s1, s2, s3⟩ := id hSw; go_simp; try with_reducible rfl))
                try simp only [Act.put, List.setIfInBounds_toArray, List.set_cons_zero, List.set_cons_succ]
                (refine tk_yes (v := ?_) 7 (some 99) rfl rfl (by kernel_rfl) (by kernel_rfl) (by kernel_rfl) (fun _ _ _ h => h) (by rfl) ?_ hHeld ?_; rotate_left; focus (intro w9 hSw; obtain ⟨s1, s2, s3⟩ := id hSw; go_simp; try with_reducible rfl))
                try simp only [Act.put, List.setIfInBounds_toArray, List.set_cons_zero, List.set_cons_succ]
                (refine tk_yes (v := .pointer (some ⟨b, o + k * 4, none⟩)) 8 (some 100) rfl rfl (by kernel_rfl) (by kernel_rfl) (by kernel_rfl) (fun _ _ _ h => h) (by rfl) ?_ hHeld ?_; focus (intro w9 hSw; obtain ⟨s1, s2, s3⟩ := id hSw; go_simp))
                try simp only [Act.put, List.setIfInBounds_toArray, List.set_cons_zero, List.set_cons_succ]
                (refine tk_yes (v := ?_) 9 (some 101) rfl rfl (by kernel_rfl) (by kernel_rfl) (by kernel_rfl) (fun _ _ _ h => h) (by rfl) ?_ hHeld ?_; rotate_left; focus (intro w9 hSw; obtain ⟨s1, s2, s3⟩ := id hSw; go_simp; try with_reducible rfl))
                try simp only [Act.put, List.setIfInBounds_toArray, List.set_cons_zero, List.set_cons_succ]
                (refine tk_yes (v := .slice (some ⟨g, 0, none⟩) (n + 1) cap8) 1 (some 93) rfl rfl (by kernel_rfl) (by kernel_rfl) (by kernel_rfl) (fun _ _ _ h => h) (by rfl) ?_ hHeld ?_; focus (intro w9 hSw; obtain ⟨s1, s2, s3⟩ := id hSw; go_simp))
                try simp only [Act.put, List.setIfInBounds_toArray, List.set_cons_zero, List.set_cons_succ]
                (refine tk_yes (v := .slice (some ⟨g, 0, none⟩) (n + 1) cap8) 3 (some 95) rfl rfl (by kernel_rfl) (by kernel_rfl) (by kernel_rfl) (fun _ _ _ h => h) (by rfl) ?_ hHeld ?_; focus (intro w9 hSw; obtain ⟨s1, s2, s3⟩ := id hSw; go_simp))
                try simp only [Act.put, List.setIfInBounds_toArray, List.set_cons_zero, List.set_cons_succ]
                (refine tk_yes (v := .int .i64 ((n : Int) + 1)) 4 (some 96) rfl rfl (by kernel_rfl) (by kernel_rfl) (by kernel_rfl) (fun _ _ _ h => h) (by rfl) ?_ hHeld ?_; focus (intro w9 hSw; obtain ⟨s1, s2, s3⟩ := id hSw; go_simp))
                try simp only [Act.put, List.setIfInBounds_toArray, List.set_cons_zero, List.set_cons_succ]
                have hm1 := HM1.out
                (refine tk_yes (v := .int .i64 (n : Int)) 5 (some 97) rfl rfl (by kernel_rfl) (by kernel_rfl) (by kernel_rfl) (fun _ _ _ h => h) (by rfl) ?_ hHeld ?_; focus (intro w9 hSw; obtain ⟨s1, s2, s3⟩ := id hSw; go_simp))
                try simp only [Act.put, List.setIfInBounds_toArray, List.set_cons_zero, List.set_cons_succ]
                clear hm1
                (refine tk_yes (v := .string V) 10 (some 102) rfl rfl (by kernel_rfl) (by kernel_rfl) (by kernel_rfl) (fun _ _ _ h => h) (by rfl) ?_ hHeld ?_; focus (intro w9 hSw; obtain ⟨s1, s2, s3⟩ := id hSw; go_simp))
                try simp only [Act.put, List.setIfInBounds_toArray, List.set_cons_zero, List.set_cons_succ]
                (refine tk_yes (v := .pointer (some ⟨g, n * 2, none⟩)) 11 (some 103) rfl rfl (by kernel_rfl) (by kernel_rfl) (by kernel_rfl) (fun _ _ _ h => h) (by rfl) ?_ hHeld ?_; focus (intro w9 hSw; obtain ⟨s1, s2, s3⟩ := id hSw; go_simp))
                try simp only [Act.put, List.setIfInBounds_toArray, List.set_cons_zero, List.set_cons_succ]
                (refine tk_yes (v := .pointer (some ⟨g, n * 2 + 1, none⟩)) 12 (some 104) rfl rfl (by kernel_rfl) (by kernel_rfl) (by kernel_rfl) (fun _ _ _ h => h) (by rfl) ?_ hHeld ?_; focus (intro w9 hSw; obtain ⟨s1, s2, s3⟩ := id hSw; go_simp))
                try simp only [Act.put, List.setIfInBounds_toArray, List.set_cons_zero, List.set_cons_succ]
                refine wpAnyH_ready (rs := [13]) (by kernel_rfl) (by simp) ?_
                refine AllReadyH.cons rfl (fun K hK => ?_) AllReadyH.nil
                go_simp
                obtain ⟨L9, hL9⟩ := RV.out.setV n (by omega) V HV.out
                rw [show wf.drew.setCell ⟨g, n * 2 + 1, none⟩ (.string V) = (wf.setCell ⟨g, n * 2 + 1, none⟩ (.string V)).drew from rfl] at hL9
                have R9 := hid hL9
                have S9 := hid (R9.out.sv C3.out)
                clear hL9 RV k8 f8
                obtain ⟨w9, hw9⟩ : ∃ w9, w9 = (wf.setCell ⟨g, n * 2 + 1, none⟩ (.string V)).drew := ⟨_, rfl⟩
                rw [← hw9] at R9 S9 ⊢
                clear hw9
                refine hK.out _ _ S9.out (fun hHeld => ?_)
                clear hK K
                try simp only [Act.put, List.setIfInBounds_toArray, List.set_cons_zero, List.set_cons_succ]
                refine wpAnyH_done (by kernel_rfl) ?_ _
                refine NoPanic.normal ?_
                go_wp2
                go_roundw
                case rel => exact ⟨k + 1, n + 1, _, _, _, s + 1, by omega, by go_num, by go_num, by omega, by omega, R9.out⟩
                case measure => simp [intOf]; omega
              · obtain ⟨z, hz⟩ : ∃ z, G % 16 = z := ⟨_, rfl⟩
                have hG' : G.tmod 16 = z := by rw [Int.tmod_eq_emod_of_nonneg G0, hz]
                have hz' : ¬ z = 15 := by rw [← hz]; exact hG
                have c2 := (RF.out.d.2.cell (World.block_lt_of_cell? w _ C2.out)).trans C2.out
                clear hG hz
                go_wp2
                clear hG'
                go_roundw
                case rel => exact ⟨k + 1, n + 1, _, _, _, s + 1, by omega, by go_num, by go_num, by omega, by omega, RF.out⟩
                case measure => simp [intOf]; omega
            · go_simp
              go_at_call 11
              refine (digits11 KK z1 _ K0 K1 (by omega)).mono ?_
              rintro e w5 ⟨T, rfl, hT, _, rfl⟩
              have HT : Hid ((⟨X, T⟩ : Fd).ok) := ⟨by show -9223372036854775808 ≤ X; omega, by show X ≤ 9223372036854775807; omega, by show T.size ≤ _; omega⟩
              clear hT
              go_simp
              refine hK.out _ _ hHeld (fun hHeld => ?_)
              clear hK K
              try simp only [Act.put, List.setIfInBounds_toArray, List.set_cons_zero, List.set_cons_succ]
              (refine tk_yes (v := .agg #[.int .i64 X, .string T]) 13 (some 81) rfl rfl (by kernel_rfl) (by kernel_rfl) (by kernel_rfl) (fun _ _ _ h => h) (by rfl) ?_ hHeld ?_; focus (intro w9 hSw; obtain ⟨s1, s2, s3⟩ := id hSw; go_simp))
              try simp only [Act.put, List.setIfInBounds_toArray, List.set_cons_zero, List.set_cons_succ]
              refine wpAnyH_ready (rs := [1, 14]) (by kernel_rfl) (by simp) ?_
              refine AllReadyH.cons rfl (fun K hK => ?_) (AllReadyH.cons rfl (fun K hK => ?_) AllReadyH.nil)
              · go_simp
                refine hK.out _ _ hHeld (fun hHeld => ?_)
                clear hK K
                try simp only [Act.put, List.setIfInBounds_toArray, List.set_cons_zero, List.set_cons_succ]
                refine wpAnyH_ready (rs := [14]) (by kernel_rfl) (by simp) ?_
                refine AllReadyH.cons rfl (fun K hK => ?_) AllReadyH.nil
                refine bsF_step HT.out rfl _ rfl rfl ?_
                intro ag wg gg lg
                have GG := hid gg
                have RG := hid (RD.out.more lg)
                clear gg lg q1
                have SG := hid (RG.out.sm ht18 hX C1.out)
                refine hK.out _ _ SG.out (fun hHeld => ?_)
                clear hK K
                try simp only [Act.put, List.setIfInBounds_toArray]
                refine wpAnyH_ready (rs := [15]) (by kernel_rfl) (by simp) ?_
                refine AllReadyH.cons (o := { dst := some 83, op := _, type := _, pos := _, after := _, guard := none }) rfl (fun K hK => ?_) AllReadyH.nil
                refine app_fld_step RG.out.d GG.out rfl (by omega) rfl _ _ rfl rfl rfl ?_
                intro ao8 cap8 w8 d8 t8
                have R8 := hid (RG.out.turned d8 t8)
                clear d8 t8 RG
                have S8 := hid (R8.out.sm ht18 hX C1.out)
                refine hK.out _ _ S8.out (fun hHeld => ?_)
                clear hK K
                try simp only [Act.put]
                (refine tk_yes (v := ?_) 16 (some 84) rfl rfl (by kernel_rfl) (by kernel_rfl) (by kernel_rfl) (fun _ _ _ h => h) (by rfl) ?_ hHeld ?_; rotate_left; focus (intro w9 hSw; obtain ⟨s1, s2, s3⟩ := id hSw; go_simp; try with_reducible rfl))
                try simp only [Act.put]
                refine wpAnyH_ready (rs := [17]) (by kernel_rfl) (by simp) ?_
                refine AllReadyH.cons rfl (fun K hK => ?_) AllReadyH.nil
                obtain ⟨p0, p1, p2⟩ := R8.out.cells
                go_simp
                have RF := hid R8.out.store
                have SF := hid (RF.out.sm ht18 hX C1.out)
                clear p0 p1 p2 R8
                obtain ⟨wf, hwf⟩ : ∃ wf, wf = w8.setCell ⟨w.heap.size + 2, 1, none⟩ (.slice ao8 (n + 1) cap8) := ⟨_, rfl⟩
                rw [← hwf] at RF SF ⊢
                clear hwf
                refine hK.out _ _ SF.out (fun hHeld => ?_)
                clear hK K
                try simp only [Act.put, List.setIfInBounds_toArray, List.set_cons_zero, List.set_cons_succ]
                refine wpAnyH_done (by kernel_rfl) ?_ _
                refine NoPanic.normal ?_
                by_cases hG : G % 16 = 15
                · have hG' : G.tmod 16 = 15 := by rw [Int.tmod_eq_emod_of_nonneg G0, hG]
                  have c2 := (RF.out.d.2.cell (World.block_lt_of_cell? w _ C2.out)).trans C2.out
                  clear hG
                  go_wp2
                  clear c2 hG'
                  have RV := hid (RF.out.more (Below.refl _ wf).drew)
                  obtain ⟨g, cur, e8, hg8, hs8⟩ := own_at RV.out.d.1 (by omega)
                  cases e8
                  obtain ⟨⟨u8, k8⟩, f8⟩ := own_cell (i := n * 2 + 1) hg8 (by omega)
                  have SDV := hid (RV.out.sv C3.out)
                  have HM1 : Hid (IntKind.i64.wrap (n : Int) = (n : Int)) := wrap_i64_small _ (by omega) (by omega)
                  have hn1 : (n : Int) < ((n + 1 : Nat) : Int) := by omega
                  have hn2 : (n : Int) < (n : Int) + 1 := by omega
                  clear hg8 hs8
                  refine wp_region_noPanic ?_
                  refine wp_region_held_drew (S := SV w (.slice (some ⟨g, 0, none⟩) (n + 1) cap8) b (o + k * 4) V) (by kernel_rfl) SDV.out (fun hHeld => ?_)
                  (refine tk_yes (v := ?_) 0 (some 92) rfl rfl (by kernel_rfl) (by kernel_rfl) (by kernel_rfl) (fun _ _ _ h => h) (by rfl) ?_ hHeld ?_; rotate_left; focus (intro w9 hSw; obtain ⟨s1, s2, s3⟩ := id hSw; go_simp; try with_reducible rfl))
                  try simp only [Act.put, List.setIfInBounds_toArray, List.set_cons_zero, List.set_cons_succ]
                  (refine tk_yes (v := ?_) 2 (some 94) rfl rfl (by kernel_rfl) (by kernel_rfl) (by kernel_rfl) (fun _ _ _ h => h) (by rfl) ?_ hHeld ?_; rotate_left; focus (intro w9 hSw; obtain ⟨s1, s2, s3⟩ := id hSw; go_simp; try with_reducible rfl))
                  try simp only [Act.put, List.setIfInBounds_toArray, List.set_cons_zero, List.set_cons_succ]
                  (refine tk_yes (v := ?_) 6 (some 98) rfl rfl (by kernel_rfl) (by kernel_rfl) (by kernel_rfl) (fun _ _ _ h => h) (by rfl) ?_ hHeld ?_; rotate_left; focus (intro w9 hSw; obtain ⟨s1, s2, s3⟩ := id hSw; go_simp; try with_reducible rfl))
                  try simp only [Act.put, List.setIfInBounds_toArray, List.set_cons_zero, List.set_cons_succ]
                  (refine tk_yes (v := ?_) 7 (some 99) rfl rfl (by kernel_rfl) (by kernel_rfl) (by kernel_rfl) (fun _ _ _ h => h) (by rfl) ?_ hHeld ?_; rotate_left; focus (intro w9 hSw; obtain ⟨s1, s2, s3⟩ := id hSw; go_simp; try with_reducible rfl))
                  try simp only [Act.put, List.setIfInBounds_toArray, List.set_cons_zero, List.set_cons_succ]
                  (refine tk_yes (v := .pointer (some ⟨b, o + k * 4, none⟩)) 8 (some 100) rfl rfl (by kernel_rfl) (by kernel_rfl) (by kernel_rfl) (fun _ _ _ h => h) (by rfl) ?_ hHeld ?_; focus (intro w9 hSw; obtain ⟨s1, s2, s3⟩ := id hSw; go_simp))
                  try simp only [Act.put, List.setIfInBounds_toArray, List.set_cons_zero, List.set_cons_succ]
                  (refine tk_yes (v := ?_) 9 (some 101) rfl rfl (by kernel_rfl) (by kernel_rfl) (by kernel_rfl) (fun _ _ _ h => h) (by rfl) ?_ hHeld ?_; rotate_left; focus (intro w9 hSw; obtain ⟨s1, s2, s3⟩ := id hSw; go_simp; try with_reducible rfl))
                  try simp only [Act.put, List.setIfInBounds_toArray, List.set_cons_zero, List.set_cons_succ]
                  (refine tk_yes (v := .slice (some ⟨g, 0, none⟩) (n + 1) cap8) 1 (some 93) rfl rfl (by kernel_rfl) (by kernel_rfl) (by kernel_rfl) (fun _ _ _ h => h) (by rfl) ?_ hHeld ?_; focus (intro w9 hSw; obtain ⟨s1, s2, s3⟩ := id hSw; go_simp))
                  try simp only [Act.put, List.setIfInBounds_toArray, List.set_cons_zero, List.set_cons_succ]
                  (refine tk_yes (v := .slice (some ⟨g, 0, none⟩) (n + 1) cap8) 3 (some 95) rfl rfl (by kernel_rfl) (by kernel_rfl) (by kernel_rfl) (fun _ _ _ h => h) (by rfl) ?_ hHeld ?_; focus (intro w9 hSw; obtain ⟨s1, s2, s3⟩ := id hSw; go_simp))
                  try simp only [Act.put, List.setIfInBounds_toArray, List.set_cons_zero, List.set_cons_succ]
                  (refine tk_yes (v := .int .i64 ((n : Int) + 1)) 4 (some 96) rfl rfl (by kernel_rfl) (by kernel_rfl) (by kernel_rfl) (fun _ _ _ h => h) (by rfl) ?_ hHeld ?_; focus (intro w9 hSw; obtain ⟨s1, s2, s3⟩ := id hSw; go_simp))
                  try simp only [Act.put, List.setIfInBounds_toArray, List.set_cons_zero, List.set_cons_succ]
                  have hm1 := HM1.out
                  (refine tk_yes (v := .int .i64 (n : Int)) 5 (some 97) rfl rfl (by kernel_rfl) (by kernel_rfl) (by kernel_rfl) (fun _ _ _ h => h) (by rfl) ?_ hHeld ?_; focus (intro w9 hSw; obtain ⟨s1, s2, s3⟩ := id hSw; go_simp))
                  try simp only [Act.put, List.setIfInBounds_toArray, List.set_cons_zero, List.set_cons_succ]
                  clear hm1
                  (refine tk_yes (v := .string V) 10 (some 102) rfl rfl (by kernel_rfl) (by kernel_rfl) (by kernel_rfl) (fun _ _ _ h => h) (by rfl) ?_ hHeld ?_; focus (intro w9 hSw; obtain ⟨s1, s2, s3⟩ := id hSw; go_simp))
                  try simp only [Act.put, List.setIfInBounds_toArray, List.set_cons_zero, List.set_cons_succ]
                  (refine tk_yes (v := .pointer (some ⟨g, n * 2, none⟩)) 11 (some 103) rfl rfl (by kernel_rfl) (by kernel_rfl) (by kernel_rfl) (fun _ _ _ h => h) (by rfl) ?_ hHeld ?_; focus (intro w9 hSw; obtain ⟨s1, s2, s3⟩ := id hSw; go_simp))
                  try simp only [Act.put, List.setIfInBounds_toArray, List.set_cons_zero, List.set_cons_succ]
                  (refine tk_yes (v := .pointer (some ⟨g, n * 2 + 1, none⟩)) 12 (some 104) rfl rfl (by kernel_rfl) (by kernel_rfl) (by kernel_rfl) (fun _ _ _ h => h) (by rfl) ?_ hHeld ?_; focus (intro w9 hSw; obtain ⟨s1, s2, s3⟩ := id hSw; go_simp))
                  try simp only [Act.put, List.setIfInBounds_toArray, List.set_cons_zero, List.set_cons_succ]
                  refine wpAnyH_ready (rs := [13]) (by kernel_rfl) (by simp) ?_
                  refine AllReadyH.cons rfl (fun K hK => ?_) AllReadyH.nil
                  go_simp
                  obtain ⟨L9, hL9⟩ := RV.out.setV n (by omega) V HV.out
                  rw [show wf.drew.setCell ⟨g, n * 2 + 1, none⟩ (.string V) = (wf.setCell ⟨g, n * 2 + 1, none⟩ (.string V)).drew from rfl] at hL9
                  have R9 := hid hL9
                  have S9 := hid (R9.out.sv C3.out)
                  clear hL9 RV k8 f8
                  obtain ⟨w9, hw9⟩ : ∃ w9, w9 = (wf.setCell ⟨g, n * 2 + 1, none⟩ (.string V)).drew := ⟨_, rfl⟩
                  rw [← hw9] at R9 S9 ⊢
                  clear hw9
                  refine hK.out _ _ S9.out (fun hHeld => ?_)
                  clear hK K
                  try simp only [Act.put, List.setIfInBounds_toArray, List.set_cons_zero, List.set_cons_succ]
                  refine wpAnyH_done (by kernel_rfl) ?_ _
                  refine NoPanic.normal ?_
                  go_wp2
                  go_roundw
                  case rel => exact ⟨k + 1, n + 1, _, _, _, s + 1, by omega, by go_num, by go_num, by omega, by omega, R9.out⟩
                  case measure => simp [intOf]; omega
                · obtain ⟨z, hz⟩ : ∃ z, G % 16 = z := ⟨_, rfl⟩
                  have hG' : G.tmod 16 = z := by rw [Int.tmod_eq_emod_of_nonneg G0, hz]
                  have hz' : ¬ z = 15 := by rw [← hz]; exact hG
                  have c2 := (RF.out.d.2.cell (World.block_lt_of_cell? w _ C2.out)).trans C2.out
                  clear hG hz
                  go_wp2
                  clear hG'
                  go_roundw
                  case rel => exact ⟨k + 1, n + 1, _, _, _, s + 1, by omega, by go_num, by go_num, by omega, by omega, RF.out⟩
                  case measure => simp [intOf]; omega
              · refine bsF_step HT.out rfl _ rfl rfl ?_
                intro ag wg gg lg
                have GG := hid gg
                have RG := hid (RD.out.more lg)
                clear gg lg q1
                have SG := hid (RG.out.sm ht18 hX C1.out)
                refine hK.out _ _ SG.out (fun hHeld => ?_)
                clear hK K
                try simp only [Act.put, List.setIfInBounds_toArray]
                obtain ⟨_, q1, _⟩ := RG.out.cells
                refine wpAnyH_ready (rs := [1]) (by kernel_rfl) (by simp) ?_
                refine AllReadyH.cons rfl (fun K hK => ?_) AllReadyH.nil
                go_simp
                refine hK.out _ _ hHeld (fun hHeld => ?_)
                clear hK K
                try simp only [Act.put, List.setIfInBounds_toArray, List.set_cons_zero, List.set_cons_succ]
                clear q1
                refine wpAnyH_ready (rs := [15]) (by kernel_rfl) (by simp) ?_
                refine AllReadyH.cons (o := { dst := some 83, op := _, type := _, pos := _, after := _, guard := none }) rfl (fun K hK => ?_) AllReadyH.nil
                refine app_fld_step RG.out.d GG.out rfl (by omega) rfl _ _ rfl rfl rfl ?_
                intro ao8 cap8 w8 d8 t8
                have R8 := hid (RG.out.turned d8 t8)
                clear d8 t8 RG
                have S8 := hid (R8.out.sm ht18 hX C1.out)
                refine hK.out _ _ S8.out (fun hHeld => ?_)
                clear hK K
                try simp only [Act.put, List.setIfInBounds_toArray, List.set_cons_zero, List.set_cons_succ]
                (refine tk_yes (v := ?_) 16 (some 84) rfl rfl (by kernel_rfl) (by kernel_rfl) (by kernel_rfl) (fun _ _ _ h => h) (by rfl) ?_ hHeld ?_; rotate_left; focus (intro w9 hSw; obtain ⟨s1, s2, s3⟩ := id hSw; go_simp; try with_reducible rfl))
                try simp only [Act.put, List.setIfInBounds_toArray, List.set_cons_zero, List.set_cons_succ]
                refine wpAnyH_ready (rs := [17]) (by kernel_rfl) (by simp) ?_
                refine AllReadyH.cons rfl (fun K hK => ?_) AllReadyH.nil
                obtain ⟨p0, p1, p2⟩ := R8.out.cells
                go_simp
                have RF := hid R8.out.store
                have SF := hid (RF.out.sm ht18 hX C1.out)
                clear p0 p1 p2 R8
                obtain ⟨wf, hwf⟩ : ∃ wf, wf = w8.setCell ⟨w.heap.size + 2, 1, none⟩ (.slice ao8 (n + 1) cap8) := ⟨_, rfl⟩
                rw [← hwf] at RF SF ⊢
                clear hwf
                refine hK.out _ _ SF.out (fun hHeld => ?_)
                clear hK K
                try simp only [Act.put, List.setIfInBounds_toArray, List.set_cons_zero, List.set_cons_succ]
                refine wpAnyH_done (by kernel_rfl) ?_ _
                refine NoPanic.normal ?_
                by_cases hG : G % 16 = 15
                · have hG' : G.tmod 16 = 15 := by rw [Int.tmod_eq_emod_of_nonneg G0, hG]
                  have c2 := (RF.out.d.2.cell (World.block_lt_of_cell? w _ C2.out)).trans C2.out
                  clear hG
                  go_wp2
                  clear c2 hG'
                  have RV := hid (RF.out.more (Below.refl _ wf).drew)
                  obtain ⟨g, cur, e8, hg8, hs8⟩ := own_at RV.out.d.1 (by omega)
                  cases e8
                  obtain ⟨⟨u8, k8⟩, f8⟩ := own_cell (i := n * 2 + 1) hg8 (by omega)
                  have SDV := hid (RV.out.sv C3.out)
                  have HM1 : Hid (IntKind.i64.wrap (n : Int) = (n : Int)) := wrap_i64_small _ (by omega) (by omega)
                  have hn1 : (n : Int) < ((n + 1 : Nat) : Int) := by omega
                  have hn2 : (n : Int) < (n : Int) + 1 := by omega
                  clear hg8 hs8
                  refine wp_region_noPanic ?_
                  refine wp_region_held_drew (S := SV w (.slice (some ⟨g, 0, none⟩) (n + 1) cap8) b (o + k * 4) V) (by kernel_rfl) SDV.out (fun hHeld => ?_)
                  (refine tk_yes (v := ?_) 0 (some 92) rfl rfl (by kernel_rfl) (by kernel_rfl) (by kernel_rfl) (fun _ _ _ h => h) (by rfl) ?_ hHeld ?_; rotate_left; focus (intro w9 hSw; obtain ⟨s1, s2, s3⟩ := id hSw; go_simp; try with_reducible rfl))
                  try simp only [Act.put, List.setIfInBounds_toArray, List.set_cons_zero, List.set_cons_succ]
                  (refine tk_yes (v := ?_) 2 (some 94) rfl rfl (by kernel_rfl) (by kernel_rfl) (by kernel_rfl) (fun _ _ _ h => h) (by rfl) ?_ hHeld ?_; rotate_left; focus (intro w9 hSw; obtain ⟨s1, s2, s3⟩ := id hSw; go_simp; try with_reducible rfl))
                  try simp only [Act.put, List.setIfInBounds_toArray, List.set_cons_zero, List.set_cons_succ]
                  (refine tk_yes (v := ?_) 6 (some 98) rfl rfl (by kernel_rfl) (by kernel_rfl) (by kernel_rfl) (fun _ _ _ h => h) (by rfl) ?_ hHeld ?_; rotate_left; focus (intro w9 hSw; obtain ⟨s1, s2, s3⟩ := id hSw; go_simp; try with_reducible rfl))
                  try simp only [Act.put, List.setIfInBounds_toArray, List.set_cons_zero, List.set_cons_succ]
                  (refine tk_yes (v := ?_) 7 (some 99) rfl rfl (by kernel_rfl) (by kernel_rfl) (by kernel_rfl) (fun _ _ _ h => h) (by rfl) ?_ hHeld ?_; rotate_left; focus (intro w9 hSw; obtain ⟨s1, s2, s3⟩ := id hSw; go_simp; try with_reducible rfl))
                  try simp only [Act.put, List.setIfInBounds_toArray, List.set_cons_zero, List.set_cons_succ]
                  (refine tk_yes (v := .pointer (some ⟨b, o + k * 4, none⟩)) 8 (some 100) rfl rfl (by kernel_rfl) (by kernel_rfl) (by kernel_rfl) (fun _ _ _ h => h) (by rfl) ?_ hHeld ?_; focus (intro w9 hSw; obtain ⟨s1, s2, s3⟩ := id hSw; go_simp))
                  try simp only [Act.put, List.setIfInBounds_toArray, List.set_cons_zero, List.set_cons_succ]
                  (refine tk_yes (v := ?_) 9 (some 101) rfl rfl (by kernel_rfl) (by kernel_rfl) (by kernel_rfl) (fun _ _ _ h => h) (by rfl) ?_ hHeld ?_; rotate_left; focus (intro w9 hSw; obtain ⟨s1, s2, s3⟩ := id hSw; go_simp; try with_reducible rfl))
                  try simp only [Act.put, List.setIfInBounds_toArray, List.set_cons_zero, List.set_cons_succ]
                  (refine tk_yes (v := .slice (some ⟨g, 0, none⟩) (n + 1) cap8) 1 (some 93) rfl rfl (by kernel_rfl) (by kernel_rfl) (by kernel_rfl) (fun _ _ _ h => h) (by rfl) ?_ hHeld ?_; focus (intro w9 hSw; obtain ⟨s1, s2, s3⟩ := id hSw; go_simp))
                  try simp only [Act.put, List.setIfInBounds_toArray, List.set_cons_zero, List.set_cons_succ]
                  (refine tk_yes (v := .slice (some ⟨g, 0, none⟩) (n + 1) cap8) 3 (some 95) rfl rfl (by kernel_rfl) (by kernel_rfl) (by kernel_rfl) (fun _ _ _ h => h) (by rfl) ?_ hHeld ?_; focus (intro w9 hSw; obtain ⟨s1, s2, s3⟩ := id hSw; go_simp))
                  try simp only [Act.put, List.setIfInBounds_toArray, List.set_cons_zero, List.set_cons_succ]
                  (refine tk_yes (v := .int .i64 ((n : Int) + 1)) 4 (some 96) rfl rfl (by kernel_rfl) (by kernel_rfl) (by kernel_rfl) (fun _ _ _ h => h) (by rfl) ?_ hHeld ?_; focus (intro w9 hSw; obtain ⟨s1, s2, s3⟩ := id hSw; go_simp))
                  try simp only [Act.put, List.setIfInBounds_toArray, List.set_cons_zero, List.set_cons_succ]
                  have hm1 := HM1.out
                  (refine tk_yes (v := .int .i64 (n : Int)) 5 (some 97) rfl rfl (by kernel_rfl) (by kernel_rfl) (by kernel_rfl) (fun _ _ _ h => h) (by rfl) ?_ hHeld ?_; focus (intro w9 hSw; obtain ⟨s1, s2, s3⟩ := id hSw; go_simp))
                  try simp only [Act.put, List.setIfInBounds_toArray, List.set_cons_zero, List.set_cons_succ]
                  clear hm1
                  (refine tk_yes (v := .string V) 10 (some 102) rfl rfl (by kernel_rfl) (by kernel_rfl) (by kernel_rfl) (fun _ _ _ h => h) (by rfl) ?_ hHeld ?_; focus (intro w9 hSw; obtain ⟨s1, s2, s3⟩ := id hSw; go_simp))
                  try simp only [Act.put, List.setIfInBounds_toArray, List.set_cons_zero, List.set_cons_succ]
                  (refine tk_yes (v := .pointer (some ⟨g, n * 2, none⟩)) 11 (some 103) rfl rfl (by kernel_rfl) (by kernel_rfl) (by kernel_rfl) (fun _ _ _ h => h) (by rfl) ?_ hHeld ?_; focus (intro w9 hSw; obtain ⟨s1, s2, s3⟩ := id hSw; go_simp))
                  try simp only [Act.put, List.setIfInBounds_toArray, List.set_cons_zero, List.set_cons_succ]
                  (refine tk_yes (v := .pointer (some ⟨g, n * 2 + 1, none⟩)) 12 (some 104) rfl rfl (by kernel_rfl) (by kernel_rfl) (by kernel_rfl) (fun _ _ _ h => h) (by rfl) ?_ hHeld ?_; focus (intro w9 hSw; obtain ⟨s1, s2, s3⟩ := id hSw; go_simp))
                  try simp only [Act.put, List.setIfInBounds_toArray, List.set_cons_zero, List.set_cons_succ]
                  refine wpAnyH_ready (rs := [13]) (by kernel_rfl) (by simp) ?_
                  refine AllReadyH.cons rfl (fun K hK => ?_) AllReadyH.nil
                  go_simp
                  obtain ⟨L9, hL9⟩ := RV.out.setV n (by omega) V HV.out
                  rw [show wf.drew.setCell ⟨g, n * 2 + 1, none⟩ (.string V) = (wf.setCell ⟨g, n * 2 + 1, none⟩ (.string V)).drew from rfl] at hL9
                  have R9 := hid hL9
                  have S9 := hid (R9.out.sv C3.out)
                  clear hL9 RV k8 f8
                  obtain ⟨w9, hw9⟩ : ∃ w9, w9 = (wf.setCell ⟨g, n * 2 + 1, none⟩ (.string V)).drew := ⟨_, rfl⟩
                  rw [← hw9] at R9 S9 ⊢
                  clear hw9
                  refine hK.out _ _ S9.out (fun hHeld => ?_)
                  clear hK K
                  try simp only [Act.put, List.setIfInBounds_toArray, List.set_cons_zero, List.set_cons_succ]
                  refine wpAnyH_done (by kernel_rfl) ?_ _
                  refine NoPanic.normal ?_
                  go_wp2
                  go_roundw
                  case rel => exact ⟨k + 1, n + 1, _, _, _, s + 1, by omega, by go_num, by go_num, by omega, by omega, R9.out⟩
                  case measure => simp [intOf]; omega
                · obtain ⟨z, hz⟩ : ∃ z, G % 16 = z := ⟨_, rfl⟩
                  have hG' : G.tmod 16 = z := by rw [Int.tmod_eq_emod_of_nonneg G0, hz]
                  have hz' : ¬ z = 15 := by rw [← hz]; exact hG
                  have c2 := (RF.out.d.2.cell (World.block_lt_of_cell? w _ C2.out)).trans C2.out
                  clear hG hz
                  go_wp2
                  clear hG'
                  go_roundw
                  case rel => exact ⟨k + 1, n + 1, _, _, _, s + 1, by omega, by go_num, by go_num, by omega, by omega, RF.out⟩
                  case measure => simp [intOf]; omega
        · have j3 : decide ((18 : Int) ≤ (s : Int)) = true := decide_eq_true (by omega)
          have hty := HTY.out
          have hyt := HYT.out
          obtain ⟨o0, o1, _⟩ := R1.out.cells
          obtain ⟨x0, x1, x2, x3⟩ := R1.out.x.facts
          go_wp2
          have D8 := hid (R1.out.d.set R1.out.x (Nat.le_refl _) (.int .i64 mt) (.slice ao1 n c))
          have X8 := hid (R1.out.x.set mt (.slice ao1 n c))
          obtain ⟨W8, hW8⟩ : ∃ W8, W8 = (wr.setCell ⟨w.heap.size, 0, none⟩ (.int .i64 mt)).setCell ⟨w.heap.size, 1, none⟩ (.slice ao1 n c) := ⟨_, rfl⟩
          rw [← hW8] at D8 X8 ⊢
          obtain ⟨d0, d1⟩ := X8.out.ib
          simp [bodyPost, results, Try.results7, go_sem, d0, d1]
          exact ⟨_, _, _, _, ⟨rfl, rfl, rfl, rfl⟩, ⟨_, D8.out⟩, HM9.out⟩
      · have j1 : decide ((t : Int) < 18) = false := decide_eq_false (by omega)
        obtain ⟨o0, o1, _⟩ := R1.out.cells
        obtain ⟨x0, x1, x2, x3⟩ := R1.out.x.facts
        go_wp2
        have D8 := hid (R1.out.d.set R1.out.x (Nat.le_refl _) (.int .i64 mt) (.slice ao1 n c))
        have X8 := hid (R1.out.x.set mt (.slice ao1 n c))
        obtain ⟨W8, hW8⟩ : ∃ W8, W8 = (wr.setCell ⟨w.heap.size, 0, none⟩ (.int .i64 mt)).setCell ⟨w.heap.size, 1, none⟩ (.slice ao1 n c) := ⟨_, rfl⟩
        rw [← hW8] at D8 X8 ⊢
        obtain ⟨d0, d1⟩ := X8.out.ib
        simp [bodyPost, results, Try.results7, go_sem, d0, d1]
        exact ⟨_, _, _, _, ⟨rfl, rfl, rfl, rfl⟩, ⟨_, D8.out⟩, HM9.out⟩
    · have hlt' : ¬ (k : Int) < (len : Int) := by omega
      obtain ⟨o0, o1, _⟩ := R1.out.cells
      obtain ⟨x0, x1, x2, x3⟩ := R1.out.x.facts
      go_wp2
      have D8 := hid (R1.out.d.set R1.out.x (Nat.le_refl _) (.int .i64 mt) (.slice ao1 n c))
      have X8 := hid (R1.out.x.set mt (.slice ao1 n c))
      obtain ⟨W8, hW8⟩ : ∃ W8, W8 = (wr.setCell ⟨w.heap.size, 0, none⟩ (.int .i64 mt)).setCell ⟨w.heap.size, 1, none⟩ (.slice ao1 n c) := ⟨_, rfl⟩
      rw [← hW8] at D8 X8 ⊢
      obtain ⟨d0, d1⟩ := X8.out.ib
      simp [bodyPost, results, Try.results7, go_sem, d0, d1]
      exact ⟨_, _, _, _, ⟨rfl, rfl, rfl, rfl⟩, ⟨_, D8.out⟩, HM9.out⟩
end Go.Proofs.Ytfpjjdlfofejcaa
