/- readLength: how long a value is, and how many bytes tell so. -/
import Derived.Test.YtfpjjdlfofejcaaRdS
namespace Go.Proofs.Ytfpjjdlfofejcaa
open Go.ChangeShapes Go.WideShapes Go.ChangeAt Go.RowKit

/-- How many bytes of a length stand ahead. -/
def tookV (V : Int) : Nat := ((V + 1) / 2).toNat
/-- The digits of the length. -/
def lenS (V : Int) (zs : List Int) : ByteArray := unS (zs.take (tookV V)) V
def rlB (L V : Int) (zs : List Int) : Bool := decide (V = 0) || (decide (tookV V ≤ zs.length) && unOk (zs.take (tookV V)) V && numOk (lenS V zs) && fitI L V (numV (lenS V zs)))
def rlN (L V : Int) (zs : List Int) : Int := if V = 0 then L else numV (lenS V zs)
def rlA (V : Int) : Nat := if V = 0 then 0 else tookV V
set_option maxHeartbeats 1000000 in
theorem len16_none (D : Bool) (L : Int) (ao : Option Addr) (len cap : Nat) (zs : List Int) (w : World) :
    Calls Try.prog 55 #[.agg #[.bool D, .int .i64 L, .int .i64 0], .slice ao len cap] w fun e w' => (rlB L 0 zs = true ∧ e = .returned (.tuple #[.int .i64 (rlN L 0 zs), .int .i64 (rlA 0 : Int), .bool true])) ∧ Below w.heap.size w w' := by
  go_enter Try.func55, Try.ntmps55
  go_wp2
  go_ret3
  exact ⟨⟨rfl, rfl⟩, bel1 _ _⟩
set_option maxHeartbeats 1000000 in
theorem len16_some (D : Bool) (L V : Int) (ao : Option Addr) (len cap : Nat) (zs : List Int) (w : World) (h : Given w ao len cap zs) (h0 : 0 < V) (h1 : V ≤ 100) :
    Calls Try.prog 55 #[.agg #[.bool D, .int .i64 L, .int .i64 V], .slice ao len cap] w fun e w' => ((rlB L V zs = true ∧ e = .returned (.tuple #[.int .i64 (rlN L V zs), .int .i64 (rlA V : Int), .bool true])) ∨ (rlB L V zs = false ∧ e = .returned (.tuple #[.int .i64 0, .int .i64 0, .bool false]))) ∧ Below w.heap.size w w' := by
  have hV : ¬ V = 0 := by omega
  have HE : Hid (rlB L V zs = (decide (tookV V ≤ zs.length) && unOk (zs.take (tookV V)) V && numOk (lenS V zs) && fitI L V (numV (lenS V zs))) ∧ rlN L V zs = numV (lenS V zs) ∧ rlA V = tookV V) := hid (by
    unfold rlB rlN rlA; rw [decide_eq_false hV, if_neg hV, if_neg hV]; exact ⟨Bool.false_or _, rfl, rfl⟩)
  unfold lenS at HE
  obtain ⟨m, hm⟩ : ∃ m, tookV V = m := ⟨_, rfl⟩
  have hm2 : (V + 1) / 2 = (m : Int) := by unfold tookV at hm; omega
  rw [hm, h.leq] at HE
  have hm1 : 1 ≤ m := by omega
  have hm9 : m ≤ 100 := by omega
  have hpk := fun w => packed21 V m w (by omega) (by omega) hm2
  have F1 := hid (FB.new w D L V 73)
  have B1 := hid (bel1 w (.cells #[.bool D, .int .i64 L, .int .i64 V] 73))
  have G1 := hid (h.below B1.out)
  have hc1 := h.cap1
  have HV := hid h1
  clear h hm hm2 h0 h1
  go_enter Try.func55, Try.ntmps55
  by_cases hl : len < m
  · have HF : Hid (rlB L V zs = false) := hid (by rw [HE.out.1, decide_eq_false (by omega)]; rfl)
    have hli : (len : Int) < (m : Int) := by omega
    go_wp2_with (go_at_call 58; refine (hpk _).mono ?_; rintro e w2 ⟨rfl, rfl⟩)
    go_ret3
    exact ⟨.inr ⟨HF.out, rfl⟩, B1.out⟩
  · have hli : ¬ (len : Int) < (m : Int) := by omega
    obtain ⟨a1, hrun, hgv⟩ := sub_h (ao := ao) m (by omega : m ≤ len) hc1
    have HG := hid (hgv _ _ G1.out)
    clear hgv
    have HT : Hid (decide (m ≤ len) = true) := hid (decide_eq_true (by omega))
    go_wp2_with (go_at_call 58; refine (hpk _).mono ?_; rintro e w2 ⟨rfl, rfl⟩)
    generalize w.alloc (Obj.cells #[Value.bool D, Value.int IntKind.i64 L, Value.int IntKind.i64 V] 73) = wA at *
    refine wp_region_noPanic ?_
    refine wp_region_held_drew (S := (fun w' => FB w' w.heap.size D L V)) (by kernel_rfl) F1.out (fun hHeld => ?_)
    (refine tk_yes (v := ?_) 0 (some 24) rfl rfl (by kernel_rfl) (by kernel_rfl) (by kernel_rfl) (fun _ _ _ h => h) (by rfl) ?_ hHeld ?_; rotate_left; focus (intro w hSw; go_simp; try with_reducible rfl))
    try simp only [Act.put, List.setIfInBounds_toArray, List.set_cons_zero, List.set_cons_succ]
    (refine tk_yes (v := ?_) 1 (some 25) rfl rfl (by kernel_rfl) (by kernel_rfl) (by kernel_rfl) (fun _ _ _ h => h) (by rfl) ?_ hHeld ?_; rotate_left; focus (intro w hSw; go_simp; try with_reducible rfl))
    try simp only [Act.put, List.setIfInBounds_toArray, List.set_cons_zero, List.set_cons_succ]
    (refine tk_yes (v := .slice a1 m cap) 2 (some 26) rfl rfl (by kernel_rfl) (by kernel_rfl) (by kernel_rfl) (fun _ _ _ h => h) (by rfl) ?_ hHeld ?_; focus (intro w hSw; go_simp))
    try simp only [Act.put, List.setIfInBounds_toArray, List.set_cons_zero, List.set_cons_succ]
    (refine tk_yes (v := ?_) 3 (some 27) rfl rfl (by kernel_rfl) (by kernel_rfl) (by kernel_rfl) (fun _ _ _ h => h) (by rfl) ?_ hHeld ?_; rotate_left; focus (intro w hSw; go_simp; try with_reducible rfl))
    try simp only [Act.put, List.setIfInBounds_toArray, List.set_cons_zero, List.set_cons_succ]
    (refine tk_yes (v := .int .i64 V) 4 (some 28) rfl rfl (by kernel_rfl) (by kernel_rfl) (by kernel_rfl) (fun _ _ _ h => h) (by rfl) ?_ hHeld ?_; focus (intro w hSw; obtain ⟨q0, q1, q2⟩ := id hSw; go_simp))
    try simp only [Act.put, List.setIfInBounds_toArray, List.set_cons_zero, List.set_cons_succ]
    refine wpAnyH_ready (rs := [5]) (by kernel_rfl) (by simp) ?_
    refine AllReadyH.cons rfl (fun K hK => ?_) AllReadyH.nil
    go_simp
    go_at_call 43
    refine (unpack_any a1 m cap (zs.take m) V _ (HG.out.below (Below.refl _ _).drew) (by omega) (by have := HV.out; omega)).mono ?_
    rintro e w3 ⟨rfl, l3⟩
    have F3 := hid (F1.out.drew.more l3)
    have L3 := hid (sq B1.out.drew l3)
    clear l3
    go_simp
    refine hK.out _ _ F3.out (fun hHeld => ?_)
    clear hK K
    try simp only [Act.put, List.setIfInBounds_toArray, List.set_cons_zero, List.set_cons_succ]
    (refine tk_yes (v := ?_) 6 (some 23) rfl rfl (by kernel_rfl) (by kernel_rfl) (by kernel_rfl) (fun _ _ _ h => h) (by rfl) ?_ hHeld ?_; rotate_left; focus (intro w hSw; go_simp; try with_reducible rfl))
    try simp only [Act.put, List.setIfInBounds_toArray, List.set_cons_zero, List.set_cons_succ]
    (refine tk_yes (v := ?_) 7 (some 30) rfl rfl (by kernel_rfl) (by kernel_rfl) (by kernel_rfl) (fun _ _ _ h => h) (by rfl) ?_ hHeld ?_; rotate_left; focus (intro w hSw; go_simp; try with_reducible rfl))
    try simp only [Act.put, List.setIfInBounds_toArray, List.set_cons_zero, List.set_cons_succ]
    (refine tk_yes (v := ?_) 8 (some 31) rfl rfl (by kernel_rfl) (by kernel_rfl) (by kernel_rfl) (fun _ _ _ h => h) (by rfl) ?_ hHeld ?_; rotate_left; focus (intro w hSw; go_simp; try with_reducible rfl))
    try simp only [Act.put, List.setIfInBounds_toArray, List.set_cons_zero, List.set_cons_succ]
    (refine tk_yes (v := ?_) 9 (some 8) rfl rfl (by kernel_rfl) (by kernel_rfl) (by kernel_rfl) (fun _ _ _ h => h) (by rfl) ?_ hHeld ?_; rotate_left; focus (intro w hSw; go_simp; try with_reducible rfl))
    try simp only [Act.put, List.setIfInBounds_toArray, List.set_cons_zero, List.set_cons_succ]
    (refine tk_yes (v := ?_) 10 (some 9) rfl rfl (by kernel_rfl) (by kernel_rfl) (by kernel_rfl) (fun _ _ _ h => h) (by rfl) ?_ hHeld ?_; rotate_left; focus (intro w hSw; go_simp; try with_reducible rfl))
    try simp only [Act.put, List.setIfInBounds_toArray, List.set_cons_zero, List.set_cons_succ]
    refine wpAnyH_done (by kernel_rfl) ?_ _
    refine NoPanic.normal ?_
    obtain ⟨u, hu⟩ : ∃ u, unS (zs.take m) V = u := ⟨_, rfl⟩
    have hus : u.size ≤ 9223372036854775807 := by
      rw [← hu]; unfold unS; split
      · rw [strOfNums_size, List.length_drop, unL_len, List.length_take]; omega
      · decide
    rw [hu] at HE
    cases hk : unOk (zs.take m) V
    · have HF : Hid (rlB L V zs = false) := hid (by rw [HE.out.1, hk, HT.out]; rfl)
      clear hk hu hus
      go_wp2
      go_ret3
      exact ⟨.inr ⟨HF.out, rfl⟩, L3.out⟩
    · have HK := hid hk
      have hnm := number8 u w3 hus
      rw [hu]
      clear hk hu hus
      obtain ⟨x, hx⟩ : ∃ x, numV u = x := ⟨_, rfl⟩
      rw [hx] at HE hnm
      clear hx
      cases ho : numOk u
      · rw [ho] at hnm
        have HF : Hid (rlB L V zs = false) := hid (by rw [HE.out.1, HK.out, ho, HT.out]; rfl)
        clear ho
        go_wp2_with (go_at_call 44; refine hnm.mono ?_; rintro e w4 ⟨rfl, rfl⟩)
        go_ret3
        exact ⟨.inr ⟨HF.out, rfl⟩, L3.out⟩
      · rw [ho] at hnm
        have HO := hid ho
        clear ho
        obtain ⟨q0, q1, q2⟩ := F3.out
        cases hf : fitI L V x
        · have HF : Hid (rlB L V zs = false) := hid (by rw [HE.out.1, HK.out, HO.out, HT.out, hf]; rfl)
          have HX := hid hf
          clear hf
          go_wp2_with (first | (go_at_call 35; refine (fits12 D L V x _).mono ?_; rintro e w5 ⟨rfl, l5⟩; rw [HX.out]; have L5 := hid (sq L3.out l5); clear l5) | (go_at_call 44; refine hnm.mono ?_; rintro e w4 ⟨rfl, rfl⟩))
          go_ret3
          exact ⟨.inr ⟨HF.out, rfl⟩, L5.out⟩
        · have HF : Hid (rlB L V zs = true) := hid (by rw [HE.out.1, HK.out, HO.out, HT.out, hf]; rfl)
          have HX := hid hf
          clear hf
          go_wp2_with (first | (go_at_call 35; refine (fits12 D L V x _).mono ?_; rintro e w5 ⟨rfl, l5⟩; rw [HX.out]; have L5 := hid (sq L3.out l5); clear l5) | (go_at_call 44; refine hnm.mono ?_; rintro e w4 ⟨rfl, rfl⟩))
          go_ret3
          exact ⟨.inl ⟨HF.out, by rw [HE.out.2.1, HE.out.2.2]; rfl⟩, L5.out⟩
end Go.Proofs.Ytfpjjdlfofejcaa
