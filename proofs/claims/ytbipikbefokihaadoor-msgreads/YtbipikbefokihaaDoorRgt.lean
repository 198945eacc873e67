/- Right: a message's fields, each within its limits. -/
import Derived.Test.YtbipikbefokihaaDoorSet
import Derived.Test.YtbipikbefokihaaDoorChk
namespace Go.Proofs.YtbipikbefokihaaDoor
open Go.ChangeShapes Go.WideShapes Go.ChangeAt Go.RowKit

theorem I.row_cell {w : World} {ao : Option Addr} {l : List Int} {n : Nat} (h : I.RowAt w ao l) (hn : l.length = n) (i : Nat) (hi : i < n) : ∃ b o, ao = some ⟨b, o, none⟩ ∧ w.cell? ⟨b, o + i, none⟩ = some (.int .i64 (l.getD i 0)) := by
  rcases h with h0 | ⟨b, o, e, hc⟩
  · subst h0; simp at hn; omega
  · exact ⟨b, o, e, hc i (by omega)⟩
/-- The numbers of one field, as they lie. -/
structure Nu (w w' : World) (ao : Option Addr) (n c : Nat) (L : List Int) : Prop where
  len : L.length = n
  cell : ∀ i, i < n → ∃ b o, ao = some ⟨b, o, none⟩ ∧ w'.cell? ⟨b, o + i, none⟩ = some (.int .i64 (L.getD i 0))
  cap : n ≤ c
  max : c ≤ 9223372036854775807
  bel : Below w.heap.size w w'
  row : I.RowAt w' ao L
  own : I.Row w.heap.size w' (.slice ao n c) n L
theorem Nu.of {w w' : World} {ao : Option Addr} {n c : Nat} {L : List Int} (h : I.Mk w w' (.slice ao n c) n L) : Nu w w' ao n c L :=
  ⟨h.1.len, fun i hi => I.row_cell h.1.at h.1.len i hi, h.1.caps.2.1, h.1.caps.2.2, h.2, h.1.at, h.1⟩
set_option maxHeartbeats 2000000 in
theorem isRight26 (m : Ms) (f : Int) (w : World) (hf : f ∈ tenF) (hm : m.Ok) (hp : m.pan.size ≤ 9223372036854775807) :
    Calls Tryd.prog 26 #[m.val, .int .i64 f] w fun e w' => e = .returned (.bool (rightF m f)) ∧ Below w.heap.size w w' := by
  have HM := hid hm
  have HP := hid hp
  have HF := hid hf
  by_cases h2 : f = 2
  · subst h2
    have HR : Hid (rightF m 2 = panB m.pan) := rfl
    clear hm hp hf
    go_enter Tryd.func26, Tryd.ntmps26
    go_wp2_with (first | (go_at_call 42; have kill := L1.out; refine (isPan42 _ _ HP.out).mono ?_; rintro e w2 ⟨rfl, l2⟩; have L2 := hid (sq L1.out l2); clear l2 kill L1) | (refine bx27 rfl _ rfl rfl ?_; intro b1 w1 hb1 v1 l1; have V1 := hid v1; have L1 := hid l1; have cc : w1.cell? ⟨b1, 3, none⟩ = some (.string m.pan) := v1.cell 3 rfl; clear v1 l1))
    go_ret
    exact ⟨by rw [HR.out]; rfl, L2.out⟩
  · have e2 : (f == 2) = false := by simpa using h2
    obtain ⟨L, hL⟩ : ∃ L, numsF m f = L := ⟨_, rfl⟩
    have HR : Hid (rightF m f = L.all (inB (mostF f))) := by unfold Hid rightF; rw [if_neg h2, hL]
    have HL := hid hL
    obtain ⟨hi, hhi⟩ : ∃ hi, mostF f = hi := ⟨_, rfl⟩
    rw [hhi] at HR
    have HHI := hid hhi
    clear hm hp hf hL hhi h2
    go_enter Tryd.func26, Tryd.ntmps26
    go_wp2_with (first | (go_at_call 37; have kill := V1.out; refine (numbers37 m f _ HF.out HM.out).mono ?_; rintro e w2 ⟨a2, n2, c2, rfl, m2⟩; have N2 := hid (Nu.of m2); rw [HL.out] at N2; have B2 := hid (sq L1.out m2.2); clear m2 kill V1) | (have kill := V1.out; refine ld27 V1.out rfl _ rfl rfl ?_) | (go_at_call 43; refine (mostOf43 f _ HF.out).mono ?_; rintro e w2 ⟨rfl, rfl⟩; rw [HHI.out]) | (refine bx27 rfl _ rfl rfl ?_; intro b1 w1 hb1 v1 l1; have V1 := hid v1; have L1 := hid l1; clear v1 l1))
    have hc2 := N2.out.cap
    have hm2 := N2.out.max
    go_loop [19] (fun i => ∃ k : Nat, k ≤ n2 ∧ i = .int .i64 (k : Int) ∧ (L.take k).all (inB hi) = true) (fun i => n2 - (intOf i).toNat)
    case atStart => exact ⟨0, by omega, rfl, rfl⟩
    case round =>
      obtain ⟨k, hk, rfl, hn⟩ := hrel
      have HN := hid hn
      clear hn
      by_cases hlt : k < n2
      · obtain ⟨b, o, rfl, hc⟩ := N2.out.cell k hlt
        have HS : Hid ((L.take (k + 1)).all (inB hi) = inB hi (L.getD k 0)) := by
          unfold Hid; rw [all_snoc _ _ _ (by rw [N2.out.len]; exact hlt), HN.out, Bool.true_and]
        generalize L.getD k 0 = z at *
        by_cases h0 : z < 0
        · have HT : Hid (L.all (inB hi) = false) := all_more (HS.out.trans (by unfold inB; rw [decide_eq_false (by omega)]))
          clear HS
          go_wp2
          go_ret
          exact ⟨by rw [HR.out, HT.out]; rfl, B2.out⟩
        · by_cases h1 : hi < z
          · have HT : Hid (L.all (inB hi) = false) := all_more (HS.out.trans (by unfold inB; rw [decide_eq_false (by omega)]))
            clear HS
            go_wp2
            go_ret
            exact ⟨by rw [HR.out, HT.out]; rfl, B2.out⟩
          · have HT : Hid ((L.take (k + 1)).all (inB hi) = true) := HS.out.trans (by unfold inB; rw [decide_eq_true (by omega)])
            clear HS
            go_wp2
            go_round
            case rel => exact ⟨k + 1, by omega, by go_num, HT.out⟩
            case measure => simp [intOf]; omega
      · have HT : Hid (L.all (inB hi) = true) := by
          have := HN.out; rwa [List.take_of_length_le (by rw [N2.out.len]; omega)] at this
        go_wp2
        go_ret
        exact ⟨by rw [HR.out, HT.out]; rfl, B2.out⟩
theorem nil_list : (ByteArray.mk #[]).toList = [] := by kernel_rfl
theorem pan_eq {s : ByteArray} (h : ¬ s = ⟨#[]⟩) : ¬ s.toList = [] := fun e => by
  have := ne_bytes h
  rw [e, nil_list] at this
  exact absurd this (by decide)
set_option maxHeartbeats 2000000 in
theorem isZero27 (m : Ms) (f : Int) (w : World) (hf : f ∈ tenF) (hm : m.Ok) :
    Calls Tryd.prog 27 #[m.val, .int .i64 f] w fun e w' => e = .returned (.bool (zeroF m f)) ∧ Below w.heap.size w w' := by
  have HM := hid hm
  have HF := hid hf
  by_cases h2 : f = 2
  · subst h2
    by_cases h0 : m.pan = ⟨#[]⟩
    · have HR : Hid (zeroF m 2 = true) := decide_eq_true h0
      have H0 := hid h0
      clear hm hf h0
      go_enter Tryd.func27, Tryd.ntmps27
      go_wp2_with (first | (refine bx27 rfl _ rfl rfl ?_; intro b1 w1 hb1 v1 l1; have L1 := hid l1; have cc : w1.cell? ⟨b1, 3, none⟩ = some (.string ⟨#[]⟩) := (by rw [← H0.out]; exact v1.cell 3 rfl); clear v1 l1))
      go_ret
      exact ⟨by rw [HR.out]; rfl, L1.out⟩
    · have HR : Hid (zeroF m 2 = false) := decide_eq_false h0
      obtain ⟨p, hpp⟩ : ∃ p, m.pan = p := ⟨_, rfl⟩
      have NE : Hid (¬ p.toList = []) := (by rw [← hpp]; exact pan_eq h0)
      have H0 := hid hpp
      clear hm hf h0 hpp
      go_enter Tryd.func27, Tryd.ntmps27
      go_wp2_with (first | (refine bx27 rfl _ rfl rfl ?_; intro b1 w1 hb1 v1 l1; have L1 := hid l1; have cc : w1.cell? ⟨b1, 3, none⟩ = some (.string p) := (by rw [← H0.out]; exact v1.cell 3 rfl); clear v1 l1))
      go_ret
      refine ⟨?_, L1.out⟩
      rw [HR.out]
      simp
      exact NE.out
  · have e2 : (f == 2) = false := by simpa using h2
    obtain ⟨L, hL⟩ : ∃ L, numsF m f = L := ⟨_, rfl⟩
    have HR : Hid (zeroF m f = L.all (fun v => decide (v = 0))) := by unfold Hid zeroF; rw [if_neg h2, hL]
    have HL := hid hL
    clear hm hf hL h2
    go_enter Tryd.func27, Tryd.ntmps27
    go_wp2_with (first | (go_at_call 37; have kill := V1.out; refine (numbers37 m f _ HF.out HM.out).mono ?_; rintro e w2 ⟨a2, n2, c2, rfl, m2⟩; have N2 := hid (Nu.of m2); rw [HL.out] at N2; have B2 := hid (sq L1.out m2.2); clear m2 kill V1) | (have kill := V1.out; refine ld27 V1.out rfl _ rfl rfl ?_) | (refine bx27 rfl _ rfl rfl ?_; intro b1 w1 hb1 v1 l1; have V1 := hid v1; have L1 := hid l1; clear v1 l1))
    have hc2 := N2.out.cap
    have hm2 := N2.out.max
    go_loop [16] (fun i => ∃ k : Nat, k ≤ n2 ∧ i = .int .i64 (k : Int) ∧ (L.take k).all (fun v => decide (v = 0)) = true) (fun i => n2 - (intOf i).toNat)
    case atStart => exact ⟨0, by omega, rfl, rfl⟩
    case round =>
      obtain ⟨k, hk, rfl, hn⟩ := hrel
      have HN := hid hn
      clear hn
      by_cases hlt : k < n2
      · obtain ⟨b, o, rfl, hc⟩ := N2.out.cell k hlt
        have HS : Hid ((L.take (k + 1)).all (fun v => decide (v = 0)) = decide (L.getD k 0 = 0)) := by
          unfold Hid; rw [all_snoc _ _ _ (by rw [N2.out.len]; exact hlt), HN.out, Bool.true_and]
        generalize L.getD k 0 = z at *
        by_cases h0 : z = 0
        · have HT : Hid ((L.take (k + 1)).all (fun v => decide (v = 0)) = true) := HS.out.trans (decide_eq_true h0)
          clear HS
          subst h0
          go_wp2
          go_round
          case rel => exact ⟨k + 1, by omega, by go_num, HT.out⟩
          case measure => simp [intOf]; omega
        · have HT : Hid (L.all (fun v => decide (v = 0)) = false) := all_more (HS.out.trans (decide_eq_false h0))
          have e0 : (z == 0) = false := by simpa using h0
          have e1 : (z != 0) = true := by simpa using h0
          clear HS
          go_wp2
          go_ret
          exact ⟨by rw [HR.out, HT.out]; rfl, B2.out⟩
      · have HT : Hid (L.all (fun v => decide (v = 0)) = true) := by
          have := HN.out; rwa [List.take_of_length_le (by rw [N2.out.len]; omega)] at this
        go_wp2
        go_ret
        exact ⟨by rw [HR.out, HT.out]; rfl, B2.out⟩
end Go.Proofs.YtbipikbefokihaaDoor
