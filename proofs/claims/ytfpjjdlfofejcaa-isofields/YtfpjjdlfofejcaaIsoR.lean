/- Which messages are right, by the document. -/
import Derived.Test.YtfpjjdlfofejcaaRightR
import Derived.Test.YtfpjjdlfofejcaaUnp
import Derived.BigQuiet
import Derived.Deep.QuietTactic
namespace Go.Proofs.Ytfpjjdlfofejcaa
open Go.ChangeShapes Go.WideShapes Go.ChangeAt Go.RowKit

theorem isoR_no (m : Int) (ao : Option Addr) (len cap : Nat) (w : World) (h0 : -9223372036854775808 ≤ m) (h1 : m ≤ 9223372036854775807) (ht : typB m = false) :
    Calls Try.prog 17 #[.agg #[.int .i64 m, .slice ao len cap]] w fun e w' => e = .returned (.bool false) ∧ Below w.heap.size w w' := by
  rw [typ_rep m h0 h1, Bool.or_eq_false_iff] at ht
  have B1 := hid (bel1 w (.cells #[.int .i64 m, .slice ao len cap] 24))
  obtain ⟨p, hp⟩ : ∃ p, wrap64 (m - 10) = p := ⟨_, rfl⟩
  rw [hp] at ht
  have HA := hid ht.1
  have HB := hid ht.2
  clear ht h0 h1
  go_enter Try.func17, Try.ntmps17
  go_wp2_with (first | (go_at_call 16; have kill := LA.out; refine (reply16 p _).mono ?_; rintro e w2 ⟨rfl, rfl⟩; rw [HB.out]; have LB := LA; clear LA kill) | (go_at_call 16; refine (reply16 m _).mono ?_; rintro e w2 ⟨rfl, rfl⟩; rw [HA.out]; have LA := hid True.intro))
  go_ret
  exact ⟨rfl, B1.out⟩
set_option maxHeartbeats 4000000 in
theorem isoR_yes (m : Int) (ao : Option Addr) (len cap : Nat) (l : List Fd) (w : World) (h : FG w ao len cap l) (h0 : -9223372036854775808 ≤ m) (h1 : m ≤ 9223372036854775807) (ht : typB m = true) (a b : Bool) (ha : repB m = a) (hb : repB (wrap64 (m - 10)) = b) :
    Calls Try.prog 17 #[.agg #[.int .i64 m, .slice ao len cap]] w fun e w' => e = .returned (.bool (rightsL l 1)) ∧ Below w.heap.size w w' := by
  rw [typ_rep m h0 h1, ha, hb] at ht
  have hl := h.lt
  have HQ := hid h.leq
  have HC := hid h.fc
  have II := hid (IB.new w m (.slice ao len cap))
  have B1 := hid (bel1 w (.cells #[.int .i64 m, .slice ao len cap] 24))
  obtain ⟨p, hp⟩ : ∃ p, wrap64 (m - 10) = p := ⟨_, rfl⟩
  rw [hp] at hb
  have HA := hid ha
  have HB := hid hb
  clear h0 h1 ha hb h
  have hab : (!a && !b) = false := by cases a <;> cases b <;> simp_all
  have HT := hid ht
  clear ht
  cases a
  · cases b
    · exact absurd HT.out (by decide)
    · go_enter Try.func17, Try.ntmps17
      go_wp2_with (first | (go_at_call 16; have kill := LA.out; refine (reply16 p _).mono ?_; rintro e w2 ⟨rfl, rfl⟩; rw [HB.out]; have LB := LA; clear LA kill) | (go_at_call 16; refine (reply16 m _).mono ?_; rintro e w2 ⟨rfl, rfl⟩; rw [HA.out]; have LA := hid True.intro))
      go_loopw [7, 8] (fun la i wr => ∃ (k : Nat) (z : Int), k ≤ len ∧ i = .int .i64 (k : Int) ∧ la = .int .i64 z ∧ rightsL (l.drop k) z = rightsL l 1 ∧ IB wr w.heap.size m (.slice ao len cap) ∧ Below w.heap.size w wr) (fun _ i _ => len - (intOf i).toNat)
      case atStart => exact ⟨0, 1, by omega, rfl, rfl, rfl, II.out, B1.out⟩
      case round =>
        obtain ⟨k, z, hk, rfl, rfl, he, hi, hbel⟩ := hrel
        have E := hid he
        have B2 := hid hbel
        have I1 := hid hi
        obtain ⟨_, i1⟩ := hi
        clear he hbel II B1
        by_cases hlt : k < len
        · obtain ⟨r, hr, hok, b0, o, rfl, c0, c1⟩ := HC.out.more B2.out k hlt
          have HS := hid (E.out.symm.trans (rights_step z hr))
          have HV := hid hok.2.2
          clear hok
          obtain ⟨N, V⟩ := r
          simp only at c0 c1 HV
          by_cases hN : N ≤ z
          · have HF : Hid (rightsL l 1 = false) := by unfold Hid; rw [HS.out, show decide (z < N) = false from decide_eq_false (by omega)]; rfl
            clear HS E hr
            go_wp2
            go_quiet (fail)
            go_wp2
            go_ret
            exact ⟨ret_bool HF.out.symm, bel_drewN B2.out _⟩
          · have hNd : decide (N ≤ z) = false := decide_eq_false hN
            have S2 : Hid (wr.drew.cell? ⟨w.heap.size, 1, none⟩ = some (.slice (some ⟨b0, o, none⟩) len cap) ∧ wr.drew.cell? ⟨b0, o + k * 2, none⟩ = some (.int .i64 N) ∧ wr.drew.cell? ⟨b0, o + k * 2 + 1, none⟩ = some (.string V)) := ⟨i1, c0, c1⟩
            cases hR : rightB N V
            · have HF : Hid (rightsL l 1 = false) := by unfold Hid; rw [HS.out, show decide (z < N) = true from decide_eq_true (by omega), hR]; rfl
              have HRB := hid hR
              clear HS E hr hR
              go_wp2
              go_region_held3 (fun w' => w'.cell? ⟨w.heap.size, 1, none⟩ = some (.slice (some ⟨b0, o, none⟩) len cap) ∧ w'.cell? ⟨b0, o + k * 2, none⟩ = some (.int .i64 N) ∧ w'.cell? ⟨b0, o + k * 2 + 1, none⟩ = some (.string V)) ((first | exact S3.out | exact S2.out)) ((go_at_call 24; refine (right24 N V _ HV.out).mono ?_; rintro e w2 ⟨rfl, l2⟩; rw [HRB.out]; have B3 := hid (sq B2.out.drew l2); have S3 : Hid (w2.cell? ⟨w.heap.size, 1, none⟩ = some (.slice (some ⟨b0, o, none⟩) len cap) ∧ w2.cell? ⟨b0, o + k * 2, none⟩ = some (.int .i64 N) ∧ w2.cell? ⟨b0, o + k * 2 + 1, none⟩ = some (.string V)) := ⟨(l2.cell (World.block_lt_of_cell? wr.drew _ S2.out.1)).trans S2.out.1, (l2.cell (World.block_lt_of_cell? wr.drew _ S2.out.2.1)).trans S2.out.2.1, (l2.cell (World.block_lt_of_cell? wr.drew _ S2.out.2.2)).trans S2.out.2.2⟩; have l3 := hid (show Below wr.heap.size wr w2 from (Below.refl _ wr).drew.trans l2); clear l2))
              go_wp2
              go_ret
              exact ⟨ret_bool HF.out.symm, B3.out⟩
            · have HF : Hid (rightsL (l.drop (k + 1)) N = rightsL l 1) := by unfold Hid; rw [HS.out, show decide (z < N) = true from decide_eq_true (by omega), hR]; simp
              have HRB := hid hR
              clear HS E hr hR
              go_wp2
              go_region_held3 (fun w' => w'.cell? ⟨w.heap.size, 1, none⟩ = some (.slice (some ⟨b0, o, none⟩) len cap) ∧ w'.cell? ⟨b0, o + k * 2, none⟩ = some (.int .i64 N) ∧ w'.cell? ⟨b0, o + k * 2 + 1, none⟩ = some (.string V)) ((first | exact S3.out | exact S2.out)) ((go_at_call 24; refine (right24 N V _ HV.out).mono ?_; rintro e w2 ⟨rfl, l2⟩; rw [HRB.out]; have B3 := hid (sq B2.out.drew l2); have S3 : Hid (w2.cell? ⟨w.heap.size, 1, none⟩ = some (.slice (some ⟨b0, o, none⟩) len cap) ∧ w2.cell? ⟨b0, o + k * 2, none⟩ = some (.int .i64 N) ∧ w2.cell? ⟨b0, o + k * 2 + 1, none⟩ = some (.string V)) := ⟨(l2.cell (World.block_lt_of_cell? wr.drew _ S2.out.1)).trans S2.out.1, (l2.cell (World.block_lt_of_cell? wr.drew _ S2.out.2.1)).trans S2.out.2.1, (l2.cell (World.block_lt_of_cell? wr.drew _ S2.out.2.2)).trans S2.out.2.2⟩; have l3 := hid (show Below wr.heap.size wr w2 from (Below.refl _ wr).drew.trans l2); clear l2))
              obtain ⟨q1, q2, _⟩ := S3.out
              have J3 := hid (I1.out.more (show Below wr.heap.size wr w2 from l3.out))
              go_wp2
              go_roundw
              case rel => exact ⟨k + 1, N, by omega, by go_num, rfl, HF.out, J3.out, B3.out⟩
              case measure => simp [intOf]; omega
        · have HF : Hid (rightsL l 1 = true) := by unfold Hid; rw [← E.out, drop_end (by rw [HQ.out]; omega)]; rfl
          clear E
          go_wp2
          go_ret
          exact ⟨ret_bool HF.out.symm, B2.out⟩
  · go_enter Try.func17, Try.ntmps17
    go_wp2_with (first | (go_at_call 16; have kill := LA.out; refine (reply16 p _).mono ?_; rintro e w2 ⟨rfl, rfl⟩; rw [HB.out]; have LB := LA; clear LA kill) | (go_at_call 16; refine (reply16 m _).mono ?_; rintro e w2 ⟨rfl, rfl⟩; rw [HA.out]; have LA := hid True.intro))
    go_loopw [7, 8] (fun la i wr => ∃ (k : Nat) (z : Int), k ≤ len ∧ i = .int .i64 (k : Int) ∧ la = .int .i64 z ∧ rightsL (l.drop k) z = rightsL l 1 ∧ IB wr w.heap.size m (.slice ao len cap) ∧ Below w.heap.size w wr) (fun _ i _ => len - (intOf i).toNat)
    case atStart => exact ⟨0, 1, by omega, rfl, rfl, rfl, II.out, B1.out⟩
    case round =>
      obtain ⟨k, z, hk, rfl, rfl, he, hi, hbel⟩ := hrel
      have E := hid he
      have B2 := hid hbel
      have I1 := hid hi
      obtain ⟨_, i1⟩ := hi
      clear he hbel II B1
      by_cases hlt : k < len
      · obtain ⟨r, hr, hok, b0, o, rfl, c0, c1⟩ := HC.out.more B2.out k hlt
        have HS := hid (E.out.symm.trans (rights_step z hr))
        have HV := hid hok.2.2
        clear hok
        obtain ⟨N, V⟩ := r
        simp only at c0 c1 HV
        by_cases hN : N ≤ z
        · have HF : Hid (rightsL l 1 = false) := by unfold Hid; rw [HS.out, show decide (z < N) = false from decide_eq_false (by omega)]; rfl
          clear HS E hr
          go_wp2
          go_quiet (fail)
          go_wp2
          go_ret
          exact ⟨ret_bool HF.out.symm, bel_drewN B2.out _⟩
        · have hNd : decide (N ≤ z) = false := decide_eq_false hN
          have S2 : Hid (wr.drew.cell? ⟨w.heap.size, 1, none⟩ = some (.slice (some ⟨b0, o, none⟩) len cap) ∧ wr.drew.cell? ⟨b0, o + k * 2, none⟩ = some (.int .i64 N) ∧ wr.drew.cell? ⟨b0, o + k * 2 + 1, none⟩ = some (.string V)) := ⟨i1, c0, c1⟩
          cases hR : rightB N V
          · have HF : Hid (rightsL l 1 = false) := by unfold Hid; rw [HS.out, show decide (z < N) = true from decide_eq_true (by omega), hR]; rfl
            have HRB := hid hR
            clear HS E hr hR
            go_wp2
            go_region_held3 (fun w' => w'.cell? ⟨w.heap.size, 1, none⟩ = some (.slice (some ⟨b0, o, none⟩) len cap) ∧ w'.cell? ⟨b0, o + k * 2, none⟩ = some (.int .i64 N) ∧ w'.cell? ⟨b0, o + k * 2 + 1, none⟩ = some (.string V)) ((first | exact S3.out | exact S2.out)) ((go_at_call 24; refine (right24 N V _ HV.out).mono ?_; rintro e w2 ⟨rfl, l2⟩; rw [HRB.out]; have B3 := hid (sq B2.out.drew l2); have S3 : Hid (w2.cell? ⟨w.heap.size, 1, none⟩ = some (.slice (some ⟨b0, o, none⟩) len cap) ∧ w2.cell? ⟨b0, o + k * 2, none⟩ = some (.int .i64 N) ∧ w2.cell? ⟨b0, o + k * 2 + 1, none⟩ = some (.string V)) := ⟨(l2.cell (World.block_lt_of_cell? wr.drew _ S2.out.1)).trans S2.out.1, (l2.cell (World.block_lt_of_cell? wr.drew _ S2.out.2.1)).trans S2.out.2.1, (l2.cell (World.block_lt_of_cell? wr.drew _ S2.out.2.2)).trans S2.out.2.2⟩; have l3 := hid (show Below wr.heap.size wr w2 from (Below.refl _ wr).drew.trans l2); clear l2))
            go_wp2
            go_ret
            exact ⟨ret_bool HF.out.symm, B3.out⟩
          · have HF : Hid (rightsL (l.drop (k + 1)) N = rightsL l 1) := by unfold Hid; rw [HS.out, show decide (z < N) = true from decide_eq_true (by omega), hR]; simp
            have HRB := hid hR
            clear HS E hr hR
            go_wp2
            go_region_held3 (fun w' => w'.cell? ⟨w.heap.size, 1, none⟩ = some (.slice (some ⟨b0, o, none⟩) len cap) ∧ w'.cell? ⟨b0, o + k * 2, none⟩ = some (.int .i64 N) ∧ w'.cell? ⟨b0, o + k * 2 + 1, none⟩ = some (.string V)) ((first | exact S3.out | exact S2.out)) ((go_at_call 24; refine (right24 N V _ HV.out).mono ?_; rintro e w2 ⟨rfl, l2⟩; rw [HRB.out]; have B3 := hid (sq B2.out.drew l2); have S3 : Hid (w2.cell? ⟨w.heap.size, 1, none⟩ = some (.slice (some ⟨b0, o, none⟩) len cap) ∧ w2.cell? ⟨b0, o + k * 2, none⟩ = some (.int .i64 N) ∧ w2.cell? ⟨b0, o + k * 2 + 1, none⟩ = some (.string V)) := ⟨(l2.cell (World.block_lt_of_cell? wr.drew _ S2.out.1)).trans S2.out.1, (l2.cell (World.block_lt_of_cell? wr.drew _ S2.out.2.1)).trans S2.out.2.1, (l2.cell (World.block_lt_of_cell? wr.drew _ S2.out.2.2)).trans S2.out.2.2⟩; have l3 := hid (show Below wr.heap.size wr w2 from (Below.refl _ wr).drew.trans l2); clear l2))
            obtain ⟨q1, q2, _⟩ := S3.out
            have J3 := hid (I1.out.more (show Below wr.heap.size wr w2 from l3.out))
            go_wp2
            go_roundw
            case rel => exact ⟨k + 1, N, by omega, by go_num, rfl, HF.out, J3.out, B3.out⟩
            case measure => simp [intOf]; omega
      · have HF : Hid (rightsL l 1 = true) := by unfold Hid; rw [← E.out, drop_end (by rw [HQ.out]; omega)]; rfl
        clear E
        go_wp2
        go_ret
        exact ⟨ret_bool HF.out.symm, B2.out⟩
theorem isoR17 (m : Int) (ao : Option Addr) (len cap : Nat) (l : List Fd) (w : World) (h : FG w ao len cap l) (h0 : -9223372036854775808 ≤ m) (h1 : m ≤ 9223372036854775807) :
    Calls Try.prog 17 #[.agg #[.int .i64 m, .slice ao len cap]] w fun e w' => e = .returned (.bool (rightM m l)) ∧ Below w.heap.size w w' := by
  unfold rightM
  cases ht : typB m
  · exact isoR_no m ao len cap w h0 h1 ht
  · rw [Bool.true_and, ← rights_one]
    exact isoR_yes m ao len cap l w h h0 h1 ht _ _ rfl rfl
end Go.Proofs.Ytfpjjdlfofejcaa
