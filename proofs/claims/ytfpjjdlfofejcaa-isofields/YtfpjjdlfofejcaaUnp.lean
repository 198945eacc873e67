/- Unpack, where the bytes are as many as they must be. -/
import Derived.Test.YtfpjjdlfofejcaaUn
namespace Go.Proofs.Ytfpjjdlfofejcaa
open Go.ChangeShapes Go.WideShapes Go.ChangeAt Go.RowKit

theorem Given.cell {w : World} {ao : Option Addr} {len cap : Nat} {zs : List Int} (h : Given w ao len cap zs) (i : Nat) (hi : i < len) : ∃ b o, ao = some ⟨b, o, none⟩ ∧ w.cell? ⟨b, o + i, none⟩ = some (.int .u8 (zs.getD i 0)) := by
  have := h.leq
  rcases h.row with h0 | ⟨b, o, e, hc⟩
  · subst h0; simp at this; omega
  · exact ⟨b, o, e, hc i (by omega)⟩
theorem drewN_cell (w : World) (m : Nat) (p : Addr) : (w.drewN m).cell? p = w.cell? p := by
  induction m with
  | zero => rfl
  | succ m ih => simp
theorem RowAt.drewN {w : World} {ao : Option Addr} {l : List Int} (h : RowAt w ao l) (m : Nat) : RowAt (w.drewN m) ao l := by
  rcases h with h | ⟨b, o, e, hc⟩
  · exact .inl h
  · exact .inr ⟨b, o, e, fun i hi => by rw [drewN_cell]; exact hc i hi⟩
theorem bel_drewN {B : Nat} {w w' : World} (h : Below B w w') (m : Nat) : Below B w (w'.drewN m) := by
  induction m with
  | zero => exact h
  | succ m ih => exact ih.drew
theorem sign_quiet (v : Int) (w : World) (h0 : 0 ≤ v) (h1 : v < 10) :
    Calls Try.prog 49 #[.int .u8 v] w fun e w' => e = .returned (.int .u8 (48 + v)) ∧ w' = w := (sign_any v w h0 h1).mono fun _ _ ⟨a, b⟩ => ⟨a, b.symm⟩
set_option maxHeartbeats 2000000 in
theorem unpack_fit (ao : Option Addr) (len cap : Nat) (zs : List Int) (n : Nat) (w : World) (h : Given w ao len cap zs) (hl : len ≤ 400000) (hn : len = (n + 1) / 2) :
    Calls Try.prog 43 #[.slice ao len cap, .int .i64 (n : Int)] w fun e w' => e = .returned (.tuple #[.string (unS zs n), .bool (unOk zs n)]) ∧ Below w.heap.size w w' := by
  have hn' : n ≤ 2 * len := by omega
  have HN := hid hn
  have HLQ := hid h.leq
  have hlz := h.leq
  have h0 : ¬ (n : Int) < 0 := by omega
  have h1 : ((len : Int) != (len : Int)) = false := by simp
  have hmk : ∀ w, (Instr.makeSlice 52 (.int .i64 0) (.int .i64 ((len : Int) * 2))).run Try.prog w = .ok (.slice (some ⟨w.heap.size, 0, none⟩) 0 (2 * len)) (w.alloc (.cells (madeCells #[Value.int .u8 0] (2 * len)) 5)) := by
    intro w
    obtain ⟨i0, hi, hz0, hz1, hz2⟩ := info_parts Try.info5
    have := run_make w 52 5 i0 (.int .u8 0) Try.underlying52 hi hz0 .i64 .i64 0 ((len : Int) * 2) (by omega) (by omega) (by rw [hz2]; omega) (by omega)
    rw [hz1, show ((len : Int) * 2).toNat = 2 * len by omega, Nat.mul_one] at this
    exact this
  have MK0 : Hid (Mk w (w.alloc (.cells (madeCells #[Value.int .u8 0] (2 * len)) 5)) (.slice (some ⟨w.heap.size, 0, none⟩) 0 (2 * len)) 0 []) :=
    ⟨World.ownsRow_made w _ (2 * len) (Nat.le_refl _) (by unfold maxLen; omega) (by rw [size_madeCells, Nat.mul_one]), bel1 _ _⟩
  have G := hid h
  have HCE : Hid (∀ i, i < len → ∃ b o, ao = some ⟨b, o, none⟩ ∧ w.cell? ⟨b, o + i, none⟩ = some (.int .u8 (zs.getD i 0))) := fun i hi => h.cell i hi
  have HBY := hid h.byt
  clear hn h hlz
  go_enter Try.func43, Try.ntmps43
  go_wp2_with (go_at_call 50; refine (bytesOf_at n len _ (by omega) HN.out.symm).mono ?_; rintro e w2 ⟨rfl, rfl⟩)
  go_loopw [6, 27] (fun out i wr => ∃ (k : Nat) (ao2 : Option Addr) (cap2 : Nat), k ≤ len ∧ i = .int .i64 (k : Int) ∧ out = .slice ao2 (2 * k) cap2 ∧ Mk w wr (.slice ao2 (2 * k) cap2) (2 * k) (unL (zs.take k)) ∧ nibB (zs.take k) = true) (fun _ i _ => len - (intOf i).toNat)
  case atStart => exact ⟨0, _, _, by omega, rfl, rfl, MK0.out, rfl⟩
  case round =>
    obtain ⟨k, ao2, cap2, hk, rfl, rfl, hD, hB⟩ := hrel
    have D := hid hD
    have NB := hid hB
    clear hD hB MK0
    by_cases hlt : k < len
    · obtain ⟨b, o, hao, hce⟩ := HCE.out k hlt
      subst hao
      have hlo : b < w.heap.size := World.block_lt_of_cell? w ⟨b, o + k, none⟩ hce
      have hce' := (D.out.2.cell (p := ⟨b, o + k, none⟩) hlo).trans hce
      have HLT : Hid (k < zs.length) := by unfold Hid; rw [HLQ.out]; exact hlt
      have HUN := hid (unL_snoc zs k HLT.out)
      have HNI := hid (nib_snoc zs k HLT.out)
      have hxb := byt_getD HBY.out k
      generalize zs.getD k 0 = x at *
      obtain ⟨x0, x1⟩ := hxb
      obtain ⟨u, hu, u0, u1⟩ : ∃ u, x / 16 = u ∧ 0 ≤ u ∧ u < 16 := ⟨_, rfl, by omega, by omega⟩
      obtain ⟨v, hv, v0, v1⟩ : ∃ v, x % 16 = v ∧ 0 ≤ v ∧ v < 16 := ⟨_, rfl, by omega, by omega⟩
      have e1 := u8_and15 x x0 x1
      have HTW : Hid (two x = [48 + u, 48 + v]) := by unfold Hid two; rw [hu, hv]
      have HNX : Hid (nib x = (decide (u < 10) && decide (v < 10))) := by unfold Hid nib; rw [hu, hv]
      clear hce
      by_cases hbad : u < 10 ∧ v < 10
      · obtain ⟨q0, q1⟩ := hbad
        have D3 : Hid (Mk w (wr.alloc (.cells #[.int .u8 (48 + u), .int .u8 (48 + v)] 5)) (.slice ao2 (2 * k) cap2) (2 * k) (unL (zs.take k))) := D.out.more (bel1 wr _)
        have R3 : Hid (RowAt (wr.alloc (.cells #[.int .u8 (48 + u), .int .u8 (48 + v)] 5)) (some ⟨wr.heap.size, 0, none⟩) [48 + u, 48 + v]) := (row_new wr [48 + u, 48 + v] 2 rfl (by omega)).at
        have L2 : Hid ([48 + u, 48 + v].length = 2) := rfl
        go_wp2_with (first | (at_builtin; refine app_row (l2 := [48 + u, 48 + v]) D3.out.1 R3.out L2.out (fun e => by cases e) D3.out.2.size (by omega) rfl _ _ rfl rfl rfl ?_; intro ao4 cap4 w4 r4 t4; have D4 := hid (D3.out.next r4 t4); clear r4 t4) | (go_at_call 49; refine (sign_any v _ v0 q1).mono ?_; rintro e w2 ⟨rfl, rfl⟩) | (go_at_call 49; refine (sign_any u _ u0 q0).mono ?_; rintro e w2 ⟨rfl, rfl⟩))
        go_roundw
        case rel => exact ⟨k + 1, ao4, cap4, by omega, by go_num, by go_num, by rw [HUN.out, HTW.out]; exact D4.out, by rw [HNI.out, NB.out, HNX.out, decide_eq_true q0, decide_eq_true q1]; rfl⟩
        case measure => simp [intOf]; omega
      · have HNN : Hid (unOk zs n = false) := un_nib (nib_more (k := k + 1) (by rw [HNI.out, NB.out, HNX.out]; rcases (show ¬ u < 10 ∨ ¬ v < 10 by omega) with h | h <;> rw [decide_eq_false h] <;> simp))
        have HSS := hid (unS_no HNN.out)
        by_cases q0 : u < 10
        · have q1 : ¬ v < 10 := by omega
          go_wp2
          go_ret2
          exact ⟨ret_str_bool' HSS.out.symm HNN.out.symm, D.out.2⟩
        · go_wp2
          go_ret2
          exact ⟨ret_str_bool' HSS.out.symm HNN.out.symm, D.out.2⟩
    · have hkl : k = len := by omega
      subst hkl
      have HAL : Hid (zs.take k = zs) := List.take_of_length_le (by rw [HLQ.out]; omega)
      have NB' : Hid (nibB zs = true) := by have := NB.out; rwa [HAL.out] at this
      have D' : Hid (Mk w wr (.slice ao2 (2 * k) cap2) (2 * k) (unL zs)) := by have := D.out; rwa [HAL.out] at this
      obtain ⟨hnil, hcp1, hcp2⟩ := D'.out.1.caps
      by_cases hev : 2 * k ≤ n
      · obtain rfl : n = 2 * k := by omega
        have HY := hid (un_yes (n := 2 * k) (by rw [HLQ.out]; omega) NB'.out (.inl (by rw [HLQ.out]; omega)))
        have hcv : ∀ m, (convert 52 9 (.slice ao2 (2 * k) cap2)).run Try.prog (wr.drewN m) = .ok (.string (strOfNums (unL zs))) (wr.drewN m) := fun m => run_str _ ao2 (unL zs) (2 * k) cap2 (by rw [unL_len, HLQ.out]) (D'.out.1.at.drewN m)
        clear hnil hev hn'
        go_wp2
        go_quiet (fail)
        go_wp2
        go_ret2
        exact ⟨ret_str_bool' (HY.out.2.trans (by rw [HLQ.out, Nat.sub_self, List.drop_zero])).symm HY.out.1.symm, bel_drewN D.out.2 _⟩
      · have hk1 : 1 ≤ k := by omega
        obtain rfl : n = 2 * k - 1 := by have := HN.out; omega
        have hah : (2 : Int) * (k : Int) - ((2 * k - 1 : Nat) : Int) = 1 := by omega
        obtain ⟨b, o, rfl, hce⟩ := (D'.out.given (unL_byt HBY.out)).cell 0 (by omega)
        rw [unL_head (by rw [HLQ.out]; omega)] at hce
        have hxb := byt_getD HBY.out 0
        obtain ⟨u, hu⟩ : ∃ u, zs.getD 0 0 / 16 = u := ⟨_, rfl⟩
        rw [hu, Nat.add_zero] at hce
        have ix1 : (0 : Int) < ((2 * k : Nat) : Int) := by omega
        have ix2 : (0 : Int) < 2 * (k : Int) := by omega
        have ix3 : 0 < 2 * k := by omega
        have ix4 : 0 < k := by omega
        have hcv : ∀ m, (convert 52 9 (.slice (some ⟨b, o + 1, none⟩) (2 * k - 1) (cap2 - 1))).run Try.prog (wr.drewN m) = .ok (.string (strOfNums ((unL zs).drop 1))) (wr.drewN m) := fun m => run_str _ _ ((unL zs).drop 1) (2 * k - 1) (cap2 - 1) (by rw [List.length_drop, unL_len, HLQ.out]) ((D'.out.1.at.tail 1).drewN m)
        by_cases hz : u = 0
        · have HY := hid (un_yes (n := 2 * k - 1) (by rw [HLQ.out]; omega) NB'.out (.inr (by rw [hu]; exact hz)))
          clear hnil hev hn' hxb hu
          subst hz
          go_wp2
          go_quiet ((go_at_call 49; refine Calls.quiet_of_same (sign_quiet 0 _ (by omega) (by omega))))
          go_wp2
          go_ret2
          exact ⟨ret_str_bool' (HY.out.2.trans (by rw [HLQ.out, show 2 * k - (2 * k - 1) = 1 by omega, List.drop_one])).symm HY.out.1.symm, bel_drewN D.out.2 _⟩
        · have HNN : Hid (unOk zs ((2 * k - 1 : Nat) : Int) = false) := un_odd (by rw [HLQ.out]; omega) (by rw [hu]; exact hz)
          have HSS := hid (unS_no HNN.out)
          have hz' : (48 + u != 48) = true := by simp; omega
          clear hnil hev hn' hxb hu
          go_wp2
          go_quiet ((go_at_call 49; refine Calls.quiet_of_same (sign_quiet 0 _ (by omega) (by omega))))
          go_wp2
          go_ret2
          exact ⟨ret_str_bool' HSS.out.symm HNN.out.symm, bel_drewN D.out.2 _⟩
theorem unpack_any (ao : Option Addr) (len cap : Nat) (zs : List Int) (n : Int) (w : World) (h : Given w ao len cap zs) (hl : len ≤ 400000) (hn : n ≤ 9223372036854775807) :
    Calls Try.prog 43 #[.slice ao len cap, .int .i64 n] w fun e w' => e = .returned (.tuple #[.string (unS zs n), .bool (unOk zs n)]) ∧ Below w.heap.size w w' := by
  by_cases h0 : n < 0
  · rw [unS_no (un_neg h0), un_neg h0]
    exact (unpack_neg ao len cap n w h0).mono fun _ _ ⟨a, b⟩ => ⟨a, b ▸ Below.refl _ _⟩
  obtain ⟨m, rfl⟩ : ∃ m : Nat, n = m := ⟨n.toNat, by omega⟩
  by_cases h1 : len = (m + 1) / 2
  · exact unpack_fit ao len cap zs m w h hl h1
  · have hz : ¬ zs.length = (m + 1) / 2 := by rw [h.leq]; exact h1
    rw [unS_no (un_len hz), un_len hz]
    exact (unpack_len ao len cap m w (by omega) h1).mono fun _ _ ⟨a, b⟩ => ⟨a, b ▸ Below.refl _ _⟩
end Go.Proofs.Ytfpjjdlfofejcaa
