/- For every v, n, b and zeros the function ArithBytes answers true: the bytes of a number, and the number of bytes, are the document's. -/
import Derived.Test.YtlgphfchjcpimaaSrc
import Derived.ShutString
import Derived.ChangeOld
namespace Go.Proofs.Ytlgphfchjcpimaa
open Go.ChangeShapes Go.WideShapes Go.ChangeAt Go.RowKit

theorem numberR_at (ao : Option Addr) (len cap : Nat) (zs : List Int) (w : World) (hlen : zs.length = len) (hr : RowAt w ao zs) (hb : Byt zs) (hl : len ≤ maxLen) :
    Calls Try.prog 22 #[.slice ao len cap] w fun e w' => e = .returned (.tuple #[.int .u64 (numZ zs), .bool (numB zs)]) ∧ w = w' := by
  subst hlen; exact (numberR_any ao cap zs w hr hb hl).mono fun _ _ h => ⟨h.1, h.2.symm⟩
theorem signed_at (ao : Option Addr) (len cap : Nat) (zs : List Int) (w : World) (hlen : zs.length = len) (hr : RowAt w ao zs) (hb : Byt zs) (hl : len ≤ maxLen) :
    Calls Try.prog 23 #[.slice ao len cap] w fun e w' => e = .returned (.tuple #[.int .i64 (sgnZ zs), .bool (sgnB zs)]) ∧ w = w' := by
  subst hlen; exact (signed_any ao cap zs w hr hb hl).mono fun _ _ h => ⟨h.1, h.2.symm⟩
theorem signedR_at (ao : Option Addr) (len cap : Nat) (zs : List Int) (w : World) (hlen : zs.length = len) (hr : RowAt w ao zs) (hb : Byt zs) (hl : len ≤ maxLen) :
    Calls Try.prog 24 #[.slice ao len cap] w fun e w' => e = .returned (.tuple #[.int .i64 (sgnZ zs), .bool (sgnB zs)]) ∧ w = w' := by
  subst hlen; exact (signedR_any ao cap zs w hr hb hl).mono fun _ _ h => ⟨h.1, h.2.symm⟩

/-- Block b of this world holds four slices of bytes. -/
def Four (w : World) (b : Nat) : Prop := ∀ j : Nat, j < 4 → ∃ ao len cap ys, w.cell? ⟨b, j, none⟩ = some (.slice ao len cap) ∧ ys.length = len ∧ RowAt w ao ys ∧ Byt ys ∧ len ≤ maxLen

theorem four_of (w : World) (x0 x1 x2 x3 : Option Addr) (n0 n1 n2 n3 c0 c1 c2 c3 : Nat) (y0 y1 y2 y3 : List Int) (e0 : y0.length = n0) (e1 : y1.length = n1) (e2 : y2.length = n2) (e3 : y3.length = n3)
    (r0 : RowAt w x0 y0) (r1 : RowAt w x1 y1) (r2 : RowAt w x2 y2) (r3 : RowAt w x3 y3) (b0 : Byt y0) (b1 : Byt y1) (b2 : Byt y2) (b3 : Byt y3) (m0 : n0 ≤ 1000) (m1 : n1 ≤ 1000) (m2 : n2 ≤ 1000) (m3 : n3 ≤ 1000) :
    Four (w.alloc (.cells #[.slice x0 n0 c0, .slice x1 n1 c1, .slice x2 n2 c2, .slice x3 n3 c3] 36)) w.heap.size := by
  have hb : Below w.heap.size w (w.alloc (.cells #[.slice x0 n0 c0, .slice x1 n1 c1, .slice x2 n2 c2, .slice x3 n3 c3] 36)) := (Below.refl _ _).alloc (Nat.le_refl _) _
  intro j h
  rw [World.cell?_alloc_at _ _ _ _ rfl]
  match j, h with
  | 0, _ => exact ⟨_, _, _, y0, rfl, e0, row_mono hb r0, b0, by unfold maxLen; omega⟩
  | 1, _ => exact ⟨_, _, _, y1, rfl, e1, row_mono hb r1, b1, by unfold maxLen; omega⟩
  | 2, _ => exact ⟨_, _, _, y2, rfl, e2, row_mono hb r2, b2, by unfold maxLen; omega⟩
  | 3, _ => exact ⟨_, _, _, y3, rfl, e3, row_mono hb r3, b3, by unfold maxLen; omega⟩

theorem and15 (n : Int) : bits .and .i64 n 15 = n % 16 := by
  have h : (BitVec.ofInt 64 15).toNat = 2 ^ 4 - 1 := by decide
  have key : (BitVec.ofInt 64 n &&& BitVec.ofInt 64 15).toNat = (n % ((2 ^ 64 : Nat) : Int)).toNat % 2 ^ 4 := by
    rw [BitVec.toNat_and, BitVec.toNat_ofInt, h, Nat.and_two_pow_sub_one_eq_mod]
  show IntKind.i64.wrap ((BitVec.ofInt 64 n &&& BitVec.ofInt 64 15).toNat : Nat) = n % 16
  rw [key, IntKind.wrap_i64]
  omega

set_option maxRecDepth 100000 in
set_option maxHeartbeats 4000000 in
theorem bytes_walk (a0 a1 : Int) (a2 : Option Addr) (len2 cap2 : Nat) (zs : List Int) (a3 : Int) (b0 : 0 ≤ a0) (b1 : a0 ≤ 18446744073709551615) (b2 : 0 ≤ a3)
    (hlen : zs.length = len2) (hm : len2 ≤ 100) (hbz : Byt zs) (hnil : a2 = none → len2 = 0 ∧ cap2 = 0) (w : World) (hrow : RowAt w a2 zs) :
    Calls Try.prog 4 #[.int .u64 a0, .int .i64 a1, .slice a2 len2 cap2, .int .u8 a3] w fun e w' => e = .returned (.bool true) ∧ Below w.heap.size w w' := by
  have e15 := and15 a1
  obtain ⟨z, hz⟩ : ∃ z : Nat, a3 % 9 = (z : Int) := ⟨(a3 % 9).toNat, by omega⟩
  have z1 : z < 9 := by omega
  have hm' : ¬ (100 : Int) < (len2 : Int) := by omega
  go_enter Try.func4, Try.ntmps4
  go_wp2_with (go_at_call 8; refine (known_any _).mono ?_; rintro e w1 ⟨rfl, hb1⟩)
  go_loopw [33] (fun i wr => ∃ k : Nat, k ≤ 2 ∧ i = .int .i64 k ∧ Below (w1.heap.size + 1) (w1.alloc (.cells #[.int .i64 a1, .int .i64 (a1 % 16)] 3)) wr) (fun i _ => 2 - (intOf i).toNat)
  case atStart => exact ⟨0, by omega, by simp, Below.refl _ _⟩
  case round =>
    obtain ⟨k, hk, rfl, hb2⟩ := hrel
    by_cases hlt : k < 2
    · obtain ⟨K, hc⟩ : ∃ K, wr.cell? ⟨w1.heap.size, k, none⟩ = some (.int .i64 K) := by
        rw [hb2.cell (by simp), World.cell?_alloc_at _ _ _ _ rfl]
        match k, hlt with
        | 0, _ => exact ⟨_, rfl⟩
        | 1, _ => exact ⟨_, rfl⟩
      go_wp2
      refine wp_region_noPanic ?_
      refine wp_region_held_drew (S := (fun _ => True)) (by kernel_rfl) trivial (fun hHeld => ?_)
      (refine tk_yes (v := ?_) 0 (some 37) rfl rfl (by kernel_rfl) (by kernel_rfl) (by kernel_rfl) (fun _ _ _ h => h) (by rfl) ?_ hHeld ?_; rotate_left; focus (intro w hSw; go_simp; try with_reducible rfl))
      simp only [Act.put, List.setIfInBounds_toArray, List.set_cons_zero, List.set_cons_succ]
      (refine tk_yes (v := ?_) 1 (some 38) rfl rfl (by kernel_rfl) (by kernel_rfl) (by kernel_rfl) (fun _ _ _ h => h) (by rfl) ?_ hHeld ?_; rotate_left; focus (intro w hSw; go_simp; try with_reducible rfl))
      simp only [Act.put, List.setIfInBounds_toArray, List.set_cons_zero, List.set_cons_succ]
      (refine tk_yes (v := ?_) 4 (some 41) rfl rfl (by kernel_rfl) (by kernel_rfl) (by kernel_rfl) (fun _ _ _ h => h) (by rfl) ?_ hHeld ?_; rotate_left; focus (intro w hSw; go_simp; try with_reducible rfl))
      simp only [Act.put, List.setIfInBounds_toArray, List.set_cons_zero, List.set_cons_succ]
      (refine tk_yes (v := ?_) 5 (some 42) rfl rfl (by kernel_rfl) (by kernel_rfl) (by kernel_rfl) (fun _ _ _ h => h) (by rfl) ?_ hHeld ?_; rotate_left; focus (intro w hSw; go_simp; try with_reducible rfl))
      simp only [Act.put, List.setIfInBounds_toArray, List.set_cons_zero, List.set_cons_succ]
      refine wpAnyH_ready (rs := [2]) (by kernel_rfl) (by simp) ?_
      refine AllReadyH.cons rfl (fun K' hK => ?_) AllReadyH.nil
      go_simp
      refine (bytes_any a0 K _ b0 (by omega)).mono ?_
      rintro e w2 ⟨ao1, rfl, r1, bel1⟩
      have c1 := run_str_at w2 ao1 _ (clampN K) (clampN K) (bytesL_length _ _) r1
      go_wp2
      refine hK.out _ _ trivial (fun hHeld => ?_)
      clear hK K'
      try simp only [Act.put, List.setIfInBounds_toArray, List.set_cons_zero, List.set_cons_succ]
      refine wpAnyH_ready (rs := [3, 6]) (by kernel_rfl) (by simp) ?_
      refine AllReadyH.cons rfl (fun K' hK => ?_) (AllReadyH.cons rfl (fun K' hK => ?_) AllReadyH.nil)
      ·
       go_simp
       refine hK.out _ _ trivial (fun hHeld => ?_)
       clear hK K'
       try simp only [Act.put, List.setIfInBounds_toArray, List.set_cons_zero, List.set_cons_succ]
       refine wpAnyH_ready (rs := [6]) (by kernel_rfl) (by simp) ?_
       refine AllReadyH.cons rfl (fun K' hK => ?_) AllReadyH.nil
       go_simp
       refine (put_any a0 K _ b0 (by omega)).mono ?_
       rintro e w3 ⟨ao2, rfl, r2, bel2⟩
       have c2 := run_str_at w3 ao2 _ (clampN K) (clampN K) (bytesL_length _ _) r2
       have c3 := run_str_at w3 ao1 _ (clampN K) (clampN K) (bytesL_length _ _) (row_mono bel2 r1)
       go_wp2
       refine hK.out _ _ trivial (fun hHeld => ?_)
       clear hK K'
       try simp only [Act.put, List.setIfInBounds_toArray, List.set_cons_zero, List.set_cons_succ]
       refine wpAnyH_ready (rs := [7]) (by kernel_rfl) (by simp) ?_
       refine AllReadyH.cons rfl (fun K' hK => ?_) AllReadyH.nil
       go_simp
       refine hK.out _ _ trivial (fun hHeld => ?_)
       clear hK K'
       try simp only [Act.put, List.setIfInBounds_toArray, List.set_cons_zero, List.set_cons_succ]
       (refine tk_yes (v := ?_) 8 (some 45) rfl rfl (by kernel_rfl) (by kernel_rfl) (by kernel_rfl) (fun _ _ _ h => h) (by rfl) ?_ hHeld ?_; rotate_left; focus (intro w hSw; go_simp; try with_reducible rfl))
       simp only [Act.put, List.setIfInBounds_toArray, List.set_cons_zero, List.set_cons_succ]
       refine wpAnyH_done (by kernel_rfl) ?_ _
       refine NoPanic.normal ?_
       have hB3 : Below (w1.heap.size + 1) (w1.alloc (.cells #[.int .i64 a1, .int .i64 (a1 % 16)] 3)) w3 := (hb2.drew.trans (bel1.mono (by have := hb2.size; simp at this; simpa using this))).trans (bel2.mono (by have := hb2.size; have := bel1.size; simp at *; omega))
       go_wp2
       go_roundw
       case rel => exact ⟨k + 1, by omega, by go_num, hB3⟩
       case measure => simp [intOf]; omega

      ·
       go_simp
       refine (put_any a0 K _ b0 (by omega)).mono ?_
       rintro e w3 ⟨ao2, rfl, r2, bel2⟩
       have c2 := run_str_at w3 ao2 _ (clampN K) (clampN K) (bytesL_length _ _) r2
       have c3 := run_str_at w3 ao1 _ (clampN K) (clampN K) (bytesL_length _ _) (row_mono bel2 r1)
       go_wp2
       refine hK.out _ _ trivial (fun hHeld => ?_)
       clear hK K'
       try simp only [Act.put, List.setIfInBounds_toArray, List.set_cons_zero, List.set_cons_succ]
       refine wpAnyH_ready (rs := [3, 7]) (by kernel_rfl) (by simp) ?_
       refine AllReadyH.cons rfl (fun K' hK => ?_) (AllReadyH.cons rfl (fun K' hK => ?_) AllReadyH.nil)
       ·
        go_simp
        refine hK.out _ _ trivial (fun hHeld => ?_)
        clear hK K'
        try simp only [Act.put, List.setIfInBounds_toArray, List.set_cons_zero, List.set_cons_succ]
        refine wpAnyH_ready (rs := [7]) (by kernel_rfl) (by simp) ?_
        refine AllReadyH.cons rfl (fun K' hK => ?_) AllReadyH.nil
        go_simp
        refine hK.out _ _ trivial (fun hHeld => ?_)
        clear hK K'
        try simp only [Act.put, List.setIfInBounds_toArray, List.set_cons_zero, List.set_cons_succ]
        (refine tk_yes (v := ?_) 8 (some 45) rfl rfl (by kernel_rfl) (by kernel_rfl) (by kernel_rfl) (fun _ _ _ h => h) (by rfl) ?_ hHeld ?_; rotate_left; focus (intro w hSw; go_simp; try with_reducible rfl))
        simp only [Act.put, List.setIfInBounds_toArray, List.set_cons_zero, List.set_cons_succ]
        refine wpAnyH_done (by kernel_rfl) ?_ _
        refine NoPanic.normal ?_
        have hB3 : Below (w1.heap.size + 1) (w1.alloc (.cells #[.int .i64 a1, .int .i64 (a1 % 16)] 3)) w3 := (hb2.drew.trans (bel1.mono (by have := hb2.size; simp at this; simpa using this))).trans (bel2.mono (by have := hb2.size; have := bel1.size; simp at *; omega))
        go_wp2
        go_roundw
        case rel => exact ⟨k + 1, by omega, by go_num, hB3⟩
        case measure => simp [intOf]; omega

       ·
        go_simp
        refine hK.out _ _ trivial (fun hHeld => ?_)
        clear hK K'
        try simp only [Act.put, List.setIfInBounds_toArray, List.set_cons_zero, List.set_cons_succ]
        refine wpAnyH_ready (rs := [3]) (by kernel_rfl) (by simp) ?_
        refine AllReadyH.cons rfl (fun K' hK => ?_) AllReadyH.nil
        go_simp
        refine hK.out _ _ trivial (fun hHeld => ?_)
        clear hK K'
        try simp only [Act.put, List.setIfInBounds_toArray, List.set_cons_zero, List.set_cons_succ]
        (refine tk_yes (v := ?_) 8 (some 45) rfl rfl (by kernel_rfl) (by kernel_rfl) (by kernel_rfl) (fun _ _ _ h => h) (by rfl) ?_ hHeld ?_; rotate_left; focus (intro w hSw; go_simp; try with_reducible rfl))
        simp only [Act.put, List.setIfInBounds_toArray, List.set_cons_zero, List.set_cons_succ]
        refine wpAnyH_done (by kernel_rfl) ?_ _
        refine NoPanic.normal ?_
        have hB3 : Below (w1.heap.size + 1) (w1.alloc (.cells #[.int .i64 a1, .int .i64 (a1 % 16)] 3)) w3 := (hb2.drew.trans (bel1.mono (by have := hb2.size; simp at this; simpa using this))).trans (bel2.mono (by have := hb2.size; have := bel1.size; simp at *; omega))
        go_wp2
        go_roundw
        case rel => exact ⟨k + 1, by omega, by go_num, hB3⟩
        case measure => simp [intOf]; omega


    · have hmk := run_make_row' (P := Try.prog) 36 5 (.int .u8 0) 1 Try.underlying36 Try.info5 rfl .u8 .u8 z (by omega) (by omega)
      rw [← fill_none a0 z] at hmk
      have hB1 : Below w.heap.size w wr := (hb1.alloc hb1.size _).trans (hb2.mono (by have := hb1.size; omega))
      have hrow1 := row_mono ((Below.refl wr.heap.size wr).alloc (Nat.le_refl _) (.cells (cellsOf (fillL a0 z 0)) 5)) (row_mono hB1 hrow)
      clear hb2 e15
      go_wp2_with (at_builtin; refine app_src (w := wr.alloc (.cells (cellsOf (fillL a0 z 0)) 5)) (by rfl) _ _ (by rfl) wr.heap.size wr.heap.size z a2 len2 cap2 (fillL a0 z 0) zs (by rfl) (by rfl) (heap_alloc_new wr _) (fill_length _ _ _ (by omega)) hlen hrow1 hnil (by omega) (by simp) (by omega) ?_; intro g cap w2 r2 bel2)
      refine (bytes_any a0 8 _ b0 (by omega)).mono ?_
      rintro e w3 ⟨ao3, rfl, r3, bel3⟩
      go_wp2_with fail
      refine (bytes_any a0 z _ b0 (by omega)).mono ?_
      rintro e w4 ⟨ao4, rfl, r4, bel4⟩
      have hB2 : Below w.heap.size w w2 := (hB1.alloc hB1.size _).trans (bel2.mono hB1.size)
      have hB3 : Below w.heap.size w w3 := hB2.trans (bel3.mono hB2.size)
      have hB4 : Below w.heap.size w w4 := hB3.trans (bel4.mono hB3.size)
      have b24 : Below w2.heap.size w2 w4 := bel3.trans (bel4.mono bel3.size)
      have h4 := four_of w4 a2 (some ⟨g, 0, none⟩) ao3 ao4 len2 (z + len2) (clampN 8) (clampN z) cap2 cap (clampN 8) (clampN z) zs (fillL a0 z 0 ++ zs) (bytesL a0 (clampN 8)) (bytesL a0 (clampN z))
        hlen (by rw [List.length_append, fill_length _ _ _ (by omega), hlen]) (bytesL_length _ _) (bytesL_length _ _) (row_mono hB4 hrow) (row_mono b24 r2) (row_mono bel4 r3) r4
        hbz (by rw [show fillL a0 z 0 = List.replicate z 0 by simp [fillL, bytesL]]; exact byt_zeros z zs hbz) (bytesL_byt _ _) (bytesL_byt _ _) (by omega) (by omega) (by decide) (by have := clampN_le z; omega)
      clear hrow1 r2 r3 r4 bel2 bel3 bel4 b24 hmk
      go_wp2
      go_loopw [62] (fun i wv => ∃ j : Nat, j ≤ 4 ∧ i = .int .i64 j ∧ Four wv w4.heap.size ∧ Below w.heap.size w wv) (fun i _ => 4 - (intOf i).toNat)
      case atStart => exact ⟨0, by omega, rfl, h4, hB4.alloc hB4.size _⟩
      case round =>
        obtain ⟨j, hj, rfl, h5, hB5⟩ := hrel
        by_cases hjl : j < 4
        · obtain ⟨ao, len, cp, ys, hX, hl5, hr5, hb5, hm5⟩ := h5 j hjl
          go_wp2_with (first
            | (go_at_call 21; refine (number_at _ _ _ ys _ hl5 hr5 hb5 hm5).mono ?_; rintro e w' ⟨rfl, rfl⟩)
            | (go_at_call 22; refine (numberR_at _ _ _ ys _ hl5 hr5 hb5 hm5).mono ?_; rintro e w' ⟨rfl, rfl⟩)
            | (go_at_call 23; refine (signed_at _ _ _ ys _ hl5 hr5 hb5 hm5).mono ?_; rintro e w' ⟨rfl, rfl⟩)
            | (go_at_call 24; refine (signedR_at _ _ _ ys _ hl5 hr5 hb5 hm5).mono ?_; rintro e w' ⟨rfl, rfl⟩))
          go_roundw
          case rel => exact ⟨j + 1, by omega, by go_num, h5, hB5⟩
          case measure => simp [intOf]; omega
        · go_wp2_with fail
          refine (bytes_any a0 8 _ b0 (by omega)).mono ?_
          rintro e w6 ⟨ao6, rfl, r6, bel6⟩
          have nB : numB (bytesL a0 (clampN 8)) = true := by unfold numB; rw [num_bytesL, show (2 : Int) ^ (8 * clampN 8) = 18446744073709551616 from rfl]; simp; omega
          have nZ : numZ (bytesL a0 (clampN 8)) = a0 := by unfold numZ; rw [nB, num_bytesL, show (2 : Int) ^ (8 * clampN 8) = 18446744073709551616 from rfl, if_pos rfl]; omega
          go_wp2_with (go_at_call 21; refine (number_at _ _ _ (bytesL a0 (clampN 8)) _ (bytesL_length _ _) r6 (bytesL_byt _ _) (by have := clampN_le 8; unfold maxLen; omega)).mono ?_; rintro e w' ⟨rfl, rfl⟩)
          go_ret
          exact ⟨rfl, hB5.trans (bel6.mono hB5.size)⟩

theorem bytes_long (a0 a1 : Int) (a2 : Option Addr) (len2 cap2 : Nat) (a3 : Int) (hm : 100 < len2) (hl : len2 ≤ maxLen) (w : World) :
    Calls Try.prog 4 #[.int .u64 a0, .int .i64 a1, .slice a2 len2 cap2, .int .u8 a3] w fun e w' => e = .returned (.bool true) ∧ Below w.heap.size w w' := by
  unfold maxLen at hl
  have hm' : (100 : Int) < (len2 : Int) := by omega
  go_enter Try.func4, Try.ntmps4
  go_wp2_with (go_at_call 8; refine (known_any _).mono ?_; rintro e w1 ⟨rfl, hb1⟩)
  go_ret
  exact ⟨rfl, hb1⟩

/-- What the walk is told of a slice that came in. -/
def IsRow (k : IntKind) (w : World) (a : Option Addr) (len cap : Nat) (zs : List Int) : Prop :=
  (a = none ∧ len = 0 ∧ cap = 0 ∧ zs = []) ∨
  ∃ x, a = some x ∧ len ≤ cap ∧ cap ≤ maxLen ∧ zs.length = cap ∧ (∀ i, i < zs.length → w.cell? (x.add i) = some (.int k (zs.getD i 0))) ∧ ∀ n ∈ zs, (Lit.int k n).wf = true

theorem bytes_all (a0 a1 : Int) (a2 : Option Addr) (len2 cap2 : Nat) (z2 : List Int) (a3 : Int) (w : World) (w0 : (Lit.int .u64 a0).wf = true) (w2 : IsRow .u8 w a2 len2 cap2 z2) (w3 : (Lit.int .u8 a3).wf = true) :
    Calls Try.prog 4 #[.int .u64 a0, .int .i64 a1, .slice a2 len2 cap2, .int .u8 a3] w fun e w' => e = .returned (.bool true) ∧ Below w.heap.size w w' := by
  have c0 := bounds_u64 w0
  have c3 := bounds_u8 w3
  rcases w2 with ⟨rfl, rfl, rfl, rfl⟩ | ⟨x, rfl, hl, hm, hz, hcell, hwz⟩
  · exact bytes_walk a0 a1 none 0 0 [] a3 c0.1 c0.2 c3.1 rfl (by omega) (fun x hx => by simp at hx) (fun _ => ⟨rfl, rfl⟩) w (.inl rfl)
  · by_cases h100 : 100 < len2
    · exact bytes_long a0 a1 _ len2 cap2 a3 h100 (by omega) w
    · have hlen : (z2.take len2).length = len2 := by rw [List.length_take]; omega
      have hb : Byt (z2.take len2) := by
        intro y hy
        have := bounds_u8 (hwz y (List.mem_of_mem_take hy))
        omega
      refine bytes_walk a0 a1 (some x) len2 cap2 (z2.take len2) a3 c0.1 c0.2 c3.1 hlen (by omega) hb (fun h => by simp at h) w ?_
      by_cases h0 : len2 = 0
      · subst h0; exact .inl (by simp)
      · obtain ⟨b, off, spot⟩ := x
        have hc := hcell 0 (by omega)
        have hspot : spot = none := by simpa [Addr.add] using World.cell?_spot hc
        subst hspot
        refine .inr ⟨b, off, rfl, fun i hi => ?_⟩
        rw [hlen] at hi
        have := hcell i (by omega)
        have e : (⟨b, off, none⟩ : Addr).add i = ⟨b, off + i, none⟩ := by simp [Addr.add]
        rw [e] at this
        rw [this]
        simp [hi]

theorem arithBytes_own : ownKnob Try.prog.godebug = none := by kernel_rfl
theorem arithBytes_laid : laidOutB Try.prog = true := by kernel_rfl

set_option maxRecDepth 100000 in
theorem arithBytes_lifted (os : Os) (started : os.Started) (H : Type) (enc : TypeId × Value → H) :
    ReturnsInHanded {} Try.checked os 4 .any (Rows.arithBytesSpec.pre6 enc Try.prog Try.f4 Rows.arithBytesRow.domain false) (Rows.arithBytesSpec.post enc Try.prog Try.f4 false true false false) := by
  refine returnsInHanded_of_change (C := Try.checked) arithBytes_own started (by kernel_rfl) Try.func4
    (ChangeSpec.witness6 (enc := enc) (C := Try.checked) false ⟨#[], #[.int .u64 0, .int .i64 0, .slice none 0 0, .int .u8 0], []⟩ 8 (by kernel_rfl) (by kernel_rfl) (by kernel_rfl) (by kernel_rfl)) ?_
  intro W base args ds gs before hval0 hW hcnd _
  have hval : ∀ (j : Nat) t v, Try.f4.params[j]? = some t → args[j]? = some v → Value.okWide Try.prog W .any base t v := hval0
  have hW' := hW
  obtain ⟨p, q, hA0, hV, rfl, hfz, hnd⟩ := hW
  have hA : DataW.TrodAll enc Try.prog W 0 (fun _ => true) true Try.f4.params.toList args.toList ds p := hA0
  rw [Try.params4] at hA hval
  obtain ⟨v0, vs0, d0, ds0, p0, q0, hargs, rfl, rfl, h0, r0⟩ := trodAll_cons hA
  obtain ⟨v1, vs1, d1, ds1, p1, q1, rfl, rfl, rfl, h1, r1⟩ := trodAll_cons r0
  obtain ⟨v2, vs2, d2, ds2, p2, q2, rfl, rfl, rfl, h2, r2⟩ := trodAll_cons r1
  obtain ⟨v3, vs3, d3, ds3, p3, q3, rfl, rfl, rfl, h3, r3⟩ := trodAll_cons r2
  obtain ⟨rfl, rfl, rfl⟩ := trodAll_nil r3
  obtain rfl : args = #[v0, v1, v2, v3] := by cases args; simp_all
  obtain ⟨rfl, rfl⟩ := trodVars_none hV
  obtain ⟨a0, rfl, rfl, rfl, w0⟩ := open_int Try.underlying22 (hval 0 22 v0 rfl rfl) h0
  obtain ⟨a1, rfl, rfl, rfl, w1⟩ := open_int Try.underlying3 (hval 1 3 v1 rfl rfl) h1
  obtain ⟨a2, len2, cap2, rfl⟩ := okWide_slice Try.underlying36 (hval 2 36 v2 rfl rfl)
  have k2 := h2
  have lt2 : ∀ x ∈ p2, x.block < W.heap.size := by obtain ⟨m, hm⟩ := k2; exact DataW.trod_lt m _ _ _ hm
  obtain ⟨z2, w2⟩ : ∃ zs, IsRow .u8 W a2 len2 cap2 zs := by
    obtain ⟨fuel, hf⟩ := h2
    rcases open_ints Try.underlying36 Try.underlying5 (by kernel_rfl) hf with ⟨hcs, _⟩ | ⟨x, l, c, zs, hcs, _, hl, hm, hz, _, hcell, hwz⟩
    · simp [Value.cells] at hcs
      obtain ⟨rfl, rfl, rfl⟩ := hcs
      exact ⟨[], .inl ⟨rfl, rfl, rfl, rfl⟩⟩
    · simp [Value.cells] at hcs
      obtain ⟨rfl, rfl, rfl⟩ := hcs
      exact ⟨zs, .inr ⟨_, rfl, hl, hm, by simpa using hz, hcell, hwz⟩⟩
  obtain ⟨a3, rfl, rfl, rfl, w3⟩ := open_int Try.underlying5 (hval 3 5 v3 rfl rfl) h3
  clear hA0 hval0
  refine (bytes_all a0 a1 a2 len2 cap2 z2 a3 W w0 w2 w3).mono fun e W' ⟨he, bel⟩ => ?_
  subst he
  exact ⟨_, rfl, _, _, _, [], _, [], hW', trodAll_mk1 (shut_bool Try.underlying4 _), (trodAll_cons_mk (shut_int Try.underlying22 w0) (trodAll_cons_mk (shut_int Try.underlying3 w1) (trodAll_cons_mk (Below.trod arithBytes_laid (by kernel_rfl) (of_decide_eq_true (by kernel_rfl)) k2 bel lt2) (trodAll_cons_mk (shut_int Try.underlying5 w3) trodAll_mk0)))), rfl, bel.frame _, fun h => by cases h⟩

theorem arithBytes_over : Rows.arithBytesRow.holds Try.pinned (OpenSpec.ofChange Rows.arithBytesSpec) :=
  OpenClaim.holds_of_wide 4 Try.f4 rfl rfl rfl rfl rfl rfl rfl ⟨rfl, rfl, rfl, rfl, rfl⟩ rfl rfl rfl rfl rfl (by kernel_rfl) Try.func4 (by kernel_rfl)
    (of_decide_eq_true (by kernel_rfl)) (by unfold Func.isWrapper; first | (rw [if_pos (by decide +kernel)]; kernel_rfl) | (rw [if_neg (by decide +kernel)]; exact ⟨rfl, rfl⟩))
    (fun os started H enc _ => arithBytes_lifted os started H enc)

/-- The statement. -/
theorem arithBytes_holds : Rows.ArithBytesSaid := arithBytes_over
#print axioms arithBytes_holds
end Go.Proofs.Ytlgphfchjcpimaa
