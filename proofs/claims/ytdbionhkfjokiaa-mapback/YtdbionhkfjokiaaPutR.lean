/- The reference's Put. -/
import Derived.Test.YtdbionhkfjokiaaPuts
namespace Go.Proofs.Ytdbionhkfjokiaa
open Go.ChangeShapes Go.WideShapes Go.ChangeAt Go.RowKit

theorem or_top (a : Int) (h0 : 0 ≤ a) (h1 : a < 256) : bits .or .u8 a 128 = if a / 2 ^ 7 % 2 = 1 then a else a + 2 ^ 7 := or_bit a 7 h0 h1 (by decide)
theorem shr128 (r : Nat) (h : r < 8) : (128 : Int) / 2 ^ r = 2 ^ (7 - r) := by
  have hr : r = 0 ∨ r = 1 ∨ r = 2 ∨ r = 3 ∨ r = 4 ∨ r = 5 ∨ r = 6 ∨ r = 7 := by omega
  rcases hr with rfl | rfl | rfl | rfl | rfl | rfl | rfl | rfl <;> decide
/-- What the reference lays. -/
theorem putR_row (zs : List Int) (w : World) (C : Array Value) (hC : C = cellsOf (bm (if sizeL zs = 16 then ins 1 (memP zs) else memP zs) 16)) :
    RowAt (w.alloc (.cells C 5)) (some ⟨w.heap.size, 0, none⟩) (putL zs) := by
  subst hC
  have h := (row_new w (bm (if sizeL zs = 16 then ins 1 (memP zs) else memP zs) 16) 16 (bm_len _ _) (by omega)).at
  have h2 := h.piece 0 (sizeL zs) (by rw [bm_len]; rcases size_or zs with ⟨_, e⟩ | ⟨_, e⟩ <;> omega)
  have e : pc (bm (if sizeL zs = 16 then ins 1 (memP zs) else memP zs) 16) 0 (sizeL zs) = putL zs := by
    unfold pc
    rw [List.drop_zero, bm_take _ (by rcases size_or zs with ⟨_, e⟩ | ⟨_, e⟩ <;> omega)]; rfl
  rw [e] at h2; exact h2
set_option maxHeartbeats 2000000 in
theorem putR_any (ao : Option Addr) (len cap : Nat) (zs : List Int) (w : World) (h : I.Given w ao len cap zs) :
    Calls Try.prog 8 #[.slice ao len cap] w fun e w' => (riseL zs 1 = true ∧ e = .returned (.tuple #[.slice (some ⟨w.heap.size, 0, none⟩) (sizeL zs) 16, .bool true]) ∧ RowAt w' (some ⟨w.heap.size, 0, none⟩) (putL zs) ∧ Below w.heap.size w w')
      ∨ (riseL zs 1 = false ∧ e = .returned (.tuple #[.slice none 0 0, .bool false]) ∧ Below w.heap.size w w') := by
  have hl : len ≤ 9223372036854775807 := Nat.le_trans h.cap1 h.cap2
  have HC : Hid (∀ i, i < len → ∃ b o, ao = some ⟨b, o, none⟩ ∧ w.cell? ⟨b, o + i, none⟩ = some (.int .i64 (zs.getD i 0))) := fun i hi => h.cell i hi
  have HQ := hid h.leq
  clear h
  have hmk := run_make_row' (P := Try.prog) 25 5 (.int .u8 0) 1 Try.underlying25 Try.info5 rfl .i64 .i64 16 (by omega) (by omega)
  rw [← bm_zero, show ((16 : Nat) : Int) = 16 from rfl] at hmk
  go_enter Try.func8, Try.ntmps8
  go_wp2
  go_loopw [5, 6] (fun last i wr => ∃ (k : Nat) (y : Int), k ≤ len ∧ i = .int .i64 (k : Int) ∧ last = .int .i64 y ∧ 1 ≤ y ∧ y ≤ 128 ∧ y = lastL (zs.take k) ∧ riseL zs 1 = riseL (zs.drop k) y ∧ ∃ w1 : World, w1.heap.size = w.heap.size ∧ Below w.heap.size w w1 ∧ wr = w1.alloc (.cells (cellsOf (bm (memP (zs.take k)) 16)) 5)) (fun _ i _ => len - (intOf i).toNat)
  case atStart => exact ⟨0, 1, by omega, rfl, rfl, by omega, by omega, rfl, rfl, w, rfl, Below.refl _ _, by rw [List.take_zero, memP_nil]⟩
  case round =>
    obtain ⟨k, y, hk, rfl, rfl, y0, y1, hy, hr, w1, hs, hb1, rfl⟩ := hrel
    have B1 := hid hb1
    have HS1 := hid hs
    rw [← hs]
    clear hb1 hs
    have R := hid hr
    have HY := hid hy
    clear hr hy
    by_cases hlt : k < len
    · have HS : Hid (riseL (zs.drop k) y = (decide (y < zs.getD k 0 ∧ zs.getD k 0 ≤ 128) && riseL (zs.drop (k + 1)) (zs.getD k 0))) := rise_step zs k y (by rw [HQ.out]; exact hlt)
      have HL : Hid (lastL (zs.take (k + 1)) = zs.getD k 0) := last_take zs k (by rw [HQ.out]; exact hlt)
      have HMS : Hid (∀ x : Nat, zs.getD k 0 = (x : Int) → memP (zs.take (k + 1)) = ins x (memP (zs.take k))) := fun x hx => memP_snoc zs k x (by rw [HQ.out]; exact hlt) hx
      obtain ⟨b, o, rfl, hc⟩ := HC.out k hlt
      generalize zs.getD k 0 = xx at *
      generalize memP (zs.take k) = P at *
      have hc' := ((B1.out.alloc (o := .cells (cellsOf (bm P 16)) 5) (by rw [HS1.out]; exact Nat.le_refl _)).cell (p := ⟨b, o + k, none⟩) (World.block_lt_of_cell? w ⟨b, o + k, none⟩ hc)).trans hc
      clear hc
      by_cases h1 : xx ≤ y
      · have HF : Hid (riseL zs 1 = false) := by unfold Hid; rw [R.out, HS.out, decide_eq_false (by omega)]; rfl
        go_wp2
        go_ret2
        exact .inr ⟨HF.out, rfl, B1.out.alloc (by rw [HS1.out]; exact Nat.le_refl _) _⟩
      · by_cases h2 : 128 < xx
        · have HF : Hid (riseL zs 1 = false) := by unfold Hid; rw [R.out, HS.out, decide_eq_false (by omega)]; rfl
          go_wp2
          go_ret2
          exact .inr ⟨HF.out, rfl, B1.out.alloc (by rw [HS1.out]; exact Nat.le_refl _) _⟩
        · have HT : Hid (riseL zs 1 = riseL (zs.drop (k + 1)) xx) := by unfold Hid; rw [R.out, HS.out, decide_eq_true (by omega)]; rfl
          obtain ⟨x, rfl⟩ : ∃ x : Nat, xx = x := ⟨xx.toNat, by omega⟩
          have HM := hid (HMS.out x rfl)
          have x0 : 2 ≤ x := by omega
          have x1 : x ≤ 128 := by omega
          obtain ⟨j, hj⟩ : ∃ j, (x - 1) / 8 = j := ⟨_, rfl⟩
          obtain ⟨r, hr⟩ : ∃ r, (x - 1) % 8 = r := ⟨_, rfl⟩
          have r1 : r < 8 := by omega
          have hjm : j < 16 := by omega
          have HST : Hid (∀ v, v = byteP (ins x P) j → (cellsOf (bm P 16)).setIfInBounds j (.int .u8 v) = cellsOf (bm (ins x P) 16)) := by
            intro v hv; rw [hv, ← hj]; exact bm_set P 16 x (by omega)
          have hb := byteP_ins P j r r1
          rw [show 8 * j + r + 1 = x by omega] at hb
          have hu := bm_cell P hjm
          have hsz : (cellsOf (bm P 16)).size = 16 := by rw [cells_size, bm_len]
          obtain ⟨z0, z1⟩ := byteP_range P j
          have ho := or_bit _ (7 - r) z0 z1 (by omega)
          rw [← hb] at ho
          have hp := shr128 r r1
          have e4 : ((x : Int) - 1).tdiv 8 = (j : Int) := by rw [Int.tdiv_eq_ediv_of_nonneg (by omega)]; omega
          have e5 : ((x : Int) - 1).tmod 8 = (r : Int) := by rw [Int.tmod_eq_emod_of_nonneg (by omega)]; omega
          have e6 : ((x : Int) - 1) / 8 = (j : Int) := by omega
          have e7 : ((x : Int) - 1) % 8 = (r : Int) := by omega
          generalize cellsOf (bm P 16) = C at *
          generalize byteP P j = z at *
          have hge : C[j]'(by omega) = .int .u8 z := by obtain ⟨_, h⟩ := Array.getElem?_eq_some_iff.1 hu; exact h
          generalize byteP (ins x P) j = zz at *
          clear hj hr hb hu
          have f1 : IntKind.i64.wrap ((x : Int) - 1) = (x : Int) - 1 := by rw [IntKind.wrap_i64]; omega
          have f2 : IntKind.i64.wrap (j : Int) = (j : Int) := by rw [IntKind.wrap_i64]; omega
          have f3 : IntKind.i64.wrap (r : Int) = (r : Int) := by rw [IntKind.wrap_i64]; omega
          go_wp2
          go_region
          go_wp2
          go_roundw
          case rel => exact ⟨k + 1, x, by omega, by go_num, rfl, by omega, by omega, HL.out.symm, HT.out, w1.drew, rfl, by rw [HS1.out]; exact B1.out.drew, by rw [HM.out, HST.out _ rfl]; rfl⟩
          case measure => simp [intOf]; omega
    · have hkl : k = len := by omega
      subst hkl
      have e1 : zs.take k = zs := List.take_of_length_le (by rw [HQ.out]; omega)
      rw [e1] at HY
      rw [e1]
      have HT : Hid (riseL zs 1 = true) := by unfold Hid; rw [R.out, rise_end _ _ _ (by rw [HQ.out]; omega)]
      by_cases h64 : 64 < y
      · have HZ : Hid (sizeL zs = 16) := by unfold Hid sizeL; rw [← HY.out, if_pos h64]
        have HST : Hid (∀ v, v = byteP (ins 1 (memP zs)) 0 → (cellsOf (bm (memP zs) 16)).setIfInBounds 0 (.int .u8 v) = cellsOf (bm (ins 1 (memP zs)) 16)) := by
          intro v hv; rw [hv]; exact bm_set (memP zs) 16 1 (by omega)
        have hb : byteP (ins 1 (memP zs)) 0 = if byteP (memP zs) 0 / 2 ^ 7 % 2 = 1 then byteP (memP zs) 0 else byteP (memP zs) 0 + 2 ^ 7 := byteP_ins (memP zs) 0 0 (by omega)
        have hu := bm_cell (memP zs) (show 0 < 16 by omega)
        have hsz : (cellsOf (bm (memP zs) 16)).size = 16 := by rw [cells_size, bm_len]
        obtain ⟨z0, z1⟩ := byteP_range (memP zs) 0
        have ho := or_top _ z0 z1
        rw [← hb] at ho
        generalize cellsOf (bm (memP zs) 16) = C at *
        generalize byteP (memP zs) 0 = z at *
        have hge : C[0]'(by omega) = .int .u8 z := by obtain ⟨_, h⟩ := Array.getElem?_eq_some_iff.1 hu; exact h
        generalize byteP (ins 1 (memP zs)) 0 = zz at *
        clear hb hu
        go_wp2
        go_ret2
        refine .inl ⟨HT.out, by rw [HZ.out, HS1.out]; rfl, ?_, B1.out.alloc (by rw [HS1.out]; exact Nat.le_refl _) _⟩
        have := putR_row zs w1 _ rfl
        rw [HS1.out, if_pos HZ.out, ← HST.out _ rfl] at this
        exact this
      · have HZ : Hid (sizeL zs = 8) := by unfold Hid sizeL; rw [← HY.out, if_neg h64]
        go_wp2
        go_ret2
        refine .inl ⟨HT.out, by rw [HZ.out, HS1.out]; rfl, ?_, B1.out.alloc (by rw [HS1.out]; exact Nat.le_refl _) _⟩
        have := putR_row zs w1 _ rfl
        rw [HS1.out, if_neg (by rw [HZ.out]; decide)] at this
        exact this
end Go.Proofs.Ytdbionhkfjokiaa
