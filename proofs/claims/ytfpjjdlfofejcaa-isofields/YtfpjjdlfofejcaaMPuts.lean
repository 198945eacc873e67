/- Put, the code's and the reference's: the bitmap of numbers that rise. -/
import Derived.Test.YtfpjjdlfofejcaaMSmall
namespace Go.Proofs.Ytfpjjdlfofejcaa.Map
open Go.ChangeShapes Go.WideShapes Go.ChangeAt Go.RowKit

theorem pow_small (r : Nat) : (2 : Int) ^ (7 - r) % 256 = 2 ^ (7 - r) := by
  have h : (2 : Nat) ^ (7 - r) < 2 ^ 8 := Nat.pow_lt_pow_right (by decide) (by omega)
  have e : ((2 ^ (7 - r) : Nat) : Int) = 2 ^ (7 - r) := by rw [Int.natCast_pow]; rfl
  rw [← e]; generalize 2 ^ (7 - r) = a at *; omega
theorem bm_zero (m : Nat) : cellsOf (bm (fun _ => false) m) = madeCells #[Value.int .u8 0] m := by
  apply Array.toList_inj.1
  rw [toList_madeCells_one, cells_toList, by8, bm, List.map_map]
  exact (List.map_eq_replicate_iff (l := List.range m) (b := Value.int .u8 0)).2 (fun j _ => rfl) |>.trans (by rw [List.length_range])
set_option maxHeartbeats 400000 in
theorem set16 (P : Nat → Bool) (m x : Nat) (w : World) (x0 : 1 ≤ x) (x1 : x ≤ 128) (hm : x ≤ 8 * m) :
    Calls Try.prog 53 #[.slice (some ⟨w.heap.size, 0, none⟩) m m, .int .i64 (x : Int)] (w.alloc (.cells (cellsOf (bm P m)) 5)) fun e w' => e = .returned (.tuple #[]) ∧ w' = w.alloc (.cells (cellsOf (bm (ins x P) m)) 5) := by
  obtain ⟨j, hj⟩ : ∃ j, (x - 1) / 8 = j := ⟨_, rfl⟩
  obtain ⟨r, hr⟩ : ∃ r, (x - 1) % 8 = r := ⟨_, rfl⟩
  have r1 : r < 8 := by omega
  have hjm : j < m := by omega
  have HST : Hid (∀ v, v = byteP (ins x P) j → (cellsOf (bm P m)).setIfInBounds j (.int .u8 v) = cellsOf (bm (ins x P) m)) := by
    intro v hv; rw [hv, ← hj]; exact bm_set P m x x0
  have hb := byteP_ins P j r r1
  rw [show 8 * j + r + 1 = x by omega] at hb
  have hu := bm_cell P hjm
  have hsz : (cellsOf (bm P m)).size = m := by rw [cells_size, bm_len]
  obtain ⟨y0, y1⟩ := byteP_range P j
  have ho := or_bit _ (7 - r) y0 y1 (by omega)
  rw [← hb] at ho
  have hp := pow_small r
  have HJ := hid hj
  have HR := hid hr
  generalize cellsOf (bm P m) = C at *
  generalize byteP P j = y at *
  have hge : C[j]'(by omega) = .int .u8 y := by obtain ⟨_, h⟩ := Array.getElem?_eq_some_iff.1 hu; exact h
  generalize byteP (ins x P) j = z at *
  clear hj hr hb hu
  go_enter Try.func53, Try.ntmps53
  go_wp2_with (go_at_call 54; refine (place_any x j r _ x0 x1 HJ.out HR.out).mono ?_; rintro e w2 ⟨rfl, rfl⟩)
  rw [HST.out _ rfl]
  simp [bodyPost, results, Try.results53, go_sem]
def upB (m y : Nat) : Bool := decide (m = 16) && decide (y = 1)
theorem rise_nat {zs : List Int} (h : riseL zs 1 = true) {k : Nat} (hk : k < zs.length) : ∃ x : Nat, zs.getD k 0 = (x : Int) ∧ 2 ≤ x ∧ x ≤ 128 ∧ x ≤ 8 * sizeL zs := by
  have hm : zs.getD k 0 ∈ zs := by
    have : zs.getD k 0 = zs[k] := by simp [hk]
    rw [this]; exact List.getElem_mem hk
  have h1 := rise_mem zs 1 h _ hm
  obtain ⟨x, hx⟩ : ∃ x : Nat, zs.getD k 0 = x := ⟨(zs.getD k 0).toNat, by omega⟩
  rw [hx] at h1 hm
  exact ⟨x, hx, by omega, by omega, (mem_le h (decide_eq_true hm)).2⟩
set_option maxHeartbeats 1000000 in
theorem put_no (ao : Option Addr) (len cap : Nat) (zs : List Int) (w : World) (h : I.Given w ao len cap zs) (hr : riseL zs 1 = false) :
    Calls Try.prog 40 #[.slice ao len cap] w fun e w' => e = .returned (.tuple #[.slice none 0 0, .bool false]) ∧ w = w' := by
  have HG := hid h
  have HR := hid hr
  have hl : len ≤ 9223372036854775807 := Nat.le_trans h.cap1 h.cap2
  clear h hr
  go_enter Try.func40, Try.ntmps40
  go_wp2_with (go_at_call 52; refine (right14 ao len cap zs _ HG.out hl).mono ?_; rintro e w2 ⟨rfl, rfl⟩; rw [HR.out])
  go_ret2
  exact ⟨rfl, rfl⟩
set_option maxHeartbeats 2000000 in
theorem put_yes (ao : Option Addr) (len cap : Nat) (zs : List Int) (w : World) (h : I.Given w ao len cap zs) (hr : riseL zs 1 = true) :
    Calls Try.prog 40 #[.slice ao len cap] w fun e w' => e = .returned (.tuple #[.slice (some ⟨w.heap.size, 0, none⟩) (sizeL zs) (sizeL zs), .bool true]) ∧ w' = w.alloc (.cells (cellsOf (putL zs)) 5) := by
  have HG := hid h
  have HR := hid hr
  have hl : len ≤ 9223372036854775807 := Nat.le_trans h.cap1 h.cap2
  have HC : Hid (∀ i, i < len → ∃ b o, ao = some ⟨b, o, none⟩ ∧ w.cell? ⟨b, o + i, none⟩ = some (.int .i64 (zs.getD i 0))) := fun i hi => h.cell i hi
  have HQ := hid h.leq
  have HX : Hid (∀ k, k < len → ∃ x : Nat, zs.getD k 0 = (x : Int) ∧ 2 ≤ x ∧ x ≤ 128 ∧ x ≤ 8 * sizeL zs) := fun k hk => rise_nat hr (by rw [h.leq]; exact hk)
  clear h
  obtain ⟨m, hm⟩ : ∃ m, sizeL zs = m := ⟨_, rfl⟩
  have HM := hid hm
  have hm1 : m = 16 ∨ m = 8 := by rcases size_or zs with ⟨_, e⟩ | ⟨_, e⟩ <;> omega
  have HF : Hid (∀ P : Nat → Bool, (∀ y, P y = (upB m y || memP zs y)) → bm P m = putL zs) := by
    intro P hP
    unfold putL
    rw [hm]
    refine bm_congr fun x _ _ => ?_
    rw [hP x]
    unfold putP upB
    rw [hm]
    by_cases h16 : m = 16
    · rw [if_pos h16, decide_eq_true h16]; rfl
    · rw [if_neg h16, decide_eq_false h16]; rfl
  rw [hm]
  rw [hm] at HX
  have hmk := run_make_row' (P := Try.prog) 52 5 (.int .u8 0) 1 Try.underlying52 Try.info5 rfl .i64 .i64 m (by omega) (by omega)
  rw [← bm_zero] at hmk
  clear hm hr
  go_enter Try.func40, Try.ntmps40
  rcases hm1 with rfl | rfl
  · rw [show ((16 : Nat) : Int) = 16 from rfl] at hmk
    go_wp2_with (first | (go_at_call 53; refine (set16 (fun _ => false) 16 1 w (by omega) (by omega) (by omega)).mono ?_; rintro e w2 ⟨rfl, rfl⟩) | (go_at_call 47; refine (size15 ao len cap zs _ HG.out hl).mono ?_; rintro e w2 ⟨rfl, rfl⟩; rw [HM.out]) | (go_at_call 52; refine (right14 ao len cap zs _ HG.out hl).mono ?_; rintro e w2 ⟨rfl, rfl⟩; rw [HR.out]))
    go_loopw [20] (fun i wr => ∃ (k : Nat) (P : Nat → Bool), k ≤ len ∧ i = .int .i64 (k : Int) ∧ (∀ y, P y = (upB 16 y || memP (zs.take k) y)) ∧ wr = w.alloc (.cells (cellsOf (bm P 16)) 5)) (fun i _ => len - (intOf i).toNat)
    case atStart => exact ⟨0, _, by omega, rfl, fun y => by simp [ins, upB, memP_nil], rfl⟩
    case round =>
      obtain ⟨k, P, hk, rfl, hP, rfl⟩ := hrel
      have HP := hid hP
      clear hP
      by_cases hlt : k < len
      · obtain ⟨b, o, rfl, hc⟩ := HC.out k hlt
        obtain ⟨x, hx, x0, x1, x2⟩ := HX.out k hlt
        have HN : Hid (∀ y, ins x P y = (upB 16 y || memP (zs.take (k + 1)) y)) := by
          intro y
          rw [memP_snoc zs k x (by rw [HQ.out]; exact hlt) hx]
          simp only [ins]
          rw [HP.out y]
          cases decide (y = x) <;> cases upB 16 y <;> simp
        rw [hx] at hc
        have hc' := ((bel1 w (.cells (cellsOf (bm P 16)) 5)).cell (p := ⟨b, o + k, none⟩) (World.block_lt_of_cell? w ⟨b, o + k, none⟩ hc)).trans hc
        clear hx hc
        go_wp2_with (go_at_call 53; refine (set16 P 16 x w (by omega) (by omega) (by omega)).mono ?_; rintro e w2 ⟨rfl, rfl⟩)
        go_roundw
        case rel => exact ⟨k + 1, _, by omega, by go_num, HN.out, rfl⟩
        case measure => simp [intOf]; omega
      · have HE : Hid (bm P 16 = putL zs) := HF.out P fun y => by rw [HP.out y, List.take_of_length_le (by rw [HQ.out]; omega)]
        go_wp2
        go_ret2
        exact ⟨rfl, by rw [HE.out]⟩
  · rw [show ((8 : Nat) : Int) = 8 from rfl] at hmk
    go_wp2_with (first | (go_at_call 47; refine (size15 ao len cap zs _ HG.out hl).mono ?_; rintro e w2 ⟨rfl, rfl⟩; rw [HM.out]) | (go_at_call 52; refine (right14 ao len cap zs _ HG.out hl).mono ?_; rintro e w2 ⟨rfl, rfl⟩; rw [HR.out]))
    go_loopw [20] (fun i wr => ∃ (k : Nat) (P : Nat → Bool), k ≤ len ∧ i = .int .i64 (k : Int) ∧ (∀ y, P y = (upB 8 y || memP (zs.take k) y)) ∧ wr = w.alloc (.cells (cellsOf (bm P 8)) 5)) (fun i _ => len - (intOf i).toNat)
    case atStart => exact ⟨0, _, by omega, rfl, fun y => by simp [upB, memP_nil], rfl⟩
    case round =>
      obtain ⟨k, P, hk, rfl, hP, rfl⟩ := hrel
      have HP := hid hP
      clear hP
      by_cases hlt : k < len
      · obtain ⟨b, o, rfl, hc⟩ := HC.out k hlt
        obtain ⟨x, hx, x0, x1, x2⟩ := HX.out k hlt
        have HN : Hid (∀ y, ins x P y = (upB 8 y || memP (zs.take (k + 1)) y)) := by
          intro y
          rw [memP_snoc zs k x (by rw [HQ.out]; exact hlt) hx]
          simp only [ins]
          rw [HP.out y]
          cases decide (y = x) <;> cases upB 8 y <;> simp
        rw [hx] at hc
        have hc' := ((bel1 w (.cells (cellsOf (bm P 8)) 5)).cell (p := ⟨b, o + k, none⟩) (World.block_lt_of_cell? w ⟨b, o + k, none⟩ hc)).trans hc
        clear hx hc
        go_wp2_with (go_at_call 53; refine (set16 P 8 x w (by omega) (by omega) (by omega)).mono ?_; rintro e w2 ⟨rfl, rfl⟩)
        go_roundw
        case rel => exact ⟨k + 1, _, by omega, by go_num, HN.out, rfl⟩
        case measure => simp [intOf]; omega
      · have HE : Hid (bm P 8 = putL zs) := HF.out P fun y => by rw [HP.out y, List.take_of_length_le (by rw [HQ.out]; omega)]
        go_wp2
        go_ret2
        exact ⟨rfl, by rw [HE.out]⟩
end Go.Proofs.Ytfpjjdlfofejcaa.Map
