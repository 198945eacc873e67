/- Read, the code's and the reference's. -/
import Derived.Test.YtfpjjdlfofejcaaMInts
namespace Go.Proofs.Ytfpjjdlfofejcaa
open Go.ChangeShapes Go.WideShapes Go.ChangeAt Go.RowKit
theorem Given.front {w : World} {ao : Option Addr} {len cap : Nat} {zs : List Int} (h : Given w ao len cap zs) {k : Nat} (hk : k ≤ len) : Given w ao k cap (zs.take k) := by
  refine ⟨by rw [List.length_take, h.leq]; omega, byt_take h.byt k, ?_, Nat.le_trans hk h.cap1, h.cap2⟩
  rcases h.row with h0 | ⟨b, o, e, hc⟩
  · left; rw [h0]; simp
  · refine .inr ⟨b, o, e, fun i hi => ?_⟩
    rw [List.length_take] at hi
    rw [hc i (by omega)]
    congr 2
    simp [show i < k by omega]
end Go.Proofs.Ytfpjjdlfofejcaa
namespace Go.Proofs.Ytfpjjdlfofejcaa.Map
open Go.ChangeShapes Go.WideShapes Go.ChangeAt Go.RowKit

/-- What Read answers. -/
def ReadE (w : World) (zs : List Int) (e : Ending) (w' : World) : Prop :=
  ∃ a n c, e = .returned (.tuple #[.slice a n c, .int .i64 (tookR zs : Int), .bool (readOk zs)]) ∧ I.Mk w w' (.slice a n c) n (numR zs)
theorem ReadE.no {w w' : World} {zs : List Int} (h : readOk zs = false ∧ numR zs = [] ∧ tookR zs = 0) (hb : Below w.heap.size w w') : ReadE w zs (.returned (.tuple #[.slice none 0 0, .int .i64 0, .bool false])) w' :=
  ⟨none, 0, 0, by rw [h.1, h.2.2]; rfl, by rw [h.2.1]; exact ⟨I.Row.nil _ _, hb⟩⟩
theorem ReadE.yes {w w' : World} {zs : List Int} {a : Option Addr} {n c m : Nat} (h : readOk zs = true ∧ numR zs = numL zs ∧ tookR zs = tookL zs) (hm : tookL zs = m) (hk : I.Mk w w' (.slice a n c) n (numL zs)) : ReadE w zs (.returned (.tuple #[.slice a n c, .int .i64 (m : Int), .bool true])) w' :=
  ⟨a, n, c, by rw [h.1, h.2.2, hm], by rw [h.2.1]; exact hk⟩
theorem wid_num (zs : List Int) : Wid (numL zs) := nums_wid (by rcases took_or zs with ⟨_, h⟩ | ⟨_, h⟩ <;> omega)
theorem has_one {zs : List Int} : hasL zs 1 = hasN zs 1 := has_num (x := 1) (by omega) (by omega)
set_option maxHeartbeats 1000000 in
theorem read9 (ao : Option Addr) (len cap : Nat) (zs : List Int) (w : World) (h : Given w ao len cap zs) :
    Calls Try.prog 31 #[.slice ao len cap] w (ReadE w zs) := by
  obtain ⟨m, hm⟩ : ∃ m, tookL zs = m := ⟨_, rfl⟩
  have HM := hid hm
  have hm1 : (hasL zs 1 = true ∧ m = 16) ∨ (hasL zs 1 = false ∧ m = 8) := by rw [has_one, ← hm]; exact took_or zs
  have HG := hid h
  have HQ := hid h.leq
  by_cases hs : len < m
  · have HF := hid (read_short (zs := zs) (by rw [h.leq, hm]; exact hs))
    clear hm h
    rcases hm1 with ⟨hh, rfl⟩ | ⟨hh, rfl⟩
    · have HH := hid hh
      clear hh
      go_enter Try.func31, Try.ntmps31
      go_wp2_with (go_at_call 45; refine (has12 ao len cap zs 1 _ HG.out).mono ?_; rintro e w2 ⟨rfl, rfl⟩; rw [HH.out])
      go_ret3
      exact ReadE.no HF.out (Below.refl _ _)
    · have HH := hid hh
      clear hh
      go_enter Try.func31, Try.ntmps31
      go_wp2_with (go_at_call 45; refine (has12 ao len cap zs 1 _ HG.out).mono ?_; rintro e w2 ⟨rfl, rfl⟩; rw [HH.out])
      go_ret3
      exact ReadE.no HF.out (Below.refl _ _)
  · obtain ⟨b, o, rfl, _⟩ := h.cell 0 (by rcases hm1 with ⟨_, e⟩ | ⟨_, e⟩ <;> omega)
    have hcap := h.cap1
    have HG2 : Hid (Given w (some ⟨b, o, none⟩) m cap (zs.take m)) := h.front (by omega)
    have HN : Hid (numsTo (hasN (zs.take m)) (8 * m + 1) = numL zs) := by have := num_take zs; rwa [hm] at this
    by_cases hz : sizeL (numL zs) = m
    · have HY := hid (read_yes (zs := zs) (by rw [h.leq, hm]; omega) (by rw [hz, hm]))
      have HZ := hid hz
      clear hm h hz
      rcases hm1 with ⟨hh, rfl⟩ | ⟨hh, rfl⟩
      · have HH := hid hh
        clear hh
        go_enter Try.func31, Try.ntmps31
        go_wp2_with (first | (go_at_call 47; have kill := D3.out; refine (size15 _ _ _ _ _ (D3.out.given (wid_num zs)) (by have := D3.out.1.caps; omega)).mono ?_; rintro e w4 ⟨rfl, rfl⟩; rw [HZ.out]; clear kill) | (go_at_call 46; refine (numbers17 _ 16 cap _ _ HG2.out (by omega) (by omega)).mono ?_; rintro e w3 ⟨a3, n3, c3, rfl, d3⟩; rw [HN.out] at d3; have D3 := hid d3; clear d3) | (go_at_call 45; refine (has12 _ len cap zs 1 _ HG.out).mono ?_; rintro e w2 ⟨rfl, rfl⟩; rw [HH.out]))
        go_ret3
        exact ReadE.yes HY.out HM.out D3.out
      · have HH := hid hh
        clear hh
        go_enter Try.func31, Try.ntmps31
        go_wp2_with (first | (go_at_call 47; have kill := D3.out; refine (size15 _ _ _ _ _ (D3.out.given (wid_num zs)) (by have := D3.out.1.caps; omega)).mono ?_; rintro e w4 ⟨rfl, rfl⟩; rw [HZ.out]; clear kill) | (go_at_call 46; refine (numbers17 _ 8 cap _ _ HG2.out (by omega) (by omega)).mono ?_; rintro e w3 ⟨a3, n3, c3, rfl, d3⟩; rw [HN.out] at d3; have D3 := hid d3; clear d3) | (go_at_call 45; refine (has12 _ len cap zs 1 _ HG.out).mono ?_; rintro e w2 ⟨rfl, rfl⟩; rw [HH.out]))
        go_ret3
        exact ReadE.yes HY.out HM.out D3.out
    · have HY := hid (read_no (zs := zs) (by rw [hm]; exact hz))
      have hm16 : m = 16 := by
        rcases hm1 with ⟨_, e⟩ | ⟨_, e⟩
        · exact e
        · exact absurd (num_eight (zs := zs) (by omega)) (by omega)
      have HZ : Hid (sizeL (numL zs) = 8) := by
        rcases size_or (numL zs) with ⟨_, e⟩ | ⟨_, e⟩
        · omega
        · exact e
      have HH : Hid (hasL zs 1 = true) := by
        rcases hm1 with ⟨e, _⟩ | ⟨_, e⟩
        · exact e
        · omega
      subst hm16
      clear hm h hz hm1
      go_enter Try.func31, Try.ntmps31
      go_wp2_with (first | (go_at_call 47; have kill := D3.out; refine (size15 _ _ _ _ _ (D3.out.given (wid_num zs)) (by have := D3.out.1.caps; omega)).mono ?_; rintro e w4 ⟨rfl, rfl⟩; rw [HZ.out]; clear kill) | (go_at_call 46; refine (numbers17 _ 16 cap _ _ HG2.out (by omega) (by omega)).mono ?_; rintro e w3 ⟨a3, n3, c3, rfl, d3⟩; rw [HN.out] at d3; have D3 := hid d3; clear d3) | (go_at_call 45; refine (has12 _ len cap zs 1 _ HG.out).mono ?_; rintro e w2 ⟨rfl, rfl⟩; rw [HH.out]))
      go_ret3
      exact ReadE.no HY.out D3.out.2
theorem top_bit {zs : List Int} {x : Int} (h : 0 < zs.length) (hx : zs.getD 0 0 = x) (x0 : 0 ≤ x) (x1 : x < 256) : hasN zs 1 = decide (128 ≤ x) := by
  unfold hasN
  rw [show (1 - 1) / 8 = 0 by decide, show (1 - 1) % 8 = 0 by decide, hx, decide_eq_true h, Bool.true_and, show (2 : Int) ^ (7 - 0) = 128 by decide]
  exact decide_eq_decide.2 (by omega)
theorem has_none {zs : List Int} (h : zs.length = 0) : hasN zs 1 = false := by
  unfold hasN; rw [h]; rfl
end Go.Proofs.Ytfpjjdlfofejcaa.Map
