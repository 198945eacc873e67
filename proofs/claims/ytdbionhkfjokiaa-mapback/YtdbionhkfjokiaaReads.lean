/- Read, the code's and the reference's. -/
import Derived.Test.YtdbionhkfjokiaaInts
namespace Go.Proofs.Ytdbionhkfjokiaa
open Go.ChangeShapes Go.WideShapes Go.ChangeAt Go.RowKit

/-- What Read answers. -/
def ReadE (w : World) (zs : List Int) (e : Ending) (w' : World) : Prop :=
  ∃ a n c, e = .returned (.tuple #[.slice a n c, .int .i64 (tookR zs : Int), .bool (readOk zs)]) ∧ I.Mk w w' (.slice a n c) n (numR zs)
theorem ReadE.no {w w' : World} {zs : List Int} (h : readOk zs = false ∧ numR zs = [] ∧ tookR zs = 0) (hb : Below w.heap.size w w') : ReadE w zs (.returned (.tuple #[.slice none 0 0, .int .i64 0, .bool false])) w' :=
  ⟨none, 0, 0, by rw [h.1, h.2.2]; rfl, by rw [h.2.1]; exact ⟨I.Row.nil _ _, hb⟩⟩
theorem ReadE.yes {w w' : World} {zs : List Int} {a : Option Addr} {n c m : Nat} (h : readOk zs = true ∧ numR zs = numL zs ∧ tookR zs = tookL zs) (hm : tookL zs = m) (hk : I.Mk w w' (.slice a n c) n (numL zs)) : ReadE w zs (.returned (.tuple #[.slice a n c, .int .i64 (m : Int), .bool true])) w' :=
  ⟨a, n, c, by rw [h.1, h.2.2, hm], by rw [h.2.1]; exact hk⟩
theorem wid_num (zs : List Int) : Wid (numL zs) := nums_wid (by rcases took_or zs with ⟨_, h⟩ | ⟨_, h⟩ <;> omega)
theorem Given.front {w : World} {ao : Option Addr} {len cap : Nat} {zs : List Int} (h : Given w ao len cap zs) {k : Nat} (hk : k ≤ len) : Given w ao k cap (zs.take k) := by
  refine ⟨by rw [List.length_take, h.leq]; omega, byt_take h.byt k, ?_, Nat.le_trans hk h.cap1, h.cap2⟩
  rcases h.row with h0 | ⟨b, o, e, hc⟩
  · left; rw [h0]; simp
  · refine .inr ⟨b, o, e, fun i hi => ?_⟩
    rw [List.length_take] at hi
    rw [hc i (by omega)]
    congr 2
    simp [show i < k by omega]
theorem has_one {zs : List Int} : hasL zs 1 = hasN zs 1 := has_num (x := 1) (by omega) (by omega)
set_option maxHeartbeats 1000000 in
theorem read9 (ao : Option Addr) (len cap : Nat) (zs : List Int) (w : World) (h : Given w ao len cap zs) :
    Calls Try.prog 9 #[.slice ao len cap] w (ReadE w zs) := by
  obtain ⟨m, hm⟩ : ∃ m, tookL zs = m := ⟨_, rfl⟩
  have HM := hid hm
  have hm1 : (hasL zs 1 = true ∧ m = 16) ∨ (hasL zs 1 = false ∧ m = 8) := by rw [has_one, ← hm]; exact took_or zs
  have HG := hid h
  have HQ := hid h.leq
  by_cases hs : len < m
  · have HF := hid (read_short (zs := zs) (by rw [h.leq, hm]; exact hs))
    clear hm h
    rcases hm1 with ⟨hh, rfl⟩ | ⟨hh, rfl⟩
    · have HH := hid hh
      clear hh
      go_enter Try.func9, Try.ntmps9
      go_wp2_with (go_at_call 12; refine (has12 ao len cap zs 1 _ HG.out).mono ?_; rintro e w2 ⟨rfl, rfl⟩; rw [HH.out])
      go_ret3
      exact ReadE.no HF.out (Below.refl _ _)
    · have HH := hid hh
      clear hh
      go_enter Try.func9, Try.ntmps9
      go_wp2_with (go_at_call 12; refine (has12 ao len cap zs 1 _ HG.out).mono ?_; rintro e w2 ⟨rfl, rfl⟩; rw [HH.out])
      go_ret3
      exact ReadE.no HF.out (Below.refl _ _)
  · obtain ⟨b, o, rfl, _⟩ := h.cell 0 (by rcases hm1 with ⟨_, e⟩ | ⟨_, e⟩ <;> omega)
    have hcap := h.cap1
    have HG2 : Hid (Given w (some ⟨b, o, none⟩) m cap (zs.take m)) := h.front (by omega)
    have HN : Hid (numsTo (hasN (zs.take m)) (8 * m + 1) = numL zs) := by have := num_take zs; rwa [hm] at this
    by_cases hz : sizeL (numL zs) = m
    · have HY := hid (read_yes (zs := zs) (by rw [h.leq, hm]; omega) (by rw [hz, hm]))
      have HZ := hid hz
      clear hm h hz
      rcases hm1 with ⟨hh, rfl⟩ | ⟨hh, rfl⟩
      · have HH := hid hh
        clear hh
        go_enter Try.func9, Try.ntmps9
        go_wp2_with (first | (go_at_call 15; have kill := D3.out; refine (size15 _ _ _ _ _ (D3.out.given (wid_num zs)) (by have := D3.out.1.caps; omega)).mono ?_; rintro e w4 ⟨rfl, rfl⟩; rw [HZ.out]; clear kill) | (go_at_call 17; refine (numbers17 _ 16 cap _ _ HG2.out (by omega) (by omega)).mono ?_; rintro e w3 ⟨a3, n3, c3, rfl, d3⟩; rw [HN.out] at d3; have D3 := hid d3; clear d3) | (go_at_call 12; refine (has12 _ len cap zs 1 _ HG.out).mono ?_; rintro e w2 ⟨rfl, rfl⟩; rw [HH.out]))
        go_ret3
        exact ReadE.yes HY.out HM.out D3.out
      · have HH := hid hh
        clear hh
        go_enter Try.func9, Try.ntmps9
        go_wp2_with (first | (go_at_call 15; have kill := D3.out; refine (size15 _ _ _ _ _ (D3.out.given (wid_num zs)) (by have := D3.out.1.caps; omega)).mono ?_; rintro e w4 ⟨rfl, rfl⟩; rw [HZ.out]; clear kill) | (go_at_call 17; refine (numbers17 _ 8 cap _ _ HG2.out (by omega) (by omega)).mono ?_; rintro e w3 ⟨a3, n3, c3, rfl, d3⟩; rw [HN.out] at d3; have D3 := hid d3; clear d3) | (go_at_call 12; refine (has12 _ len cap zs 1 _ HG.out).mono ?_; rintro e w2 ⟨rfl, rfl⟩; rw [HH.out]))
        go_ret3
        exact ReadE.yes HY.out HM.out D3.out
    · have HY := hid (read_no (zs := zs) (by rw [hm]; exact hz))
      have hm16 : m = 16 := by
        rcases hm1 with ⟨_, e⟩ | ⟨_, e⟩
        · exact e
        · exact absurd (num_eight (zs := zs) (by omega)) (by omega)
      have HZ : Hid (sizeL (numL zs) = 8) := by
        rcases size_or (numL zs) with ⟨_, e⟩ | ⟨_, e⟩
        · omega
        · exact e
      have HH : Hid (hasL zs 1 = true) := by
        rcases hm1 with ⟨e, _⟩ | ⟨_, e⟩
        · exact e
        · omega
      subst hm16
      clear hm h hz hm1
      go_enter Try.func9, Try.ntmps9
      go_wp2_with (first | (go_at_call 15; have kill := D3.out; refine (size15 _ _ _ _ _ (D3.out.given (wid_num zs)) (by have := D3.out.1.caps; omega)).mono ?_; rintro e w4 ⟨rfl, rfl⟩; rw [HZ.out]; clear kill) | (go_at_call 17; refine (numbers17 _ 16 cap _ _ HG2.out (by omega) (by omega)).mono ?_; rintro e w3 ⟨a3, n3, c3, rfl, d3⟩; rw [HN.out] at d3; have D3 := hid d3; clear d3) | (go_at_call 12; refine (has12 _ len cap zs 1 _ HG.out).mono ?_; rintro e w2 ⟨rfl, rfl⟩; rw [HH.out]))
      go_ret3
      exact ReadE.no HY.out D3.out.2
theorem top_bit {zs : List Int} {x : Int} (h : 0 < zs.length) (hx : zs.getD 0 0 = x) (x0 : 0 ≤ x) (x1 : x < 256) : hasN zs 1 = decide (128 ≤ x) := by
  unfold hasN
  rw [show (1 - 1) / 8 = 0 by decide, show (1 - 1) % 8 = 0 by decide, hx, decide_eq_true h, Bool.true_and, show (2 : Int) ^ (7 - 0) = 128 by decide]
  exact decide_eq_decide.2 (by omega)
theorem has_none {zs : List Int} (h : zs.length = 0) : hasN zs 1 = false := by
  unfold hasN; rw [h]; rfl
set_option maxHeartbeats 2000000 in
theorem readR_16 (b o len cap : Nat) (zs : List Int) (x : Int) (w : World) (h : Given w (some ⟨b, o, none⟩) len cap zs) (hl : 16 ≤ len) (hc : w.cell? ⟨b, o, none⟩ = some (.int .u8 x)) (hx : 128 ≤ x) (hm : tookL zs = 16) :
    Calls Try.prog 11 #[.slice (some ⟨b, o, none⟩) len cap] w (ReadE w zs) := by
  have HG := hid h
  have HQ := hid h.leq
  have HM := hid hm
  have HNL : Hid (numsTo (hasN zs) 129 = numL zs) := by unfold Hid numL; rw [hm]
  have hcap := h.cap1
  clear h hm
  go_enter Try.func11, Try.ntmps11
  go_wp2
  go_loopw [6, 7] (fun out i wr => ∃ (k : Nat) (a2 : Option Addr) (n2 c2 : Nat), 2 ≤ k ∧ k ≤ 129 ∧ i = .int .i64 (k : Int) ∧ out = .slice a2 n2 c2 ∧ I.Mk w wr (.slice a2 n2 c2) n2 (numsTo (hasN zs) k)) (fun _ i _ => 129 - (intOf i).toNat)
  case atStart => exact ⟨2, _, _, _, by omega, by omega, rfl, rfl, by rw [nums_two]; exact I.Mk.nil _⟩
  case round =>
    obtain ⟨k, a2, n2, c2, k2, hk, rfl, rfl, hD⟩ := hrel
    have D := hid hD
    have hn := hD.1.len
    have hn2 := nums_len (hasN zs) k
    rw [hn] at hn2
    clear hD hn
    by_cases hlt : k ≤ 128
    · have j1 : (k : Int) ≤ 128 := by omega
      cases hp : hasN zs k
      · have HP : Hid (hasL zs (k : Int) = false) := (has_num (by omega) (by omega)).trans hp
        have HN := hid (nums_no hp)
        clear hp
        go_wp2_with (go_at_call 13; refine (has13 _ len cap zs (k : Int) _ (HG.out.below D.out.2)).mono ?_; rintro e w2 ⟨rfl, rfl⟩; rw [HP.out])
        go_roundw
        case rel => exact ⟨k + 1, _, _, _, by omega, by omega, by go_num, rfl, by rw [HN.out]; exact D.out⟩
        case measure => simp [intOf]; omega
      · have HP : Hid (hasL zs (k : Int) = true) := (has_num (by omega) (by omega)).trans hp
        have HN := hid (nums_yes k2 hp)
        have D3 : Hid (I.Mk w (wr.alloc (.cells #[.int .i64 (k : Int)] 3)) (.slice a2 n2 c2) n2 (numsTo (hasN zs) k)) := D.out.more (bel1 wr _)
        have R3 : Hid (I.RowAt (wr.alloc (.cells #[.int .i64 (k : Int)] 3)) (some ⟨wr.heap.size, 0, none⟩) [(k : Int)]) := (I.row_new wr [(k : Int)] 1 rfl (by omega)).at
        have L2 : Hid ([(k : Int)].length = 1) := rfl
        clear hp
        go_wp2_with (first | (at_builtin; refine I.app_row (l2 := [(k : Int)]) D3.out.1 R3.out L2.out (fun e => by cases e) D3.out.2.size (by omega) rfl _ _ rfl rfl rfl ?_; intro ao4 cap4 w4 r4 t4; have D4 := hid (D3.out.next r4 t4); clear r4 t4) | (go_at_call 13; refine (has13 _ len cap zs (k : Int) _ (HG.out.below D.out.2)).mono ?_; rintro e w2 ⟨rfl, rfl⟩; rw [HP.out]))
        go_roundw
        case rel => exact ⟨k + 1, _, _, _, by omega, by omega, by go_num, rfl, by rw [HN.out]; exact D4.out⟩
        case measure => simp [intOf]; omega
    · have hkl : k = 129 := by omega
      have j1 : ¬ (k : Int) ≤ 128 := by omega
      have E : Hid (I.Mk w wr (.slice a2 n2 c2) n2 (numL zs)) := by have := D.out; rwa [hkl, HNL.out] at this
      have hlen := E.out.1.len
      by_cases h0 : n2 = 0
      · have HY := hid (read_no (zs := zs) (by rw [HM.out]; unfold sizeL; rw [last_nil (by omega)]; decide))
        subst h0
        clear hlen
        go_wp2
        go_ret3
        exact ReadE.no HY.out E.out.2
      · obtain ⟨q, rfl⟩ : ∃ q, n2 = q + 1 := ⟨n2 - 1, by omega⟩
        obtain ⟨b2, o2, rfl, hce⟩ := (E.out.given (wid_num zs)).cell q (by omega)
        have hg := last_get (numL zs) (by omega)
        rw [hlen, Nat.add_sub_cancel] at hg
        rw [← hg] at hce
        have hs0 : (lastL (numL zs) ≤ 64 ∧ sizeL (numL zs) = 8) ∨ (64 < lastL (numL zs) ∧ sizeL (numL zs) = 16) := by rcases size_or (numL zs) with h | h <;> simp [h]
        generalize lastL (numL zs) = y at *
        have ha : ((q + 1 : Nat) : Int) - 1 = (q : Int) := by omega
        have hb : ((q : Int) + 1) - 1 = (q : Int) := by omega
        have hd : ¬ (q : Int) + 1 = 0 := by omega
        have he : (((q : Int) + 1) == 0) = false := by simp; omega
        clear hlen hg
        rcases hs0 with ⟨hy, hz⟩ | ⟨hy, hz⟩
        · have HY := hid (read_no (zs := zs) (by rw [HM.out, hz]; decide))
          clear hz
          go_wp2
          go_ret3
          exact ReadE.no HY.out E.out.2
        · have HY := hid (read_yes (zs := zs) (by rw [HM.out, HQ.out]; exact hl) (by rw [HM.out, hz]))
          have hy2 : ¬ y ≤ 64 := by omega
          clear hz
          go_wp2
          go_ret3
          exact ReadE.yes HY.out HM.out E.out
set_option maxHeartbeats 2000000 in
theorem readR_8 (b o len cap : Nat) (zs : List Int) (x : Int) (w : World) (h : Given w (some ⟨b, o, none⟩) len cap zs) (hl : 8 ≤ len) (hc : w.cell? ⟨b, o, none⟩ = some (.int .u8 x)) (hx : x < 128) (hm : tookL zs = 8) :
    Calls Try.prog 11 #[.slice (some ⟨b, o, none⟩) len cap] w (ReadE w zs) := by
  have HG := hid h
  have HQ := hid h.leq
  have HM := hid hm
  have HNL : Hid (numsTo (hasN zs) 65 = numL zs) := by unfold Hid numL; rw [hm]
  have hcap := h.cap1
  clear h hm
  go_enter Try.func11, Try.ntmps11
  go_wp2
  go_loopw [6, 7] (fun out i wr => ∃ (k : Nat) (a2 : Option Addr) (n2 c2 : Nat), 2 ≤ k ∧ k ≤ 65 ∧ i = .int .i64 (k : Int) ∧ out = .slice a2 n2 c2 ∧ I.Mk w wr (.slice a2 n2 c2) n2 (numsTo (hasN zs) k)) (fun _ i _ => 65 - (intOf i).toNat)
  case atStart => exact ⟨2, _, _, _, by omega, by omega, rfl, rfl, by rw [nums_two]; exact I.Mk.nil _⟩
  case round =>
    obtain ⟨k, a2, n2, c2, k2, hk, rfl, rfl, hD⟩ := hrel
    have D := hid hD
    have hn := hD.1.len
    have hn2 := nums_len (hasN zs) k
    rw [hn] at hn2
    clear hD hn
    by_cases hlt : k ≤ 64
    · have j1 : (k : Int) ≤ 64 := by omega
      cases hp : hasN zs k
      · have HP : Hid (hasL zs (k : Int) = false) := (has_num (by omega) (by omega)).trans hp
        have HN := hid (nums_no hp)
        clear hp
        go_wp2_with (go_at_call 13; refine (has13 _ len cap zs (k : Int) _ (HG.out.below D.out.2)).mono ?_; rintro e w2 ⟨rfl, rfl⟩; rw [HP.out])
        go_roundw
        case rel => exact ⟨k + 1, _, _, _, by omega, by omega, by go_num, rfl, by rw [HN.out]; exact D.out⟩
        case measure => simp [intOf]; omega
      · have HP : Hid (hasL zs (k : Int) = true) := (has_num (by omega) (by omega)).trans hp
        have HN := hid (nums_yes k2 hp)
        have D3 : Hid (I.Mk w (wr.alloc (.cells #[.int .i64 (k : Int)] 3)) (.slice a2 n2 c2) n2 (numsTo (hasN zs) k)) := D.out.more (bel1 wr _)
        have R3 : Hid (I.RowAt (wr.alloc (.cells #[.int .i64 (k : Int)] 3)) (some ⟨wr.heap.size, 0, none⟩) [(k : Int)]) := (I.row_new wr [(k : Int)] 1 rfl (by omega)).at
        have L2 : Hid ([(k : Int)].length = 1) := rfl
        clear hp
        go_wp2_with (first | (at_builtin; refine I.app_row (l2 := [(k : Int)]) D3.out.1 R3.out L2.out (fun e => by cases e) D3.out.2.size (by omega) rfl _ _ rfl rfl rfl ?_; intro ao4 cap4 w4 r4 t4; have D4 := hid (D3.out.next r4 t4); clear r4 t4) | (go_at_call 13; refine (has13 _ len cap zs (k : Int) _ (HG.out.below D.out.2)).mono ?_; rintro e w2 ⟨rfl, rfl⟩; rw [HP.out]))
        go_roundw
        case rel => exact ⟨k + 1, _, _, _, by omega, by omega, by go_num, rfl, by rw [HN.out]; exact D4.out⟩
        case measure => simp [intOf]; omega
    · have hkl : k = 65 := by omega
      have j1 : ¬ (k : Int) ≤ 64 := by omega
      have E : Hid (I.Mk w wr (.slice a2 n2 c2) n2 (numL zs)) := by have := D.out; rwa [hkl, HNL.out] at this
      have HY := hid (read_yes (zs := zs) (by rw [HM.out, HQ.out]; exact hl) (by rw [HM.out]; exact num_eight HM.out))
      go_wp2
      go_ret3
      exact ReadE.yes HY.out HM.out E.out
set_option maxHeartbeats 1000000 in
theorem readR (ao : Option Addr) (len cap : Nat) (zs : List Int) (w : World) (h : Given w ao len cap zs) :
    Calls Try.prog 11 #[.slice ao len cap] w (ReadE w zs) := by
  have HQ := hid h.leq
  by_cases h0 : len = 0
  · have HF := hid (read_short (zs := zs) (by rw [h.leq, h0]; unfold tookL; rw [has_none (by rw [h.leq, h0])]; decide))
    subst h0
    clear h
    go_enter Try.func11, Try.ntmps11
    go_wp2
    go_ret3
    exact ReadE.no HF.out (Below.refl _ _)
  · obtain ⟨b, o, rfl, hc⟩ := h.cell 0 (by omega)
    obtain ⟨x0, x1⟩ := byt_getD h.byt 0
    have ht := top_bit (zs := zs) (by rw [h.leq]; omega) rfl x0 x1
    rw [Nat.add_zero] at hc
    generalize zs.getD 0 0 = x at *
    by_cases hx : 128 ≤ x
    · have hm : tookL zs = 16 := by unfold tookL; rw [ht, decide_eq_true hx]; rfl
      by_cases hl : 16 ≤ len
      · exact readR_16 b o len cap zs x w h hl hc hx hm
      · have HF := hid (read_short (zs := zs) (by rw [h.leq, hm]; omega))
        have i0 : (0 : Int) < (len : Int) := by omega
        clear h ht hm
        go_enter Try.func11, Try.ntmps11
        go_wp2
        go_ret3
        exact ReadE.no HF.out (Below.refl _ _)
    · have hm : tookL zs = 8 := by unfold tookL; rw [ht, decide_eq_false hx]; rfl
      by_cases hl : 8 ≤ len
      · exact readR_8 b o len cap zs x w h hl hc (by omega) hm
      · have HF := hid (read_short (zs := zs) (by rw [h.leq, hm]; omega))
        have i0 : (0 : Int) < (len : Int) := by omega
        clear h ht hm
        go_enter Try.func11, Try.ntmps11
        go_wp2
        go_ret3
        exact ReadE.no HF.out (Below.refl _ _)
end Go.Proofs.Ytdbionhkfjokiaa
