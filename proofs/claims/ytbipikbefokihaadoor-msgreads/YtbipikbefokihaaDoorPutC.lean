/- putField, Put: a right message's parts, its bytes. -/
import Derived.Test.YtbipikbefokihaaDoorKd
namespace Go.Proofs.YtbipikbefokihaaDoor
open Go.ChangeShapes Go.WideShapes Go.ChangeAt Go.RowKit

def PfAns (w : World) (L : List ByteArray) (e : Ending) (w' : World) : Prop := ∃ ao n c, e = .returned (.slice ao n c) ∧ T.Mk w w' (.slice ao n c) n L
theorem map_take (L : List Int) (k : Nat) (h : k < L.length) : (L.map decS).take (k + 1) = (L.map decS).take k ++ [decS (L.getD k 0)] := by
  rw [take_snocG _ ⟨#[]⟩ k (by simpa using h)]
  simp [h]
/-- Rows of texts and of numbers lie in blocks of their own. -/
theorem rows_apart {B1 B2 : Nat} {w w' : World} {v1 v2 : Value} {n1 n2 : Nat} {l1 : List Int} {l2 : List ByteArray} (h1 : I.Row B1 w v1 n1 l1) (h2 : T.Row B2 w v2 n2 l2) (t : Turned (fun k => v2.ownBlock = some k) w w') : I.Row B1 w' v1 n1 l1 :=
  own_kept h1 fun k e => t.block k (World.ownsRow.lt h1 k e).2 fun e2 => by
    rcases h1.2 with ⟨rfl, _⟩ | ⟨g, cap, cur, rfl, _, hc, _⟩
    · cases e
    · cases e
      rcases h2.2 with ⟨rfl, _⟩ | ⟨g2, cap2, cur2, rfl, _, hc2, _⟩
      · cases e2
      · cases e2
        rw [hc] at hc2
        injection hc2 with hc2
        injection hc2 with _ hc2
        cases hc2
set_option maxHeartbeats 4000000 in
theorem putField19 (m : Ms) (f : Int) (w : World) (hf : f ∈ tenF) (hm : m.Ok) (hr : rightF m f = true) (ht : Tab w) :
    Calls Tryd.prog 19 #[m.val, .int .i64 f] w (PfAns w (putF m f)) := by
  have HM := hid hm
  have HF := hid hf
  have HTB := hid ht
  by_cases h2 : f = 2
  · subst h2
    clear hm hf hr ht
    go_enter Tryd.func19, Tryd.ntmps19
    go_wp2_with (first | (refine bx27 rfl _ rfl rfl ?_; intro b1 w1 hb1 v1 l1; have V1 := hid v1; have L1 := hid l1; have cc : w1.cell? ⟨b1, 3, none⟩ = some (.string m.pan) := v1.cell 3 rfl; clear v1 l1))
    go_ret
    refine ⟨_, 1, 1, rfl, ?_⟩
    have h := T.Mk.new w1 [m.pan] 1 rfl (by omega)
    exact ⟨h.1.mono L1.out.size, sq L1.out h.2⟩
  · have e2 : (f == 2) = false := by simpa using h2
    obtain ⟨L, hL⟩ : ∃ L, numsF m f = L := ⟨_, rfl⟩
    have HR : Hid (putF m f = L.map decS) := by unfold Hid putF; rw [if_neg h2, hL]
    have HI : Hid (∀ k, k < L.length → 0 ≤ L.getD k 0 ∧ L.getD k 0 ≤ 2147483647) := fun k hk => by
      unfold rightF at hr
      rw [if_neg h2, hL, List.all_eq_true] at hr
      have e : L.getD k 0 = L[k] := by simp [hk]
      have := hr (L.getD k 0) (by rw [e]; exact List.getElem_mem hk)
      have := most_le f
      have : 0 ≤ L.getD k 0 ∧ L.getD k 0 ≤ mostF f := by simpa [inB] using hr (L.getD k 0) (by rw [e]; exact List.getElem_mem hk)
      omega
    have HL := hid hL
    have HLN : Hid (L.length ≤ 4) := by
      unfold Hid; rw [← hL, nums_len hf h2]; unfold cntF; split <;> omega
    clear hm hf hr ht hL h2
    go_enter Tryd.func19, Tryd.ntmps19
    go_wp2_with (first | (go_at_call 37; have kill := V1.out; refine (numbers37 m f _ HF.out HM.out).mono ?_; rintro e w2 ⟨a2, n2, c2, rfl, m2⟩; have N2 := hid (Nu.of m2); rw [HL.out] at N2; have B2 := hid (sq L1.out m2.2); clear m2 kill V1) | (have kill := V1.out; refine ld27 V1.out rfl _ rfl rfl ?_) | (refine bx27 rfl _ rfl rfl ?_; intro b1 w1 hb1 v1 l1; have V1 := hid v1; have L1 := hid l1; clear v1 l1))
    have hc2 := N2.out.cap
    have hm2 := N2.out.max
    have hn4 : n2 ≤ 4 := by have := HLN.out; rwa [N2.out.len] at this
    go_loopw [5, 17] (fun x i wr => ∃ (k n c : Nat) (a : Option Addr), k ≤ n2 ∧ i = .int .i64 (k : Int) ∧ x = .slice a n c ∧ n = k ∧ I.Row w1.heap.size wr (.slice a2 n2 c2) n2 L ∧ T.Mk w wr (.slice a n c) n ((L.map decS).take k)) (fun _ i _ => n2 - (intOf i).toNat)
    case atStart => exact ⟨0, 0, 0, none, by omega, rfl, rfl, rfl, N2.out.own, (T.Mk.nil w).more B2.out⟩
    case round =>
      obtain ⟨k, n, c, a, hk, rfl, rfl, hnk, hrow, hmk⟩ := hrel
      have M := hid hmk
      have HRW := hid hrow
      have ca := hmk.1.caps
      have ca1 := ca.2.1
      have ca2 := ca.2.2
      clear hmk ca hrow
      subst hnk
      by_cases hlt : n < n2
      · have HK : Hid (n < L.length) := by unfold Hid; rw [N2.out.len]; exact hlt
        obtain ⟨b, o, rfl, hc⟩ := I.row_cell HRW.out.at N2.out.len n hlt
        obtain ⟨v, hv⟩ : ∃ v, L.getD n 0 = v := ⟨_, rfl⟩
        have HB : Hid (0 ≤ v ∧ v ≤ 2147483647) := by unfold Hid; rw [← hv]; exact HI.out n HK.out
        have HS : Hid ((L.map decS).take (n + 1) = (L.map decS).take n ++ [decS v]) := by unfold Hid; rw [map_take L n HK.out, hv]
        rw [hv] at hc
        clear hv
        have HT3 : Hid (Tab wr) := HTB.out.below M.out.2
        obtain ⟨S, hS⟩ : ∃ S, decS v = S := ⟨_, rfl⟩
        rw [hS] at HS
        have HSS := hid hS
        clear hS
        go_upto_region 7 with (fail)
        go_wp2_with (first | (at_builtin; have kill := M1.out; refine T.app_row (l2 := [S]) M1.out.1 R1.out Q1.out (fun e => by cases e) M1.out.2.size (by omega) rfl _ _ rfl rfl rfl ?_; intro a5 c5 w5 r5 t5; have D5 := hid (M1.out.next r5 t5); have RW5 := hid (rows_apart RW4.out M1.out.1 t5); clear r5 t5 kill M1) | (go_at_call 38; have kill := HT3.out; refine (fmt38 v (by have := HB.out; omega) (by have := HB.out; omega) _ HT3.out).mono ?_; rintro e w4 ⟨rfl, l4⟩; rw [HSS.out]; have M1 : Hid (T.Mk w (w4.alloc (.cells #[.string S] 9)) (.slice a n c) n ((L.map decS).take n)) := (M.out.more l4).more (bel1 _ _); have R1 := hid (T.one_row w4 S); have Q1 := hid (T.len1 S); have RW4 := hid (HRW.out.below (sq l4 (bel1 w4 (.cells #[.string S] 9)))); clear l4 kill HT3))
        go_roundw
        case rel => exact ⟨n + 1, n + 1, c5, a5, by omega, by go_num, rfl, rfl, RW5.out, by rw [HS.out]; exact D5.out⟩
        case measure => simp [intOf]; omega
      · have hall : (L.map decS).take n = L.map decS := List.take_of_length_le (by rw [List.length_map, N2.out.len]; omega)
        rw [hall] at M
        clear hall
        go_wp2
        go_ret
        exact ⟨a, n, c, rfl, by rw [HR.out]; exact M.out⟩
end Go.Proofs.YtbipikbefokihaaDoor
