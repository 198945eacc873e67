/- Join: parts with a separator between each two. -/
import Derived.Test.YtbipikbefokihaaDoorParts
import Derived.Test.YtbipikbefokihaaDoorFr
namespace Go.Proofs.YtbipikbefokihaaDoor
open Go.ChangeShapes Go.WideShapes Go.ChangeAt Go.RowKit

def jn : List (List Int) → List Int
  | [] => []
  | [p] => p
  | p :: q :: r => p ++ 28 :: jn (q :: r)
theorem jn_cons (p : List Int) (l : List (List Int)) (h : l ≠ []) : jn (p :: l) = p ++ 28 :: jn l := by
  cases l with
  | nil => exact absurd rfl h
  | cons q r => rfl
theorem jn_snoc (l : List (List Int)) (p : List Int) (h : l ≠ []) : jn (l ++ [p]) = jn l ++ [28] ++ p := by
  induction l with
  | nil => exact absurd rfl h
  | cons q r ih =>
    by_cases h0 : r = []
    · subst h0; simp [jn]
    · rw [List.cons_append, jn_cons _ _ (by simp), ih h0, jn_cons _ _ h0]; simp
def noSep (l : List (List Int)) : Bool := l.all fun p => !spB p
def jOk (l : List (List Int)) : Bool := decide (0 < l.length) && noSep l
def jX (l : List (List Int)) : List Int := if jOk l = true then jn l else []
abbrev pans (L : List ByteArray) : List (List Int) := L.map panL
theorem take_snocG {α : Type} (l : List α) (d : α) (k : Nat) (h : k < l.length) : l.take (k + 1) = l.take k ++ [l.getD k d] := by
  rw [List.take_succ_eq_append_getElem h]; simp [h]
theorem pans_take (L : List ByteArray) (k : Nat) (h : k < L.length) : (pans L).take (k + 1) = (pans L).take k ++ [panL (L.getD k ⟨#[]⟩)] := by
  rw [take_snocG _ [] k (by simpa using h)]
  simp [h]
theorem noSep_snoc (l : List (List Int)) (p : List Int) : noSep (l ++ [p]) = (noSep l && !spB p) := by simp [noSep]
theorem noSep_more {l : List (List Int)} {k : Nat} (h : noSep (l.take k) = false) : noSep l = false := by
  rw [← List.take_append_drop k l, noSep, List.all_append, ← noSep, h]; rfl
/-- What Join answers. -/
def JAns (w : World) (L : List ByteArray) (e : Ending) (w' : World) : Prop :=
  ∃ ao n c, e = .returned (.tuple #[.slice ao n c, .bool (jOk (pans L))]) ∧ Mk w w' (.slice ao n c) n (jX (pans L))
theorem j_no {w w' : World} {L : List ByteArray} (h : jOk (pans L) = false) (hb : Below w.heap.size w w') : JAns w L (.returned (.tuple #[.slice none 0 0, .bool false])) w' :=
  ⟨none, 0, 0, by rw [h], by unfold jX; rw [h]; exact (Mk.nil w).more hb⟩
theorem j_yes {w w' : World} {L : List ByteArray} {ao : Option Addr} {n c : Nat} (h : jOk (pans L) = true) (hm : Mk w w' (.slice ao n c) n (jn (pans L))) : JAns w L (.returned (.tuple #[.slice ao n c, .bool true])) w' :=
  ⟨ao, n, c, by rw [h], by unfold jX; rw [if_pos h]; exact hm⟩
theorem jOk_nil {L : List ByteArray} (h : L.length = 0) : jOk (pans L) = false := by unfold jOk; rw [decide_eq_false (by simp [h])]; rfl
theorem jOk_sep {L : List ByteArray} (h : noSep (pans L) = false) : jOk (pans L) = false := by unfold jOk; rw [h, Bool.and_false]
theorem jOk_yes {L : List ByteArray} (h : 0 < L.length) (h' : noSep (pans L) = true) : jOk (pans L) = true := by unfold jOk; rw [h', decide_eq_true (by simpa using h)]; rfl
theorem T.Given.cell {w : World} {ao : Option Addr} {len cap : Nat} {zs : List ByteArray} (h : T.Given w ao len cap zs) (i : Nat) (hi : i < len) : ∃ b o, ao = some ⟨b, o, none⟩ ∧ w.cell? ⟨b, o + i, none⟩ = some (.string (zs.getD i ⟨#[]⟩)) := by
  rcases h.row with h0 | ⟨b, o, e, hc⟩
  · subst h0; have := h.leq; simp at this; omega
  · exact ⟨b, o, e, hc i (by rw [h.leq]; exact hi)⟩
theorem getD_size {L : List ByteArray} (h : ∀ s ∈ L, s.size ≤ 1000) (k : Nat) : (L.getD k ⟨#[]⟩).size ≤ 1000 := by
  by_cases hk : k < L.length
  · have : L.getD k ⟨#[]⟩ = L[k] := by simp [hk]
    rw [this]; exact h _ (List.getElem_mem hk)
  · simp [hk]; exact Nat.zero_le _
/-- What stands at place k, with the separator ahead of it. -/
theorem jn_step (L : List ByteArray) (k : Nat) (h : k < L.length) (h0 : 0 < k) : jn ((pans L).take (k + 1)) = jn ((pans L).take k) ++ [28] ++ panL (L.getD k ⟨#[]⟩) := by
  rw [pans_take L k h, jn_snoc]
  intro e
  have := congrArg List.length e
  rw [List.length_take, List.length_map, List.length_nil] at this
  omega
theorem jn_first (L : List ByteArray) (h : 0 < L.length) : jn ((pans L).take (0 + 1)) = jn ((pans L).take 0) ++ panL (L.getD 0 ⟨#[]⟩) := by
  rw [pans_take L 0 h]; simp [jn]
set_option maxHeartbeats 4000000 in
theorem join11 (ao : Option Addr) (len cap : Nat) (L : List ByteArray) (w : World) (h : T.Given w ao len cap L) (hl : len ≤ 500) (hs : ∀ s ∈ L, s.size ≤ 1000) :
    Calls Tryd.prog 20 #[.slice ao len cap] w (JAns w L) := by
  have HG := hid h
  have HQ := hid h.leq
  have HZ := hid hs
  have hcap := h.cap1
  clear h hs
  by_cases hz : len = 0
  · have F := hid (jOk_nil (L := L) (by rw [HQ.out]; exact hz))
    subst hz
    go_enter Tryd.func20, Tryd.ntmps20
    go_wp2
    go_ret2
    exact j_no F.out (Below.refl _ _)
  · have hz1 : ((len : Int) == 0) = false := by simp; omega
    go_enter Tryd.func20, Tryd.ntmps20
    go_wp2
    go_loopw [4, 12] (fun x i wr => ∃ (k n c : Nat) (a : Option Addr), k ≤ len ∧ i = .int .i64 (k : Int) ∧ x = .slice a n c ∧ n ≤ 1001 * k ∧ noSep ((pans L).take k) = true ∧ Mk w wr (.slice a n c) n (jn ((pans L).take k))) (fun _ i _ => len - (intOf i).toNat)
    case atStart => exact ⟨0, 0, 0, none, by omega, rfl, rfl, by omega, rfl, Mk.nil w⟩
    case round =>
      obtain ⟨k, n, c, a, hk, rfl, rfl, hn, hno, hmk⟩ := hrel
      have HG2 : Hid (T.Given wr ao len cap L) := HG.out.below hmk.2
      have M := hid hmk
      have HNo := hid hno
      have ca := hmk.1.caps
      have ca1 := ca.2.1
      have ca2 := ca.2.2
      clear hmk hno ca
      by_cases hlt : k < len
      · have HK : Hid (k < L.length) := by unfold Hid; rw [HQ.out]; exact hlt
        obtain ⟨b, o, rfl, hc⟩ := HG2.out.cell k hlt
        obtain ⟨s, hsd⟩ : ∃ s, L.getD k ⟨#[]⟩ = s := ⟨_, rfl⟩
        rw [hsd] at hc
        have hs1 : s.size ≤ 1000 := by rw [← hsd]; exact getD_size HZ.out k
        have HNS : Hid (noSep ((pans L).take (k + 1)) = !spB (panL s)) := by unfold Hid; rw [pans_take L k HK.out, noSep_snoc, HNo.out, hsd, Bool.true_and]
        cases hp : spB (panL s)
        · have HP := hid hp
          have HT : Hid (noSep ((pans L).take (k + 1)) = true) := by unfold Hid; rw [HNS.out, hp]; rfl
          clear HNS hp
          by_cases h0 : k = 0
          · subst h0
            have HJ : Hid (jn ((pans L).take (0 + 1)) = jn ((pans L).take 0) ++ panL s) := by unfold Hid; rw [jn_first L HK.out, hsd]
            clear hsd
            generalize jn ((pans L).take 0) = y at *
            rw [Nat.add_zero] at hc
            rw [show ((0 : Nat) : Int) = 0 from rfl]
            go_wp2_with (first | (at_builtin; have kill := M.out; refine app_text (t := s) M.out.1 M.out.2.size (by omega) rfl _ _ rfl rfl rfl ?_; intro a4 c4 w4 r4 t4; have D4 := hid (M.out.next r4 t4); clear r4 t4 kill M) | (go_at_call 39; refine (seps21 s _ (by omega)).mono ?_; rintro e w2 ⟨rfl, rfl⟩; rw [HP.out]))
            go_roundw
            case rel => exact ⟨0 + 1, n + s.size, c4, a4, by omega, by go_num, rfl, by omega, HT.out, by rw [HJ.out]; exact D4.out⟩
            case measure => simp [intOf]; omega
          · have HJ : Hid (jn ((pans L).take (k + 1)) = jn ((pans L).take k) ++ [28] ++ panL s) := by unfold Hid; rw [jn_step L k HK.out (by omega), hsd]
            have h0' : (0 : Int) < (k : Int) := by omega
            clear hsd
            generalize jn ((pans L).take k) = y at *
            have M1 : Hid (Mk w (wr.alloc (.cells #[.int .u8 28] 5)) (.slice a n c) n y) := M.out.more (bel1 _ _)
            have R1 := hid (one_row wr 28)
            have L1 := hid (len1 28)
            go_wp2_with (first | (at_builtin; have kill := D3.out; refine app_text (t := s) D3.out.1 D3.out.2.size (by omega) rfl _ _ rfl rfl rfl ?_; intro a4 c4 w4 r4 t4; have D4 := hid (D3.out.next r4 t4); clear r4 t4 kill D3) | (at_builtin; have kill := M1.out; refine app_row (l2 := [28]) M1.out.1 R1.out L1.out (fun e => by cases e) M1.out.2.size (by omega) rfl _ _ rfl rfl rfl ?_; intro a3 c3 w3 r3 t3; have D3 := hid (M1.out.next r3 t3); clear r3 t3 kill M1) | (go_at_call 39; refine (seps21 s _ (by omega)).mono ?_; rintro e w2 ⟨rfl, rfl⟩; rw [HP.out]))
            go_roundw
            case rel => exact ⟨k + 1, n + 1 + s.size, c4, a4, by omega, by go_num, rfl, by omega, HT.out, by rw [HJ.out]; exact D4.out⟩
            case measure => simp [intOf]; omega
        · have HP := hid hp
          have F := hid (jOk_sep (noSep_more (HNS.out.trans (by rw [hp]; rfl))))
          clear HNS hp hsd
          go_wp2_with (go_at_call 39; refine (seps21 s _ (by omega)).mono ?_; rintro e w2 ⟨rfl, rfl⟩; rw [HP.out])
          go_ret2
          exact j_no F.out M.out.2
      · have hall : (pans L).take k = pans L := List.take_of_length_le (by rw [List.length_map, HQ.out]; omega)
        rw [hall] at M HNo
        have F := hid (jOk_yes (by rw [HQ.out]; omega) HNo.out)
        clear hall HNo
        go_wp2
        go_ret2
        exact j_yes F.out M.out
set_option maxHeartbeats 4000000 in
theorem join16 (ao : Option Addr) (len cap : Nat) (L : List ByteArray) (w : World) (h : T.Given w ao len cap L) (hl : len ≤ 500) (hs : ∀ s ∈ L, s.size ≤ 1000) :
    Calls Tryd.prog 24 #[.slice ao len cap] w (JAns w L) := by
  have HG := hid h
  have HQ := hid h.leq
  have HZ := hid hs
  have hcap := h.cap1
  clear h hs
  by_cases hz : len = 0
  · have F := hid (jOk_nil (L := L) (by rw [HQ.out]; exact hz))
    subst hz
    go_enter Tryd.func24, Tryd.ntmps24
    go_wp2
    go_ret2
    exact j_no F.out (Below.refl _ _)
  · have hz1 : ((len : Int) == 0) = false := by simp; omega
    go_enter Tryd.func24, Tryd.ntmps24
    go_wp2
    go_loopw [4, 5, 6] (fun x i j wr => ∃ (k n c : Nat) (a : Option Addr), k ≤ len ∧ i = .int .i64 (k : Int) ∧ x = .slice a n c ∧ n ≤ 1001 * k ∧ noSep ((pans L).take k) = true ∧ Mk w wr (.slice a n c) n (jn ((pans L).take k))) (fun _ i _ _ => len - (intOf i).toNat)
    case atStart => exact ⟨0, 0, 0, none, by omega, rfl, rfl, by omega, rfl, Mk.nil w⟩
    case round =>
      obtain ⟨k, n, c, a, hk, rfl, rfl, hn, hno, hmk⟩ := hrel
      have HG2 : Hid (T.Given wr ao len cap L) := HG.out.below hmk.2
      have M := hid hmk
      have HNo := hid hno
      have ca := hmk.1.caps
      have ca1 := ca.2.1
      have ca2 := ca.2.2
      clear hmk hno ca
      by_cases hlt : k < len
      · have HK : Hid (k < L.length) := by unfold Hid; rw [HQ.out]; exact hlt
        obtain ⟨s, hsd⟩ : ∃ s, L.getD k ⟨#[]⟩ = s := ⟨_, rfl⟩
        have hs1 : s.size ≤ 1000 := by rw [← hsd]; exact getD_size HZ.out k
        have HSD := hid hsd
        have HNS : Hid (noSep ((pans L).take (k + 1)) = !spB (panL s)) := by unfold Hid; rw [pans_take L k HK.out, noSep_snoc, HNo.out, hsd, Bool.true_and]
        clear hsd
        obtain ⟨P, hP⟩ : ∃ P, panL s = P := ⟨_, rfl⟩
        rw [hP] at HNS
        have HPL : Hid (P.length = s.size) := by unfold Hid; rw [← hP, panL_len]
        have HPG : Hid (∀ j (h : j < s.size), (s[j].toNat : Int) = P.getD j 0) := fun j hj => by rw [← hP, pan_getD s j hj]
        have HPP := hid hP
        clear hP
        by_cases h0 : k = 0
        · subst h0
          obtain ⟨b, o, rfl, hc⟩ := HG2.out.cell 0 hlt
          rw [HSD.out, Nat.add_zero] at hc
          have HJ : Hid (jn ((pans L).take (0 + 1)) = jn ((pans L).take 0) ++ panL s) := by unfold Hid; rw [jn_first L HK.out, HSD.out]
          generalize jn ((pans L).take 0) = y at *
          rw [show ((0 : Nat) : Int) = 0 from rfl]
          go_wp2
          go_loop [6] (fun j => ∃ (t : Nat), t ≤ s.size ∧ j = .int .i64 (t : Int) ∧ spB (P.take t) = false) (fun j => s.size - (intOf j).toNat)
          case atStart => exact ⟨0, by omega, rfl, rfl⟩
          case round =>
            obtain ⟨t, ht, rfl, hnt⟩ := hrel
            have HNT := hid hnt
            clear hnt
            by_cases htl : t < s.size
            · have HPS : Hid (spB (P.take (t + 1)) = decide (P.getD t 0 = 28)) := by unfold Hid; rw [sp_snoc P t (by rw [HPL.out]; exact htl), HNT.out, Bool.false_or]
              have hcc := HPG.out t htl
              generalize P.getD t 0 = z at *
              by_cases z2 : z = 28
              · have F := hid (jOk_sep (noSep_more (HNS.out.trans (by rw [sp_more (HPS.out.trans (decide_eq_true z2))]; rfl))))
                clear HPS
                subst z2
                go_wp2
                go_ret2
                exact j_no F.out M.out.2
              · have HT := hid (HPS.out.trans (decide_eq_false z2))
                have e2 : (z == 28) = false := by simpa using z2
                clear HPS
                go_wp2
                go_round
                case rel => exact ⟨t + 1, by omega, by go_num, HT.out⟩
                case measure => simp [intOf]; omega
            · have hsp : spB P = false := by rw [← take_done (zs := P) (k := t) (by rw [HPL.out]; omega)]; exact HNT.out
              have HT : Hid (noSep ((pans L).take (0 + 1)) = true) := HNS.out.trans (by rw [hsp]; rfl)
              clear hsp HNT HNS
              go_wp2_with (at_builtin; have kill := M.out; refine app_text (t := s) M.out.1 M.out.2.size (by omega) rfl _ _ rfl rfl rfl ?_; intro a4 c4 w4 r4 t4; have D4 := hid (M.out.next r4 t4); clear r4 t4 kill M)
              go_roundw
              case rel => exact ⟨0 + 1, n + s.size, c4, a4, by omega, by go_num, rfl, by omega, HT.out, by rw [HJ.out]; exact D4.out⟩
              case measure => simp [intOf]; omega
        · have HJ : Hid (jn ((pans L).take (k + 1)) = jn ((pans L).take k) ++ [28] ++ panL s) := by unfold Hid; rw [jn_step L k HK.out (by omega), HSD.out]
          have h0' : (0 : Int) < (k : Int) := by omega
          generalize jn ((pans L).take k) = y at *
          have M1 : Hid (Mk w (wr.alloc (.cells #[.int .u8 28] 5)) (.slice a n c) n y) := M.out.more (bel1 _ _)
          have R1 := hid (one_row wr 28)
          have L1 := hid (len1 28)
          go_upto_region 9 with (at_builtin; have kill := M1.out; refine app_row (l2 := [28]) M1.out.1 R1.out L1.out (fun e => by cases e) M1.out.2.size (by omega) rfl _ _ rfl rfl rfl ?_; intro a3 c3 w3 r3 t3; have D3 := hid (M1.out.next r3 t3); clear r3 t3 kill M1)
          have HG3 : Hid (T.Given w3 ao len cap L) := HG.out.below D3.out.2
          obtain ⟨b, o, rfl, hc⟩ := HG3.out.cell k hlt
          rw [HSD.out] at hc
          have cb := D3.out.1.caps
          have cb1 := cb.2.1
          have cb2 := cb.2.2
          clear cb
          go_wp2
          go_loop [6] (fun j => ∃ (t : Nat), t ≤ s.size ∧ j = .int .i64 (t : Int) ∧ spB (P.take t) = false) (fun j => s.size - (intOf j).toNat)
          case atStart => exact ⟨0, by omega, rfl, rfl⟩
          case round =>
            obtain ⟨t, ht, rfl, hnt⟩ := hrel
            have HNT := hid hnt
            clear hnt
            by_cases htl : t < s.size
            · have HPS : Hid (spB (P.take (t + 1)) = decide (P.getD t 0 = 28)) := by unfold Hid; rw [sp_snoc P t (by rw [HPL.out]; exact htl), HNT.out, Bool.false_or]
              have hcc := HPG.out t htl
              generalize P.getD t 0 = z at *
              by_cases z2 : z = 28
              · have F := hid (jOk_sep (noSep_more (HNS.out.trans (by rw [sp_more (HPS.out.trans (decide_eq_true z2))]; rfl))))
                clear HPS
                subst z2
                go_wp2
                go_ret2
                exact j_no F.out D3.out.2
              · have HT := hid (HPS.out.trans (decide_eq_false z2))
                have e2 : (z == 28) = false := by simpa using z2
                clear HPS
                go_wp2
                go_round
                case rel => exact ⟨t + 1, by omega, by go_num, HT.out⟩
                case measure => simp [intOf]; omega
            · have hsp : spB P = false := by rw [← take_done (zs := P) (k := t) (by rw [HPL.out]; omega)]; exact HNT.out
              have HT : Hid (noSep ((pans L).take (k + 1)) = true) := HNS.out.trans (by rw [hsp]; rfl)
              clear hsp HNT HNS
              go_wp2_with (at_builtin; have kill := D3.out; refine app_text (t := s) D3.out.1 D3.out.2.size (by omega) rfl _ _ rfl rfl rfl ?_; intro a4 c4 w4 r4 t4; have D4 := hid (D3.out.next r4 t4); clear r4 t4 kill D3)
              go_roundw
              case rel => exact ⟨k + 1, n + 1 + s.size, c4, a4, by omega, by go_num, rfl, by omega, HT.out, by rw [HJ.out]; exact D4.out⟩
              case measure => simp [intOf]; omega
      · have hall : (pans L).take k = pans L := List.take_of_length_le (by rw [List.length_map, HQ.out]; omega)
        rw [hall] at M HNo
        have F := hid (jOk_yes (by rw [HQ.out]; omega) HNo.out)
        clear hall HNo
        go_wp2
        go_ret2
        exact j_yes F.out M.out
end Go.Proofs.YtbipikbefokihaaDoor
