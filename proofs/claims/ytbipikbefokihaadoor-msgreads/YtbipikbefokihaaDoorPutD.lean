/- Put: a message's bytes. -/
import Derived.Test.YtbipikbefokihaaDoorPutC
namespace Go.Proofs.YtbipikbefokihaaDoor
open Go.ChangeShapes Go.WideShapes Go.ChangeAt Go.RowKit

def PtAns (w : World) (m : Ms) (e : Ending) (w' : World) : Prop := ∃ ao n c, e = .returned (.tuple #[.slice ao n c, .int .i64 (putE m)]) ∧ Mk w w' (.slice ao n c) n (putL m)
theorem pt_no {w w' : World} {m : Ms} (h : rightL m = false) (hb : Below w.heap.size w w') : PtAns w m (.returned (.tuple #[.slice none 0 0, .int .i64 27])) w' :=
  ⟨none, 0, 0, by unfold putE; rw [h]; rfl, by unfold putL; rw [h]; exact (Mk.nil w).more hb⟩
theorem pt_yes {w w' : World} {m : Ms} {ao : Option Addr} {n c : Nat} (h : rightL m = true) (hm : Mk w w' (.slice ao n c) n (jX (pans (partsL m)))) : PtAns w m (.returned (.tuple #[.slice ao n c, .int .i64 0])) w' :=
  ⟨ao, n, c, by unfold putE; rw [if_pos h], by unfold putL; rw [if_pos h]; exact hm⟩
theorem Mk.late {W0 w w' : World} {v : Value} {n : Nat} {l : List Int} (hb : Below W0.heap.size W0 w) (h : Mk w w' v n l) : Mk W0 w' v n l := ⟨h.1.mono hb.size, hb.trans (h.2.mono hb.size)⟩
theorem flat_take (m : Ms) (H : List Int) (k : Nat) (h : k < H.length) : (H.take (k + 1)).flatMap (putF m) = (H.take k).flatMap (putF m) ++ putF m (H.getD k 0) := by
  rw [take_snocI H k h, List.flatMap_append]; simp
theorem getD_mem {H : List Int} {k : Nat} (h : k < H.length) : H.getD k 0 ∈ H := by
  have e : H.getD k 0 = H[k] := by simp [h]
  rw [e]; exact List.getElem_mem h
theorem parts_txt {m : Ms} (h : rightL m = true) : Txt (partsL m) := fun s hs => by have := (parts_dig h s hs).2; omega
theorem parts_size {m : Ms} (h : rightL m = true) : ∀ s ∈ partsL m, s.size ≤ 1000 := fun s hs => by have := (parts_dig h s hs).2; omega
theorem parts_len (m : Ms) : (partsL m).length ≤ 33 := by
  have := flat_len m (hasK m.kind) (fun f hf => has_ten hf)
  have := has_len m.kind
  unfold partsL; rw [List.length_cons]; omega
set_option maxHeartbeats 4000000 in
theorem put9 (m : Ms) (w : World) (hm : m.Ok) (hp : m.pan.size ≤ 9223372036854775807) (ht : Tab w) :
    Calls Tryd.prog 9 #[m.val] w (PtAns w m) := by
  have HM := hid hm
  have HP := hid hp
  have HTB := hid ht
  clear hm hp ht
  cases hr : rightL m
  · have HR := hid hr
    clear hr
    go_enter Tryd.func9, Tryd.ntmps9
    go_wp2_with (first | (go_at_call 11; have kill := V1.out; refine (right11 m _ HM.out HP.out).mono ?_; rintro e w2 ⟨rfl, l2⟩; rw [HR.out]; have L2 := hid (sq L1.out l2); clear l2 kill V1) | (have kill := V1.out; refine ld27 V1.out rfl _ rfl rfl ?_) | (refine bx27 rfl _ rfl rfl ?_; intro b1 w1 hb1 v1 l1; have V1 := hid v1; have L1 := hid l1; clear v1 l1))
    go_ret2
    exact pt_no HR.out L2.out
  · have HR := hid hr
    have HO : Hid (okK m.kind = true) := (right_iff.1 hr).1
    have HF : Hid (∀ f ∈ hasK m.kind, rightF m f = true) := (right_iff.1 hr).2.1
    have HTX := hid (parts_txt hr)
    have HSZ := hid (parts_size hr)
    have HPN := hid (parts_len m)
    clear hr
    obtain ⟨H, hH⟩ : ∃ H, hasK m.kind = H := ⟨_, rfl⟩
    have HTN : Hid (∀ f ∈ H, f ∈ tenF) := fun f hf => has_ten (k := m.kind) (by rw [hH]; exact hf)
    have HPL : Hid (partsL m = codeK m.kind :: H.flatMap (putF m)) := by unfold Hid partsL; rw [hH]
    have HLN : Hid (H.length ≤ 8) := by unfold Hid; rw [← hH]; exact has_len _
    have HH := hid hH
    rw [hH] at HF
    obtain ⟨C, hC⟩ : ∃ C, codeK m.kind = C := ⟨_, rfl⟩
    rw [hC] at HPL
    have HC := hid hC
    clear hH hC
    go_enter Tryd.func9, Tryd.ntmps9
    go_wp2_with (first | (go_at_call 18; have kill := V2.out; refine (layout18 _ _).mono ?_; rintro e w3 ⟨a3, n3, rfl, g3, l3⟩; rw [HO.out, HC.out]; have G3 := hid g3; rw [HH.out] at G3; have V3 := hid (V2.out.below l3); have L3 := hid (sq L2.out l3); clear g3 l3 kill L2 V2) | (go_at_call 11; have kill := V1.out; refine (right11 m _ HM.out HP.out).mono ?_; rintro e w2 ⟨rfl, l2⟩; rw [HR.out]; have V2 := hid (V1.out.below l2); have cc : w2.cell? ⟨b1, 0, none⟩ = some (.int .i64 m.kind) := V2.out.cell 0 rfl; have L2 := hid (sq L1.out l2); clear l2 kill V1) | (have kill := V1.out; refine ld27 V1.out rfl _ rfl rfl ?_) | (refine bx27 rfl _ rfl rfl ?_; intro b1 w1 hb1 v1 l1; have V1 := hid v1; have L1 := hid l1; clear v1 l1))
    have hcap := G3.out.cap2
    have HGQ := hid G3.out.leq
    have h8 : n3 ≤ 8 := by have := HLN.out; rwa [HGQ.out] at this
    go_loopw [7, 26] (fun x i wr => ∃ (k n c : Nat) (a : Option Addr), k ≤ n3 ∧ i = .int .i64 (k : Int) ∧ x = .slice a n c ∧ n ≤ 1 + 4 * k ∧ T.Mk w3 wr (.slice a n c) n (C :: (H.take k).flatMap (putF m))) (fun _ i _ => n3 - (intOf i).toNat)
    case atStart => exact ⟨0, 1, 1, _, by omega, rfl, rfl, by omega, T.Mk.new w3 [C] 1 rfl (by omega)⟩
    case round =>
      obtain ⟨k, n, c, a, hk, rfl, rfl, hnk, hmk⟩ := hrel
      have M := hid hmk
      have VR := hid (V3.out.below hmk.2)
      have GR := hid (G3.out.below hmk.2)
      have TR : Hid (Tab wr) := HTB.out.below (sq L3.out hmk.2)
      have ca := hmk.1.caps
      have ca1 := ca.2.1
      have ca2 := ca.2.2
      clear hmk ca
      by_cases hlt : k < n3
      · have HK : Hid (k < H.length) := by unfold Hid; rw [HGQ.out]; exact hlt
        obtain ⟨b, o, rfl, hc⟩ := GR.out.cell k hlt
        have HS := hid (flat_take m H k HK.out)
        have HFM := hid (getD_mem HK.out)
        generalize H.getD k 0 = f at *
        have HFT := hid (HTN.out f HFM.out)
        have HFR := hid (HF.out f HFM.out)
        have HP4 : Hid ((putF m f).length ≤ 4) := by unfold Hid; rw [put_len HFT.out]; unfold cntF; split <;> omega
        obtain ⟨D, hD⟩ : ∃ D, putF m f = D := ⟨_, rfl⟩
        rw [hD] at HS HP4
        have HDD := hid hD
        clear hD
        go_wp2_with (first | (at_builtin; have kill := M1.out; refine T.app_row (l2 := D) M1.out.1 R1.out Q1.out N1.out M1.out.2.size (by omega) rfl _ _ rfl rfl rfl ?_; intro a5 c5 w5 r5 t5; have D5 := hid (M1.out.next r5 t5); clear r5 t5 kill M1) | (go_at_call 19; have kill := VR.out; refine (putField19 m f _ HFT.out HM.out HFR.out TR.out).mono ?_; rintro e w4 ⟨a4, n4, c4, rfl, m4⟩; rw [HDD.out] at m4; have M1 : Hid (T.Mk w3 w4 (.slice a n c) n (C :: (H.take k).flatMap (putF m))) := M.out.more m4.2; have R1 := hid m4.1.at; have Q1 := hid m4.1.len; have N1 := hid m4.1.caps.1; have h44 : n4 ≤ 4 := (by have := HP4.out; rwa [Q1.out] at this); clear m4 kill VR) | (have kill := VR.out; refine ld27 VR.out rfl _ rfl rfl ?_))
        go_roundw
        case rel => exact ⟨k + 1, n + n4, c5, a5, by omega, by go_num, rfl, by omega, by rw [HS.out]; exact D5.out⟩
        case measure => simp [intOf]; omega
      · have hall : H.take k = H := List.take_of_length_le (by rw [HGQ.out]; omega)
        rw [hall, ← HPL.out] at M
        clear hall
        go_wp2_with (go_at_call 20; have kill := M.out; refine (join11 _ _ _ (partsL m) _ (M.out.given HTX.out) (by have := HPN.out; rw [M.out.1.len] at this; omega) HSZ.out).mono ?_; rintro e w4 ⟨a4, n4, c4, rfl, m4⟩; have M4 := hid (Mk.late (sq L3.out M.out.2) m4); clear m4 kill M)
        go_ret2
        exact pt_yes HR.out M4.out
end Go.Proofs.YtbipikbefokihaaDoor
