/- Check, the code's: by the plain function. -/
import Derived.Test.YthhgochnlbiaaaaMay
namespace Go.Proofs.Ythhgochnlbiaaaa
open Go.ChangeShapes Go.WideShapes Go.ChangeAt Go.RowKit Go.Maps

def CkAns (w : World) (l : List St) (e : Ending) (w' : World) : Prop := e = .returned (.tuple #[.int .i64 (checkL l).1, .int .i64 (checkL l).2]) ∧ Below w.heap.size w w'
theorem ck_of {l : List St} {a b : Int} (h : checkL l = (a, b)) : Ending.returned (.tuple #[.int .i64 a, .int .i64 b]) = .returned (.tuple #[.int .i64 (checkL l).1, .int .i64 (checkL l).2]) := by rw [h]
theorem none_yes {l : List St} {k t : Nat} (ht : t < (leadsL (sAt l k)).length) (h : hasId l ((leadsL (sAt l k)).getD t 0) = false) : noneB l k = true := by
  unfold noneB
  rw [List.any_eq_true]
  exact ⟨(leadsL (sAt l k)).getD t 0, by simp [ht], by rw [h]; rfl⟩
theorem none_not {l : List St} {k : Nat} (h : ∀ t, t < (leadsL (sAt l k)).length → hasId l ((leadsL (sAt l k)).getD t 0) = true) : noneB l k = false := by
  unfold noneB
  rw [List.any_eq_false]
  intro x hx
  obtain ⟨t, ht, e⟩ := List.mem_iff_getElem.1 hx
  have := h t ht
  rw [show (leadsL (sAt l k)).getD t 0 = x by rw [List.getD_eq_getElem?_getD, List.getElem?_eq_getElem ht, e]; rfl] at this
  rw [this]; simp
theorem upto {p : Nat → Prop} {k : Nat} (h : ∀ j, j < k → p j) (hk : p k) : ∀ j, j < k + 1 → p j := fun j hj => by
  rcases Nat.lt_or_ge j k with h2 | h2
  · exact h j h2
  · have : j = k := by omega
    subst this; exact hk
set_option maxHeartbeats 8000000 in
theorem check9 (ao : Option Addr) (len cap : Nat) (l : List St) (w : World) (h : SG w ao len cap l) (hs : len ≤ 1000) (hok : OkT l) :
    Calls Try.prog 9 #[.slice ao len cap] w (CkAns w l) := by
  have hm : len ≤ 9223372036854775807 := by omega
  have HQ := hid h.leq
  have HG := hid h
  have HOK := hid hok
  have hmm := @run_makeMap Try.prog
  clear h hok
  have M0 := hid (MI.made w)
  have L0 := hid (bel1 w (.map #[] 0))
  go_enter Try.func9, Try.ntmps9
  go_wp2
  clear hmm
  obtain ⟨bm, hbm⟩ : ∃ b, w.heap.size = b := ⟨_, rfl⟩
  have HBM : Hid (w.heap.size ≤ bm) := by unfold Hid; omega
  rw [hbm] at M0 ⊢
  generalize w.alloc (.map #[] 0) = w0 at *
  clear hbm
  go_loopw [20] (fun i wr => ∃ (k : Nat) (f : Int → Option Int), k ≤ len ∧ i = .int .i64 (k : Int) ∧ MI wr bm k f ∧ PF l k f ∧ (∀ j, j < k → dupB l j = false) ∧ Below w.heap.size w wr) (fun i _ => len - (intOf i).toNat)
  case atStart => exact ⟨0, _, by omega, rfl, M0.out, PF.none_, fun _ h => by omega, L0.out⟩
  case round =>
    obtain ⟨k, f, hk, rfl, mi, pf, nd, be⟩ := hrel
    have MI1 := hid mi
    have PF1 := hid pf
    have ND1 := hid nd
    have L1 := hid be
    clear mi pf nd be M0 L0
    by_cases hlt : k < len
    · have hkl : k < l.length := by rw [HQ.out]; exact hlt
      have hget := sAt_get hkl
      obtain ⟨r, hr⟩ : ∃ r, sAt l k = r := ⟨_, rfl⟩
      rw [hr] at hget
      obtain ⟨b, o, rfl, hc⟩ := (HG.out.below L1.out).at hget
      have HC := hid hc
      have HR := hid hr
      have HKL := hid hkl
      have HID : Hid (I64 r.id) := by have := (HOK.out k).1; rw [hr] at this; exact this
      have HK64 : Hid (I64 (k : Int)) := by unfold Hid I64; omega
      have hsome := PF1.out.dup (Nat.le_of_lt hkl)
      rw [hr] at hsome
      clear hc hget hr hkl
      cases hd : dupB l k
      · rw [hd] at hsome
        have HS := hid hsome
        have HN : Hid (f r.id = none) := by unfold Hid; cases e : f r.id with | none => rfl | some v => rw [e] at hsome; cases hsome
        have HD := hid (upto ND1.out hd)
        have hk6 : k < 1000000 := by omega
        clear hsome hd
        go_wp2_with (first | (at_mapUpdate; have kill := M4.out; refine storeI _ _ _ rfl (wanted_none' rfl _) M4.out hk6 r.id k rfl rfl rfl HID.out HK64.out ?_; intro w6 m6 g6; have M6 := hid m6; have L6 := hid (L4.out.grown g6 L4.out.size (fun q hq => by cases hq; exact HBM.out)); clear m6 g6 kill M4) | (at_lookup; have kill := M4.out; refine okI _ _ rfl (wanted_none' rfl _) M4.out r.id rfl rfl HID.out ?_; rw [HS.out]) | (have kill := V3.out; refine st34 (r := r) (w0 := wr) V3.out L3.out hb3 rfl _ _ rfl rfl rfl ?_; intro w4 v4 l4; have c0 := v4.cell 0 (v := .int .i64 r.id) rfl; have L4 := hid (sq L1.out l4); have M4 := hid (MI1.out.below l4); clear v4 l4 kill V3 L3) | (refine ldS HC.out rfl _ rfl rfl ?_) | (refine al34 rfl rfl ?_; intro b3 w3 hb3 v3 l3; have V3 := hid v3; have L3 := hid l3; clear v3 l3))
        go_roundw
        case rel => exact ⟨k + 1, _, by omega, by go_num, M6.out, by have := PF1.out.more (by rw [HR.out]; exact HN.out); rw [HR.out] at this; exact this, HD.out, L6.out⟩
        case measure => simp [intOf]; omega
      · rw [hd] at hsome
        have HS := hid hsome
        have HA := hid (check_dup HKL.out hd ND1.out)
        clear hsome hd
        go_wp2_with (first | (at_lookup; have kill := M4.out; refine okI _ _ rfl (wanted_none' rfl _) M4.out r.id rfl rfl HID.out ?_; rw [HS.out]) | (have kill := V3.out; refine st34 (r := r) (w0 := wr) V3.out L3.out hb3 rfl _ _ rfl rfl rfl ?_; intro w4 v4 l4; have c0 := v4.cell 0 (v := .int .i64 r.id) rfl; have L4 := hid (sq L1.out l4); have M4 := hid (MI1.out.below l4); clear v4 l4 kill V3 L3) | (refine ldS HC.out rfl _ rfl rfl ?_) | (refine al34 rfl rfl ?_; intro b3 w3 hb3 v3 l3; have V3 := hid v3; have L3 := hid l3; clear v3 l3))
        go_ret2
        exact ⟨ck_of HA.out, L4.out⟩
    · obtain rfl : len = k := by omega
      have hk3 : len = l.length := by rw [HQ.out]
      have PF2 : Hid (PF l l.length f) := by unfold Hid; rw [← hk3]; exact PF1.out
      have ND2 : Hid (∀ j, j < l.length → dupB l j = false) := by unfold Hid; rw [← hk3]; exact ND1.out
      have MI2 := hid MI1.out
      have L2 := hid L1.out
      clear PF1 ND1 hk3 MI1 L1
      go_wp2
      go_loopw [41] (fun i wr => ∃ (k : Nat), k ≤ len ∧ i = .int .i64 (k : Int) ∧ MI wr bm len f ∧ (∀ j, j < k → noneB l j = false) ∧ Below w.heap.size w wr) (fun i _ => len - (intOf i).toNat)
      case atStart => exact ⟨0, by omega, rfl, MI2.out, fun _ h => by omega, L2.out⟩
      case round =>
        obtain ⟨k, hk, rfl, mi, nn, be⟩ := hrel
        have MI1 := hid mi
        have NN1 := hid nn
        have L1 := hid be
        clear mi nn be MI2 L2
        by_cases hlt : k < len
        · have hkl : k < l.length := by rw [HQ.out]; exact hlt
          have hget := sAt_get hkl
          obtain ⟨r, hr⟩ : ∃ r, sAt l k = r := ⟨_, rfl⟩
          rw [hr] at hget
          obtain ⟨b, o, rfl, hc⟩ := (HG.out.below L1.out).at hget
          have HC := hid hc
          have HR := hid hr
          have HKL := hid hkl
          clear hc hget hr hkl
          go_wp2_with (first | (go_at_call 18; have kill := V4.out; refine (leads18 r _).mono ?_; rintro e8 w5 ⟨a5, c5, n5, rfl, q1, q2, q3, q4, q5, q6, l5⟩; have L9 := hid (sq L1.out (sq L5.out l5)); have M9 := hid (MI1.out.below (sq L5.out l5)); have Q1 := hid q1; have Q2 := hid q2; have Q5 := hid q5; clear q1 q2 q5 q6 l5 kill V4 L5) | (have kill := V4.out; refine ld34 V4.out rfl _ rfl rfl ?_) | (have kill := V3.out; refine st34 (r := r) (w0 := wr) V3.out L3.out hb3 rfl _ _ rfl rfl rfl ?_; intro w4 v4 l4; have V4 := hid v4; have L5 := hid l4; clear v4 l4 kill V3 L3) | (refine ldS HC.out rfl _ rfl rfl ?_) | (refine al34 rfl rfl ?_; intro b3 w3 hb3 v3 l3; have V3 := hid v3; have L3 := hid l3; clear v3 l3))
          go_loop [49] (fun i => ∃ t : Nat, t ≤ n5 ∧ i = .int .i64 (t : Int) ∧ ∀ p, p < t → hasId l ((leadsL r).getD p 0) = true) (fun i => n5 - (intOf i).toNat)
          case atStart => exact ⟨0, by omega, rfl, fun _ h => by omega⟩
          case round =>
            obtain ⟨t, ht, rfl, hh⟩ := hrel
            have HH := hid hh
            clear hh
            by_cases hlt2 : t < n5
            · have htl : t < (leadsL r).length := by rw [Q1.out]; exact hlt2
              obtain ⟨y, hy⟩ : ∃ y, (leadsL r).getD t 0 = y := ⟨_, rfl⟩
              have HY : Hid (I64 y) := by unfold Hid; rw [← hy, ← HR.out]; exact ok_leads HOK.out k t
              obtain ⟨bl, ol, rfl, c6⟩ : ∃ bl ol, a5 = some ⟨bl, ol, none⟩ ∧ w5.cell? ⟨bl, ol + t, none⟩ = some (.int .i64 y) := by
                rcases Q5.out with h0 | ⟨bl, ol, e, hcc⟩
                · rw [h0] at htl; simp at htl
                · have := hcc t htl
                  rw [hy] at this
                  exact ⟨bl, ol, e, this⟩
              have hsome := PF2.out.has y
              have HYY := hid hy
              have HTL := hid htl
              clear hy htl
              cases hd : hasId l y
              · rw [hd] at hsome
                have HS := hid hsome
                have HA := hid (check_none ND2.out HKL.out (none_yes (t := t) (by rw [HR.out]; exact HTL.out) (by rw [HR.out, HYY.out]; exact hd)) NN1.out)
                clear hsome hd
                go_wp2_with (at_lookup; refine okI _ _ rfl (wanted_none' rfl _) M9.out y rfl rfl HY.out ?_; rw [HS.out])
                go_ret2
                exact ⟨ck_of HA.out, L9.out⟩
              · rw [hd] at hsome
                have HS := hid hsome
                have HH2 := hid (upto (p := fun p => hasId l ((leadsL r).getD p 0) = true) HH.out (by rw [HYY.out]; exact hd))
                clear hsome hd
                go_wp2_with (at_lookup; refine okI _ _ rfl (wanted_none' rfl _) M9.out y rfl rfl HY.out ?_; rw [HS.out])
                go_round
                case rel => exact ⟨t + 1, by omega, by go_num, HH2.out⟩
                case measure => simp [intOf]; omega
            · have HN2 := hid (upto (p := fun j => noneB l j = false) NN1.out (none_not (l := l) (k := k) (fun p hp => by rw [HR.out] at hp ⊢; exact HH.out p (by rw [Q1.out] at hp; omega))))
              go_wp2
              go_roundw
              case rel => exact ⟨k + 1, by omega, by go_num, M9.out, HN2.out, L9.out⟩
              case measure => simp [intOf]; omega
        · obtain rfl : len = k := by omega
          have NN2 : Hid (∀ j, j < l.length → noneB l j = false) := by unfold Hid; rw [HQ.out]; exact NN1.out
          have G1 := hid (HG.out.below L1.out)
          go_wp2_with (go_at_call 19; have kill := MI1.out; refine (mayEnd19 _ _ _ l bm len f _ G1.out MI1.out hs HOK.out PF2.out (once_of ND2.out) NN2.out).mono ?_; rintro e8 w5 ⟨bE, rfl, hre, l5⟩; have RE := hid hre; have L9 := hid (sq L1.out l5); clear hre l5 kill MI1)
          go_loop [68] (fun i => ∃ t : Nat, t ≤ len ∧ i = .int .i64 (t : Int) ∧ ∀ p, p < t → endF l (sAt l p).id = true) (fun i => len - (intOf i).toNat)
          case atStart => exact ⟨0, by omega, rfl, fun _ h => by omega⟩
          case round =>
            obtain ⟨t, ht, rfl, hh⟩ := hrel
            have HH := hid hh
            clear hh
            by_cases hlt2 : t < len
            · have ce := RE.out.cell hlt2
              have htl : t < l.length := by rw [HQ.out]; exact hlt2
              cases hd : endF l (sAt l t).id
              · rw [hd] at ce
                have HA := hid (check_state ND2.out NN2.out htl hd HH.out)
                clear hd htl
                go_wp2
                go_ret2
                exact ⟨ck_of HA.out, L9.out⟩
              · rw [hd] at ce
                have HH2 := hid (upto (p := fun p => endF l (sAt l p).id = true) HH.out hd)
                clear hd htl
                go_wp2
                go_round
                case rel => exact ⟨t + 1, by omega, by go_num, HH2.out⟩
                case measure => simp [intOf]; omega
            · have HA := hid (check_ok ND2.out NN2.out (fun p hp => HH.out p (by rw [HQ.out] at hp; omega)))
              go_wp2
              go_ret2
              exact ⟨ck_of HA.out, L9.out⟩
end Go.Proofs.Ythhgochnlbiaaaa
