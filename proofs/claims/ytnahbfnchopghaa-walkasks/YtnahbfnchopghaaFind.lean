/- The state of a number, the code's and the document's: by the same plain function. -/
import Derived.Test.YtnahbfnchopghaaTiny
namespace Go.Proofs.Ytnahbfnchopghaa
open Go.ChangeShapes Go.WideShapes Go.ChangeAt Go.RowKit

def FindAns (w : World) (l : List St) (x : Int) (e : Ending) (w' : World) : Prop := e = .returned (.tuple #[(findL l x).val, .bool (foundL l x)]) ∧ Below w.heap.size w w'
set_option maxHeartbeats 2000000 in
theorem find11 (ao : Option Addr) (len cap : Nat) (l : List St) (x : Int) (w : World) (h : SG w ao len cap l) :
    Calls Try.prog 14 #[.slice ao len cap, .int .i64 x] w (FindAns w l x) := by
  have hm : len ≤ 9223372036854775807 := Nat.le_trans h.cap1 h.cap2
  have HQ := hid h.leq
  have HG := hid h
  clear h
  go_enter Try.func14, Try.ntmps14
  go_wp2_with (refine al34 rfl rfl ?_; intro b0 w1 hb0 v1 l1; have V1 := hid v1; have L1 := hid l1; have G1 := hid (HG.out.below l1); clear v1 l1)
  go_loopw [10] (fun i wr => ∃ k : Nat, k ≤ len ∧ i = .int .i64 (k : Int) ∧ (∀ j, j < k → (sAt l j).id ≠ x) ∧ RV wr b0 St.zero ∧ Below w.heap.size w wr) (fun i _ => len - (intOf i).toNat)
  case atStart => exact ⟨0, by omega, rfl, fun _ h => by omega, V1.out, L1.out⟩
  case round =>
    obtain ⟨k, hk, rfl, hn, v2, l2⟩ := hrel
    have HN := hid hn
    have V2 := hid v2
    have L2 := hid l2
    have G2 := hid (HG.out.below l2)
    clear hn v2 l2 V1 L1 G1
    by_cases hlt : k < len
    · have hkl : k < l.length := by rw [HQ.out]; exact hlt
      have hget := sAt_get hkl
      obtain ⟨r, hr⟩ : ∃ r, sAt l k = r := ⟨_, rfl⟩
      rw [hr] at hget
      obtain ⟨b, o, rfl, hc⟩ := G2.out.at hget
      have HC := hid hc
      have HR := hid hr
      have HKL := hid hkl
      clear hc hget hr hkl
      by_cases he : r.id = x
      · have e1 : (r.id == x) = true := by simpa using he
        have HA := hid (find_at HKL.out (by rw [HR.out]; exact he) HN.out)
        clear he
        go_wp2_with (first | (have kill := V4.out; refine ld34 V4.out rfl _ rfl rfl ?_) | (have kill := V4.out; refine st34 (r := r) (V2.out.below L5.out) L6.out hb0 rfl _ _ rfl rfl rfl ?_; intro w7 v7 l7; have V7 := hid v7; have L7 := hid l7; clear v7 l7 kill V4) | (have kill := V3.out; refine st34 (r := r) (w0 := wr) V3.out L3.out hb3 rfl _ _ rfl rfl rfl ?_; intro w4 v4 l4; have c0 := v4.cell 0 (v := .int .i64 r.id) rfl; have V4 := hid v4; have L5 := hid l4; have L6 := hid (sq L2.out l4); clear v4 l4 kill V3 L3) | (refine ldS HC.out rfl _ rfl rfl ?_) | (refine al34 rfl rfl ?_; intro b3 w3 hb3 v3 l3; have V3 := hid v3; have L3 := hid l3; clear v3 l3))
        refine bodyPost_ret (results_c1 Try.results14 _ _ rfl rfl V7.out) rfl ⟨?_, L7.out⟩
        rw [HA.out.1, HA.out.2, HR.out]; rfl
      · have e1 : (r.id == x) = false := by simpa using he
        have HN2 : Hid (∀ j, j < k + 1 → (sAt l j).id ≠ x) := fun j hj => by
          rcases Nat.lt_or_ge j k with h | h
          · exact HN.out j h
          · have : j = k := by omega
            subst this; rw [HR.out]; exact he
        clear he HN
        go_wp2_with (first | (have kill := V3.out; refine st34 (r := r) (w0 := wr) V3.out L3.out hb3 rfl _ _ rfl rfl rfl ?_; intro w4 v4 l4; have c0 := v4.cell 0 (v := .int .i64 r.id) rfl; have V4 := hid v4; have L5 := hid l4; have L6 := hid (sq L2.out l4); clear v4 l4 kill V3 L3) | (refine ldS HC.out rfl _ rfl rfl ?_) | (refine al34 rfl rfl ?_; intro b3 w3 hb3 v3 l3; have V3 := hid v3; have L3 := hid l3; clear v3 l3))
        go_roundw
        case rel => exact ⟨k + 1, by omega, by go_num, HN2.out, V2.out.below L5.out, L6.out⟩
        case measure => simp [intOf]; omega
    · have hk2 : k = len := by omega
      have HA := hid (find_no (l := l) (x := x) (fun j hj => HN.out j (by rw [HQ.out] at hj; omega)))
      go_wp2_with (first | (have kill := V2.out; refine st34 (r := St.zero) V2.out L2.out hb0 rfl _ _ rfl rfl rfl ?_; intro w7 v7 l7; have V7 := hid v7; have L7 := hid l7; clear v7 l7 kill V2) | (refine bd34 rfl rfl ?_))
      refine bodyPost_ret (results_c1 Try.results14 _ _ rfl rfl V7.out) rfl ⟨?_, L7.out⟩
      rw [HA.out.1, HA.out.2]; rfl
set_option maxHeartbeats 2000000 in
theorem find12 (ao : Option Addr) (len cap : Nat) (l : List St) (x : Int) (w : World) (h : SG w ao len cap l) :
    Calls Try.prog 16 #[.slice ao len cap, .int .i64 x] w (FindAns w l x) := by
  have hm : len ≤ 9223372036854775807 := Nat.le_trans h.cap1 h.cap2
  have HQ := hid h.leq
  have HG := hid h
  clear h
  go_enter Try.func16, Try.ntmps16
  go_wp2_with (refine al34 rfl rfl ?_; intro b0 w1 hb0 v1 l1; have V1 := hid v1; have L1 := hid l1; have G1 := hid (HG.out.below l1); clear v1 l1)
  go_loop [6] (fun i => ∃ k : Nat, k ≤ len ∧ i = .int .i64 (k : Int) ∧ (∀ j, j < k → (sAt l j).id ≠ x)) (fun i => len - (intOf i).toNat)
  case atStart => exact ⟨0, by omega, rfl, fun _ h => by omega⟩
  case round =>
    obtain ⟨k, hk, rfl, hn⟩ := hrel
    have HN := hid hn
    clear hn
    by_cases hlt : k < len
    · have hkl : k < l.length := by rw [HQ.out]; exact hlt
      have hget := sAt_get hkl
      obtain ⟨r, hr⟩ : ∃ r, sAt l k = r := ⟨_, rfl⟩
      rw [hr] at hget
      obtain ⟨b, o, rfl, hc⟩ := G1.out.at hget
      have HC := hid hc
      have HR := hid hr
      have HKL := hid hkl
      have c0 := hc 0 _ (rfl : r.cells[0]? = some (.int .i64 r.id))
      rw [Nat.add_zero] at c0
      clear hc hget hr hkl
      by_cases he : r.id = x
      · have e1 : (r.id == x) = true := by simpa using he
        have HA := hid (find_at HKL.out (by rw [HR.out]; exact he) HN.out)
        clear he
        go_wp2_with (first | (refine st34 (r := r) V1.out L1.out hb0 rfl _ _ rfl rfl rfl ?_; intro w7 v7 l7; have V7 := hid v7; have L7 := hid l7; clear v7 l7 V1) | (refine ldS HC.out rfl _ rfl rfl ?_))
        refine bodyPost_ret (results_c1 Try.results16 _ _ rfl rfl V7.out) rfl ⟨?_, L7.out⟩
        rw [HA.out.1, HA.out.2, HR.out]; rfl
      · have e1 : (r.id == x) = false := by simpa using he
        have HN2 : Hid (∀ j, j < k + 1 → (sAt l j).id ≠ x) := fun j hj => by
          rcases Nat.lt_or_ge j k with h | h
          · exact HN.out j h
          · have : j = k := by omega
            subst this; rw [HR.out]; exact he
        clear he HN
        go_wp2
        go_round
        case rel => exact ⟨k + 1, by omega, by go_num, HN2.out⟩
        case measure => simp [intOf]; omega
    · have hk2 : k = len := by omega
      have HA := hid (find_no (l := l) (x := x) (fun j hj => HN.out j (by rw [HQ.out] at hj; omega)))
      go_wp2_with (first | (have kill := V1.out; refine st34 (r := St.zero) V1.out L1.out hb0 rfl _ _ rfl rfl rfl ?_; intro w7 v7 l7; have V7 := hid v7; have L7 := hid l7; clear v7 l7 kill V1) | (refine bd34 rfl rfl ?_))
      refine bodyPost_ret (results_c1 Try.results16 _ _ rfl rfl V7.out) rfl ⟨?_, L7.out⟩
      rw [HA.out.1, HA.out.2]; rfl
end Go.Proofs.Ytnahbfnchopghaa
