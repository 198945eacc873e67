/- What the document reads the head of a text as. -/
import Derived.Test.YthhgochnlbiaaaaFirst
namespace Go.Proofs.Ythhgochnlbiaaaa
open Go.ChangeShapes Go.WideShapes Go.ChangeAt Go.RowKit

theorem fk_unf {x : List Int} (h : 14 ≤ x.length) : firstK x = (decide (x.getD 3 0 = 32) && decide (x.getD 5 0 = 32) && decide (x.getD 9 0 = 32) && decide (x.getD 13 0 = 10) && kindB (x.getD 4 0) && numOk (strOfNums (pc x 0 3)) && numOk (strOfNums (pc x 6 3)) && numOk (strOfNums (pc x 10 3))) := by
  unfold firstK; rw [decide_eq_true h, Bool.true_and]
set_option maxRecDepth 20000 in
set_option maxHeartbeats 8000000 in
theorem line27 (x : List Int) (W : World) (hb : Byt x) (hl : x.length ≤ 1000000) : Calls Try.prog 27 #[.string (strOfNums x)] W (FsAns W x) := by
  by_cases h14 : x.length < 14
  · have HF := hid (first_short h14)
    have hsz := strOfNums_size x
    obtain ⟨s, hs⟩ : ∃ s, strOfNums x = s := ⟨_, rfl⟩
    rw [hs] at hsz ⊢
    have hd : decide ((s.size : Int) < 14) = true := decide_eq_true (by omega)
    clear hs hsz h14 hb hl
    go_enter Try.func27, Try.ntmps27
    go_wp2_with (first | (have kill := V1.out; refine st34 (r := St.zero) V1.out L1.out hb1 rfl _ _ rfl rfl rfl ?_; intro w9 v9 l9; have V9 := hid v9; have L9 := hid l9; clear v9 l9 kill V1) | (have kill := V1.out; refine bd34 rfl rfl ?_) | (refine al34 rfl rfl ?_; intro b1 w1 hb1 v1 l1; have V1 := hid v1; have L1 := hid l1; clear v1 l1))
    exact bodyPost_ret (results_c1 Try.results27 _ _ rfl rfl V9.out) rfl (fs_no HF.out L9.out)
  have h14 : 14 ≤ x.length := by omega
  have FK := fk_unf h14
  have e1 := ext_str x 0 3 3 rfl
  have e2 := ext_str x 6 9 3 rfl
  have e3 := ext_str x 10 13 3 rfl
  have hsz := strOfNums_size x
  have k3 : ∀ h : 3 < (strOfNums x).size, x.getD 3 0 = ((strOfNums x)[3].toNat : Int) := fun h => pan_str hb 3 h
  have k4 : ∀ h : 4 < (strOfNums x).size, x.getD 4 0 = ((strOfNums x)[4].toNat : Int) := fun h => pan_str hb 4 h
  have k5 : ∀ h : 5 < (strOfNums x).size, x.getD 5 0 = ((strOfNums x)[5].toNat : Int) := fun h => pan_str hb 5 h
  have k9 : ∀ h : 9 < (strOfNums x).size, x.getD 9 0 = ((strOfNums x)[9].toNat : Int) := fun h => pan_str hb 9 h
  have k13 : ∀ h : 13 < (strOfNums x).size, x.getD 13 0 = ((strOfNums x)[13].toNat : Int) := fun h => pan_str hb 13 h
  have hs3 : 3 < (strOfNums x).size := by omega
  have hs4 : 4 < (strOfNums x).size := by omega
  have hs5 : 5 < (strOfNums x).size := by omega
  have hs9 : 9 < (strOfNums x).size := by omega
  have hs13 : 13 < (strOfNums x).size := by omega
  obtain ⟨X, hX⟩ : ∃ X : St, firstV x = X := ⟨_, rfl⟩
  have HXF := hid hX
  have x0 : Hid (X.id = numV (strOfNums (pc x 0 3))) := by rw [← hX]; exact rfl
  have x1 : Hid (X.kind = x.getD 4 0) := by rw [← hX]; exact rfl
  have x2 : Hid (X.next = numV (strOfNums (pc x 6 3))) := by rw [← hX]; exact rfl
  have x3 : Hid (X.other = numV (strOfNums (pc x 10 3))) := by rw [← hX]; exact rfl
  have z1 : Hid ((strOfNums (pc x 0 3)).size ≤ 9223372036854775807) := by unfold Hid; rw [strOfNums_size, pc_lenX x 0 3 (by omega)]; omega
  have z2 : Hid ((strOfNums (pc x 6 3)).size ≤ 9223372036854775807) := by unfold Hid; rw [strOfNums_size, pc_lenX x 6 3 (by omega)]; omega
  have z3 : Hid ((strOfNums (pc x 10 3)).size ≤ 9223372036854775807) := by unfold Hid; rw [strOfNums_size, pc_lenX x 10 3 (by omega)]; omega
  obtain ⟨S1, hS1⟩ : ∃ S, strOfNums (pc x 0 3) = S := ⟨_, rfl⟩
  obtain ⟨S2, hS2⟩ : ∃ S, strOfNums (pc x 6 3) = S := ⟨_, rfl⟩
  obtain ⟨S3, hS3⟩ : ∃ S, strOfNums (pc x 10 3) = S := ⟨_, rfl⟩
  rw [hS1] at e1 x0 z1 FK
  rw [hS2] at e2 x2 z2 FK
  rw [hS3] at e3 x3 z3 FK
  clear hX hS1 hS2 hS3 hb
  generalize strOfNums x = s at e1 e2 e3 hsz k3 k4 k5 k9 k13 hs3 hs4 hs5 hs9 hs13 ⊢
  have k3 := k3 hs3
  have k4 := k4 hs4
  have k5 := k5 hs5
  have k9 := k9 hs9
  have k13 := k13 hs13
  have hs14 : 14 ≤ s.size := by omega
  have hd : decide ((s.size : Int) < 14) = false := decide_eq_false (by omega)
  rw [k3, k5, k9, k13, k4] at FK
  rw [k4] at x1
  have KX := hid (kind_byt (c := (s[4].toNat : Int)))
  clear h14 hsz hl k3 k4 k5 k9 k13
  obtain ⟨q3, h3⟩ : ∃ q, decide ((s[3].toNat : Int) = 32) = q := ⟨_, rfl⟩
  obtain ⟨q5, h5⟩ : ∃ q, decide ((s[5].toNat : Int) = 32) = q := ⟨_, rfl⟩
  obtain ⟨q9, h9⟩ : ∃ q, decide ((s[9].toNat : Int) = 32) = q := ⟨_, rfl⟩
  obtain ⟨q13, h13⟩ : ∃ q, decide ((s[13].toNat : Int) = 10) = q := ⟨_, rfl⟩
  obtain ⟨q4, hk⟩ : ∃ q, kindB (s[4].toNat : Int) = q := ⟨_, rfl⟩
  obtain ⟨o1, ho1⟩ : ∃ q, numOk S1 = q := ⟨_, rfl⟩
  obtain ⟨o2, ho2⟩ : ∃ q, numOk S2 = q := ⟨_, rfl⟩
  obtain ⟨o3, ho3⟩ : ∃ q, numOk S3 = q := ⟨_, rfl⟩
  rw [h3, h5, h9, h13, hk, ho1, ho2, ho3] at FK
  have FK := hid FK
  have HK := hid hk
  have O1 := hid ho1
  have O2 := hid ho2
  have O3 := hid ho3
  have K1 : Hid True := trivial
  clear hk ho1 ho2 ho3
  cases q3
  · have HF : Hid (firstK x = false) := by unfold Hid; rw [FK.out]; simp
    have g3 : ((s[3].toNat : Int) != 32) = true := by simpa using of_decide_eq_false h3
    clear h3 h5 h9 h13
    go_enter Try.func27, Try.ntmps27
    go_wp2_with (first | (have kill := V1.out; refine st34 (r := St.zero) V1.out L1.out hb1 rfl _ _ rfl rfl rfl ?_; intro w9 v9 l9; have V9 := hid v9; have L9 := hid l9; clear v9 l9 kill V1) | (have kill := V1.out; refine bd34 rfl rfl ?_) | (refine al34 rfl rfl ?_; intro b1 w1 hb1 v1 l1; have V1 := hid v1; have L1 := hid l1; clear v1 l1))
    exact bodyPost_ret (results_c1 Try.results27 _ _ rfl rfl V9.out) rfl (fs_no HF.out L9.out)
  cases q5
  · have HF : Hid (firstK x = false) := by unfold Hid; rw [FK.out]; simp
    have g3 : (s[3].toNat : Int) = 32 := of_decide_eq_true h3
    have g5 : ((s[5].toNat : Int) != 32) = true := by simpa using of_decide_eq_false h5
    clear h3 h5 h9 h13
    go_enter Try.func27, Try.ntmps27
    go_wp2_with (first | (have kill := V1.out; refine st34 (r := St.zero) V1.out L1.out hb1 rfl _ _ rfl rfl rfl ?_; intro w9 v9 l9; have V9 := hid v9; have L9 := hid l9; clear v9 l9 kill V1) | (have kill := V1.out; refine bd34 rfl rfl ?_) | (refine al34 rfl rfl ?_; intro b1 w1 hb1 v1 l1; have V1 := hid v1; have L1 := hid l1; clear v1 l1))
    exact bodyPost_ret (results_c1 Try.results27 _ _ rfl rfl V9.out) rfl (fs_no HF.out L9.out)
  cases q9
  · have HF : Hid (firstK x = false) := by unfold Hid; rw [FK.out]; simp
    have g3 : (s[3].toNat : Int) = 32 := of_decide_eq_true h3
    have g5 : (s[5].toNat : Int) = 32 := of_decide_eq_true h5
    have g9 : ((s[9].toNat : Int) != 32) = true := by simpa using of_decide_eq_false h9
    clear h3 h5 h9 h13
    go_enter Try.func27, Try.ntmps27
    go_wp2_with (first | (have kill := V1.out; refine st34 (r := St.zero) V1.out L1.out hb1 rfl _ _ rfl rfl rfl ?_; intro w9 v9 l9; have V9 := hid v9; have L9 := hid l9; clear v9 l9 kill V1) | (have kill := V1.out; refine bd34 rfl rfl ?_) | (refine al34 rfl rfl ?_; intro b1 w1 hb1 v1 l1; have V1 := hid v1; have L1 := hid l1; clear v1 l1))
    exact bodyPost_ret (results_c1 Try.results27 _ _ rfl rfl V9.out) rfl (fs_no HF.out L9.out)
  cases q13
  · have HF : Hid (firstK x = false) := by unfold Hid; rw [FK.out]; simp
    have g3 : (s[3].toNat : Int) = 32 := of_decide_eq_true h3
    have g5 : (s[5].toNat : Int) = 32 := of_decide_eq_true h5
    have g9 : (s[9].toNat : Int) = 32 := of_decide_eq_true h9
    have g13 : ((s[13].toNat : Int) != 10) = true := by simpa using of_decide_eq_false h13
    clear h3 h5 h9 h13
    go_enter Try.func27, Try.ntmps27
    go_wp2_with (first | (have kill := V1.out; refine st34 (r := St.zero) V1.out L1.out hb1 rfl _ _ rfl rfl rfl ?_; intro w9 v9 l9; have V9 := hid v9; have L9 := hid l9; clear v9 l9 kill V1) | (have kill := V1.out; refine bd34 rfl rfl ?_) | (refine al34 rfl rfl ?_; intro b1 w1 hb1 v1 l1; have V1 := hid v1; have L1 := hid l1; clear v1 l1))
    exact bodyPost_ret (results_c1 Try.results27 _ _ rfl rfl V9.out) rfl (fs_no HF.out L9.out)
  cases q4
  · have HF : Hid (firstK x = false) := by unfold Hid; rw [FK.out]; simp
    have g3 : (s[3].toNat : Int) = 32 := of_decide_eq_true h3
    have g5 : (s[5].toNat : Int) = 32 := of_decide_eq_true h5
    have g9 : (s[9].toNat : Int) = 32 := of_decide_eq_true h9
    have g13 : (s[13].toNat : Int) = 10 := of_decide_eq_true h13
    clear h3 h5 h9 h13
    go_enter Try.func27, Try.ntmps27
    go_wp2_with (first | (have kill := V1.out; refine st34 (r := St.zero) V1.out L1.out hb1 rfl _ _ rfl rfl rfl ?_; intro w9 v9 l9; have V9 := hid v9; have L9 := hid l9; clear v9 l9 kill V1) | (go_at_call 25; refine (kind25 _ _).mono ?_; rintro e w2 ⟨rfl, rfl⟩; rw [HK.out]) | (have kill := V1.out; refine bd34 rfl rfl ?_) | (refine al34 rfl rfl ?_; intro b1 w1 hb1 v1 l1; have V1 := hid v1; have L1 := hid l1; clear v1 l1))
    exact bodyPost_ret (results_c1 Try.results27 _ _ rfl rfl V9.out) rfl (fs_no HF.out L9.out)
  have g3 : (s[3].toNat : Int) = 32 := of_decide_eq_true h3
  have g5 : (s[5].toNat : Int) = 32 := of_decide_eq_true h5
  have g9 : (s[9].toNat : Int) = 32 := of_decide_eq_true h9
  have g13 : (s[13].toNat : Int) = 10 := of_decide_eq_true h13
  clear h3 h5 h9 h13
  have HF : Hid (firstK x = (o1 && o2 && o3)) := by unfold Hid; rw [FK.out]; simp only [Bool.true_and]
  go_enter Try.func27, Try.ntmps27
  go_upto_region 6 with (first | (go_at_call 33; have kill := K3.out; refine (num9 S3 _ z3.out).mono ?_; rintro e w2 ⟨rfl, rfl⟩; rw [O3.out]; clear kill K3; have K4 : Hid True := trivial) | (go_at_call 33; have kill := K2.out; refine (num9 S2 _ z2.out).mono ?_; rintro e w2 ⟨rfl, rfl⟩; rw [O2.out]; clear kill K2; have K3 : Hid True := trivial) | (go_at_call 33; have kill := K1.out; refine (num9 S1 _ z1.out).mono ?_; rintro e w2 ⟨rfl, rfl⟩; rw [O1.out]; clear kill K1; have K2 : Hid True := trivial) | (go_at_call 25; refine (kind25 _ _).mono ?_; rintro e w2 ⟨rfl, rfl⟩; rw [HK.out]) | (have kill := V1.out; refine bd34 rfl rfl ?_) | (refine al34 rfl rfl ?_; intro b1 w1 hb1 v1 l1; have V1 := hid v1; have L1 := hid l1; clear v1 l1))
  cases o1
  · have HF2 : Hid (firstK x = false) := HF.out
    go_wp2_with (first | (have kill := V1.out; refine st34 (r := X) V1.out L1.out hb1 rfl _ _ rfl rfl rfl ?_; intro w9 v9 l9; have V9 := hid v9; have L9 := hid l9; clear v9 l9 kill V1) | (have kill := V1.out; refine bdP34 (r := X) rfl _ _ _ _ rfl (by rw [x0.out]; rfl) (by rw [x1.out]; rfl) (by rw [x2.out]; rfl) (by rw [x3.out]; rfl) ?_))
    exact bodyPost_ret (results_c1 Try.results27 _ _ rfl rfl V9.out) rfl (fs_no HF2.out L9.out)
  cases o2
  · have HF2 : Hid (firstK x = false) := HF.out
    go_wp2_with (first | (have kill := V1.out; refine st34 (r := X) V1.out L1.out hb1 rfl _ _ rfl rfl rfl ?_; intro w9 v9 l9; have V9 := hid v9; have L9 := hid l9; clear v9 l9 kill V1) | (have kill := V1.out; refine bdP34 (r := X) rfl _ _ _ _ rfl (by rw [x0.out]; rfl) (by rw [x1.out]; rfl) (by rw [x2.out]; rfl) (by rw [x3.out]; rfl) ?_))
    exact bodyPost_ret (results_c1 Try.results27 _ _ rfl rfl V9.out) rfl (fs_no HF2.out L9.out)
  cases o3
  · have HF2 : Hid (firstK x = false) := HF.out
    go_wp2_with (first | (have kill := V1.out; refine st34 (r := X) V1.out L1.out hb1 rfl _ _ rfl rfl rfl ?_; intro w9 v9 l9; have V9 := hid v9; have L9 := hid l9; clear v9 l9 kill V1) | (have kill := V1.out; refine bdP34 (r := X) rfl _ _ _ _ rfl (by rw [x0.out]; rfl) (by rw [x1.out]; rfl) (by rw [x2.out]; rfl) (by rw [x3.out]; rfl) ?_))
    exact bodyPost_ret (results_c1 Try.results27 _ _ rfl rfl V9.out) rfl (fs_no HF2.out L9.out)
  · have HF2 : Hid (firstK x = true) := HF.out
    go_wp2_with (first | (have kill := V1.out; refine st34 (r := X) V1.out L1.out hb1 rfl _ _ rfl rfl rfl ?_; intro w9 v9 l9; have V9 := hid v9; have L9 := hid l9; clear v9 l9 kill V1) | (have kill := V1.out; refine bdP34 (r := X) rfl _ _ _ _ rfl (by rw [x0.out]; rfl) (by rw [x1.out]; rfl) (by rw [x2.out]; rfl) (by rw [x3.out]; rfl) ?_))
    exact bodyPost_ret (results_c1 Try.results27 _ _ rfl rfl V9.out) rfl (fs_yes HF2.out HXF.out.symm L9.out)
end Go.Proofs.Ythhgochnlbiaaaa
