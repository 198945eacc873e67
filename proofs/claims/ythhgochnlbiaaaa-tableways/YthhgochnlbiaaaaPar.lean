/- Parse: the code's and the document's, by the same plain function. -/
import Derived.Test.YthhgochnlbiaaaaFirR
namespace Go.Proofs.Ythhgochnlbiaaaa
open Go.ChangeShapes Go.WideShapes Go.ChangeAt Go.RowKit

def PsAns (w : World) (x : List Int) (e : Ending) (w' : World) : Prop := ∃ ao n c, e = .returned (.tuple #[.slice ao n c, .int .i64 (prsL x).2.1, .int .i64 (prsL x).1]) ∧ MkS w w' (.slice ao n c) n (stsL x (prsL x).2.2)
theorem ps_err {w w' : World} {x : List Int} {a b : Int} (h : prsL x = (a, b, 0)) (hb : Below w.heap.size w w') : PsAns w x (.returned (.tuple #[.slice none 0 0, .int .i64 b, .int .i64 a])) w' := ⟨none, 0, 0, by rw [h], by rw [h]; exact (MkS.nil w).more hb⟩
theorem ps_ok {w w' : World} {x : List Int} {k : Nat} {ao : Option Addr} {c : Nat} (h : prsL x = (0, 0, k)) (hm : MkS w w' (.slice ao k c) k (stsL x k)) : PsAns w x (.returned (.tuple #[.slice ao k c, .int .i64 0, .int .i64 0])) w' := ⟨ao, k, c, by rw [h], by rw [h]; exact hm⟩
theorem str_nil : strOfNums [] = ⟨#[]⟩ := rfl
theorem fk_len {x : List Int} (h : firstK x = true) : 14 ≤ x.length := by
  by_cases h1 : 14 ≤ x.length
  · exact h1
  · rw [first_short (by omega)] at h; cases h
def sliceLen (v : Value) : Nat := match v with | .slice _ n _ => n | _ => 0
set_option maxRecDepth 20000 in
set_option maxHeartbeats 8000000 in
theorem parse15 (x : List Int) (W : World) (hb : Byt x) (hl : x.length ≤ 1000000) : Calls Try.prog 15 #[.string (strOfNums x)] W (PsAns W x) := by
  have HB := hid hb
  have HL := hid hl
  clear hb hl
  go_enter Try.func15, Try.ntmps15
  go_wp2
  go_loopw [0, 5, 6] (fun xs xo xi wr => ∃ (k c : Nat) (a : Option Addr), k ≤ 100 ∧ xs = .string (strOfNums (rest14 x k)) ∧ xi = .int .i64 ((k : Int) + 1) ∧ xo = .slice a k c ∧ prsAt x k = prsL x ∧ MkS W wr (.slice a k c) k (stsL x k)) (fun xs xo xi _ => 102 - (intOf xi).toNat)
  case atStart => exact ⟨0, 0, none, by omega, rfl, rfl, rfl, rfl, MkS.nil W⟩
  case round =>
    obtain ⟨k, c, a, hk, rfl, rfl, rfl, hp, hm⟩ := hrel
    have M1 := hid hm
    have HP := hid hp
    clear hm hp
    obtain ⟨R, hR⟩ : ∃ R, rest14 x k = R := ⟨_, rfl⟩
    have RB : Hid (Byt R) := by rw [← hR]; exact rest_byt HB.out k
    have RL : Hid (R.length ≤ 1000000) := by have := rest_len x k; rw [hR] at this; exact Nat.le_trans this HL.out
    have HR := hid hR
    have hsz := strOfNums_size R
    rw [hR]
    by_cases h0 : R = []
    · have HE : Hid (prsL x = (0, 0, k)) := by unfold Hid; rw [← HP.out]; exact prs_end hk (by rw [HR.out]; exact h0)
      clear hsz hR
      subst h0
      rw [str_nil]
      go_wp2
      go_ret3
      exact ps_ok HE.out M1.out
    · have hpos : 0 < R.length := List.length_pos_iff.2 h0
      cases hf : firstK R
      · have HE : Hid (prsL x = (28, (k : Int) + 1, 0)) := by unfold Hid; rw [← HP.out]; exact prs_text hk (by rw [HR.out]; exact h0) (by rw [HR.out]; exact hf)
        have HK := hid hf
        obtain ⟨s, hs⟩ : ∃ s, strOfNums R = s := ⟨_, rfl⟩
        have HS := hid hs
        rw [hs] at hsz
        have hs0 : 0 < s.size := by omega
        rw [hs]
        clear hf hR h0 hs hsz hpos
        go_wp2_with (first | (have kill := V3.out; refine st34 (r := st) (w0 := w2) V3.out L3.out hb3 rfl _ _ rfl rfl rfl ?_; intro w4 v4 l4; have V4 := hid v4; have M4 := hid (M2.out.more l4); clear v4 l4 kill V3 L3 M2) | (have kill := M2.out; refine al34 rfl rfl ?_; intro b3 w3 hb3 v3 l3; have V3 := hid v3; have L3 := hid l3; clear v3 l3 kill) | (go_at_call 26; have kill := M1.out; rw [← HS.out]; refine (first26 R _ RB.out RL.out).mono ?_; rintro e w2 ⟨st, rfl, hst, l2⟩; have L2 := hid l2; have HST := hid hst; rw [HK.out]; rw [HS.out]; have M2 := hid (M1.out.more l2); clear l2 hst kill M1))
        go_ret3
        exact ps_err HE.out M4.out.2
      · have h14 := fk_len hf
        have HX : Hid ((strOfNums R).extract 14 R.length = strOfNums (rest14 x (k + 1))) := by
          unfold Hid; rw [ext_rest R 14 R.length rfl, ← hR, rest_more]
        have HK := hid hf
        have HSM : Hid (stsL x k ++ [firstV R] = stsL x (k + 1)) := by unfold Hid; rw [← hR]; exact sts_more x k
        by_cases h100 : k = 100
        · have HE : Hid (prsL x = (25, 101, 0)) := by unfold Hid; rw [← HP.out, prs_size h100 (by rw [HR.out]; exact h0) (by rw [HR.out]; exact hf), h100]; rfl
          obtain ⟨s, hs⟩ : ∃ s, strOfNums R = s := ⟨_, rfl⟩
          have HS := hid hs
          rw [hs] at hsz
          have hs0 : 0 < s.size := by omega
          rw [hs]
          clear hf hR h0 hs hsz hpos HX HSM
          go_wp2_with (first | (have kill := V3.out; refine st34 (r := st) (w0 := w2) V3.out L3.out hb3 rfl _ _ rfl rfl rfl ?_; intro w4 v4 l4; have V4 := hid v4; have M4 := hid (M2.out.more l4); clear v4 l4 kill V3 L3 M2) | (have kill := M2.out; refine al34 rfl rfl ?_; intro b3 w3 hb3 v3 l3; have V3 := hid v3; have L3 := hid l3; clear v3 l3 kill) | (go_at_call 26; have kill := M1.out; rw [← HS.out]; refine (first26 R _ RB.out RL.out).mono ?_; rintro e w2 ⟨st, rfl, hst, l2⟩; have L2 := hid l2; have HST := hid hst; rw [HK.out]; rw [HS.out]; have M2 := hid (M1.out.more l2); clear l2 hst kill M1))
          go_ret3
          exact ps_err HE.out M4.out.2
        · have HN : Hid (prsAt x (k + 1) = prsL x) := by unfold Hid; rw [← HP.out]; exact (prs_more (by omega) (by rw [HR.out]; exact h0) (by rw [HR.out]; exact hf)).symm
          have hk2 : k < 100 := by omega
          obtain ⟨s, hs⟩ : ∃ s, strOfNums R = s := ⟨_, rfl⟩
          have HS := hid hs
          rw [hs] at hsz
          have HX2 : Hid (s.extract 14 s.size = strOfNums (rest14 x (k + 1))) := by unfold Hid; rw [hsz, ← hs]; exact HX.out
          have hs0 : 0 < s.size := by omega
          have hs14 : 14 ≤ s.size := by omega
          have hs15 : s.size ≤ 1000000 := by have := RL.out; omega
          rw [hs]
          clear hf hR h0 hs hsz hpos HX h14 h100
          go_wp2_with (first | (at_builtin; have kill := G5.out; refine app_sts (m := k + 1) M5.out G5.out rfl (by omega) rfl _ _ rfl rfl rfl ?_; intro a6 c6 w6 m6; have M6 := hid m6; clear m6 kill G5 M5) | (have kill := V4.out; refine bsS (r := st) rfl _ rfl rfl ?_; intro a5 w5 g5 l5; have G5 := hid g5; have M5 := hid (M4.out.more l5); clear g5 l5 kill V4 M4) | (have kill := V4.out; refine ld34 V4.out rfl _ rfl rfl ?_) | (have kill := V3.out; refine st34 (r := st) (w0 := w2) V3.out L3.out hb3 rfl _ _ rfl rfl rfl ?_; intro w4 v4 l4; have V4 := hid v4; have M4 := hid (M2.out.more l4); clear v4 l4 kill V3 L3 M2) | (have kill := M2.out; refine al34 rfl rfl ?_; intro b3 w3 hb3 v3 l3; have V3 := hid v3; have L3 := hid l3; clear v3 l3 kill) | (go_at_call 26; have kill := M1.out; rw [← HS.out]; refine (first26 R _ RB.out RL.out).mono ?_; rintro e w2 ⟨st, rfl, hst, l2⟩; have L2 := hid l2; have HST := hid hst; rw [HK.out]; rw [HS.out]; have M2 := hid (M1.out.more l2); clear l2 hst kill M1))
          go_roundw
          case rel => exact ⟨k + 1, c6, a6, by omega, by rw [HX2.out], by go_num, rfl, HN.out, by have h := M6.out; rw [HST.out HK.out, HSM.out] at h; exact h⟩
          case measure => simp [intOf]; omega
set_option maxRecDepth 20000 in
set_option maxHeartbeats 8000000 in
theorem parse16 (x : List Int) (W : World) (hb : Byt x) (hl : x.length ≤ 1000000) : Calls Try.prog 16 #[.string (strOfNums x)] W (PsAns W x) := by
  have HB := hid hb
  have HL := hid hl
  clear hb hl
  go_enter Try.func16, Try.ntmps16
  go_wp2
  go_loopw [0, 5] (fun xs xo wr => ∃ (k c : Nat) (a : Option Addr), k ≤ 100 ∧ xs = .string (strOfNums (rest14 x k)) ∧ xo = .slice a k c ∧ prsAt x k = prsL x ∧ MkS W wr (.slice a k c) k (stsL x k)) (fun xs xo _ => 102 - sliceLen xo)
  case atStart => exact ⟨0, 0, none, by omega, rfl, rfl, rfl, MkS.nil W⟩
  case round =>
    obtain ⟨k, c, a, hk, rfl, rfl, hp, hm⟩ := hrel
    have M1 := hid hm
    have HP := hid hp
    clear hm hp
    obtain ⟨R, hR⟩ : ∃ R, rest14 x k = R := ⟨_, rfl⟩
    have RB : Hid (Byt R) := by rw [← hR]; exact rest_byt HB.out k
    have RL : Hid (R.length ≤ 1000000) := by have := rest_len x k; rw [hR] at this; exact Nat.le_trans this HL.out
    have HR := hid hR
    have hsz := strOfNums_size R
    rw [hR]
    by_cases h0 : R = []
    · have HE : Hid (prsL x = (0, 0, k)) := by unfold Hid; rw [← HP.out]; exact prs_end hk (by rw [HR.out]; exact h0)
      clear hsz hR
      subst h0
      rw [str_nil]
      go_wp2
      go_ret3
      exact ps_ok HE.out M1.out
    · have hpos : 0 < R.length := List.length_pos_iff.2 h0
      cases hf : firstK R
      · have HE : Hid (prsL x = (28, (k : Int) + 1, 0)) := by unfold Hid; rw [← HP.out]; exact prs_text hk (by rw [HR.out]; exact h0) (by rw [HR.out]; exact hf)
        have HK := hid hf
        obtain ⟨s, hs⟩ : ∃ s, strOfNums R = s := ⟨_, rfl⟩
        have HS := hid hs
        rw [hs] at hsz
        have hs0 : 0 < s.size := by omega
        have hne : (s.toList == []) = false := by
          rw [ByteArray.toList_eq, beq_eq_false_iff_ne]; intro h
          have h2 : s.size = 0 := by have := congrArg List.length h; simpa using this
          omega
        rw [hs]
        clear hf hR h0 hs hsz hpos
        go_wp2_with (first | (have kill := V3.out; refine st34 (r := st) (w0 := w2) V3.out L3.out hb3 rfl _ _ rfl rfl rfl ?_; intro w4 v4 l4; have V4 := hid v4; have M4 := hid (M2.out.more l4); clear v4 l4 kill V3 L3 M2) | (have kill := M2.out; refine al34 rfl rfl ?_; intro b3 w3 hb3 v3 l3; have V3 := hid v3; have L3 := hid l3; clear v3 l3 kill) | (go_at_call 27; have kill := M1.out; rw [← HS.out]; refine (line27 R _ RB.out RL.out).mono ?_; rintro e w2 ⟨st, rfl, hst, l2⟩; have L2 := hid l2; have HST := hid hst; rw [HK.out]; rw [HS.out]; have M2 := hid (M1.out.more l2); clear l2 hst kill M1))
        go_ret3
        exact ps_err HE.out M4.out.2
      · have h14 := fk_len hf
        have HX : Hid ((strOfNums R).extract 14 R.length = strOfNums (rest14 x (k + 1))) := by
          unfold Hid; rw [ext_rest R 14 R.length rfl, ← hR, rest_more]
        have HK := hid hf
        have HSM : Hid (stsL x k ++ [firstV R] = stsL x (k + 1)) := by unfold Hid; rw [← hR]; exact sts_more x k
        by_cases h100 : k = 100
        · have HE : Hid (prsL x = (25, 101, 0)) := by unfold Hid; rw [← HP.out, prs_size h100 (by rw [HR.out]; exact h0) (by rw [HR.out]; exact hf), h100]; rfl
          obtain ⟨s, hs⟩ : ∃ s, strOfNums R = s := ⟨_, rfl⟩
          have HS := hid hs
          rw [hs] at hsz
          have hs0 : 0 < s.size := by omega
          have hne : (s.toList == []) = false := by
            rw [ByteArray.toList_eq, beq_eq_false_iff_ne]; intro h
            have h2 : s.size = 0 := by have := congrArg List.length h; simpa using this
            omega
          rw [hs]
          clear hf hR h0 hs hsz hpos HX HSM
          go_wp2_with (first | (have kill := V3.out; refine st34 (r := st) (w0 := w2) V3.out L3.out hb3 rfl _ _ rfl rfl rfl ?_; intro w4 v4 l4; have V4 := hid v4; have M4 := hid (M2.out.more l4); clear v4 l4 kill V3 L3 M2) | (have kill := M2.out; refine al34 rfl rfl ?_; intro b3 w3 hb3 v3 l3; have V3 := hid v3; have L3 := hid l3; clear v3 l3 kill) | (go_at_call 27; have kill := M1.out; rw [← HS.out]; refine (line27 R _ RB.out RL.out).mono ?_; rintro e w2 ⟨st, rfl, hst, l2⟩; have L2 := hid l2; have HST := hid hst; rw [HK.out]; rw [HS.out]; have M2 := hid (M1.out.more l2); clear l2 hst kill M1))
          go_ret3
          exact ps_err HE.out M4.out.2
        · have HN : Hid (prsAt x (k + 1) = prsL x) := by unfold Hid; rw [← HP.out]; exact (prs_more (by omega) (by rw [HR.out]; exact h0) (by rw [HR.out]; exact hf)).symm
          have hk2 : k < 100 := by omega
          obtain ⟨s, hs⟩ : ∃ s, strOfNums R = s := ⟨_, rfl⟩
          have HS := hid hs
          rw [hs] at hsz
          have HX2 : Hid (s.extract 14 s.size = strOfNums (rest14 x (k + 1))) := by unfold Hid; rw [hsz, ← hs]; exact HX.out
          have hs0 : 0 < s.size := by omega
          have hs14 : 14 ≤ s.size := by omega
          have hne : (s.toList == []) = false := by
            rw [ByteArray.toList_eq, beq_eq_false_iff_ne]; intro h
            have h2 : s.size = 0 := by have := congrArg List.length h; simpa using this
            omega
          have hs15 : s.size ≤ 1000000 := by have := RL.out; omega
          rw [hs]
          clear hf hR h0 hs hsz hpos HX h14 h100
          go_wp2_with (first | (at_builtin; have kill := G5.out; refine app_sts (m := k + 1) M5.out G5.out rfl (by omega) rfl _ _ rfl rfl rfl ?_; intro a6 c6 w6 m6; have M6 := hid m6; clear m6 kill G5 M5) | (have kill := V4.out; refine bsS (r := st) rfl _ rfl rfl ?_; intro a5 w5 g5 l5; have G5 := hid g5; have M5 := hid (M4.out.more l5); clear g5 l5 kill V4 M4) | (have kill := V4.out; refine ld34 V4.out rfl _ rfl rfl ?_) | (have kill := V3.out; refine st34 (r := st) (w0 := w2) V3.out L3.out hb3 rfl _ _ rfl rfl rfl ?_; intro w4 v4 l4; have V4 := hid v4; have M4 := hid (M2.out.more l4); clear v4 l4 kill V3 L3 M2) | (have kill := M2.out; refine al34 rfl rfl ?_; intro b3 w3 hb3 v3 l3; have V3 := hid v3; have L3 := hid l3; clear v3 l3 kill) | (go_at_call 27; have kill := M1.out; rw [← HS.out]; refine (line27 R _ RB.out RL.out).mono ?_; rintro e w2 ⟨st, rfl, hst, l2⟩; have L2 := hid l2; have HST := hid hst; rw [HK.out]; rw [HS.out]; have M2 := hid (M1.out.more l2); clear l2 hst kill M1))
          go_roundw
          case rel => exact ⟨k + 1, c6, a6, by omega, by rw [HX2.out], rfl, HN.out, by have h := M6.out; rw [HST.out HK.out, HSM.out] at h; exact h⟩
          case measure => simp [sliceLen]; omega
end Go.Proofs.Ythhgochnlbiaaaa
