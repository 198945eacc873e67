/- Frame: the frame of bytes. -/
import Derived.Test.YthchgjndaeefmaaWUn
namespace Go.Proofs.Ythchgjndaeefmaa
open Go.ChangeShapes Go.WideShapes Go.ChangeAt Go.RowKit

def frX (b : List Int) : List Int := if frOk b = true then frL b else []
/-- What Frame answers. -/
def FrAns (w : World) (b : List Int) (e : Ending) (w' : World) : Prop :=
  ∃ ao n c, e = .returned (.tuple #[.slice ao n c, .bool (frOk b)]) ∧ Mk w w' (.slice ao n c) n (frX b)
theorem fr_no {w w' : World} {b : List Int} (h : frOk b = false) (hb : Below w.heap.size w w') : FrAns w b (.returned (.tuple #[.slice none 0 0, .bool false])) w' :=
  ⟨none, 0, 0, by rw [h], by unfold frX; rw [h]; exact (Mk.nil w).more hb⟩
theorem fr_yes {w w' : World} {b : List Int} {ao : Option Addr} {n c : Nat} (h : frOk b = true) (hm : Mk w w' (.slice ao n c) n (frL b)) : FrAns w b (.returned (.tuple #[.slice ao n c, .bool true])) w' :=
  ⟨ao, n, c, by rw [h], by unfold frX; rw [if_pos h]; exact hm⟩
theorem frOk_long {b : List Int} (h : 500 < b.length) : frOk b = false := by unfold frOk; rw [decide_eq_false (by omega)]; rfl
theorem frOk_mark {b : List Int} (h : mkB b = true) : frOk b = false := by unfold frOk; rw [h]; simp
theorem frOk_yes {b : List Int} (h : b.length ≤ 500) (h' : mkB b = false) : frOk b = true := by unfold frOk; rw [h', decide_eq_true h]; rfl
/-- The row of one byte, new. -/
theorem one_row (w : World) (x : Int) : RowAt (w.alloc (.cells #[.int .u8 x] 5)) (some ⟨w.heap.size, 0, none⟩) [x] := (Mk.new w [x] 1 rfl (by omega)).1.at
theorem len1 (x : Int) : [x].length = 1 := rfl
set_option maxHeartbeats 2000000 in
theorem frame17 (ao : Option Addr) (len cap : Nat) (zs : List Int) (w : World) (h : Given w ao len cap zs) (hnil : ao = none → len = 0 ∧ cap = 0) :
    Calls Try.prog 17 #[.slice ao len cap] w (FrAns w zs) := by
  have HG := hid h
  have HN := hid hnil
  have hq := h.leq
  have hcap := Nat.le_trans h.cap1 h.cap2
  clear h hnil
  by_cases j1 : 500 < len
  · have F := hid (frOk_long (b := zs) (by omega))
    have d1 : decide ((500 : Int) < (len : Int)) = true := decide_eq_true (by omega)
    have d2 : decide (500 < len) = true := decide_eq_true j1
    clear hq
    go_enter Try.func17, Try.ntmps17
    go_wp2
    go_ret2
    exact fr_no F.out (Below.refl _ _)
  · have d1 : decide ((500 : Int) < (len : Int)) = false := decide_eq_false (by omega)
    have d2 : decide (500 < len) = false := decide_eq_false j1
    cases hm : mkB zs
    · have F := hid (frOk_yes (by omega) hm)
      have HM := hid hm
      clear hm
      have M1 : Hid (Mk w (w.alloc (.cells #[.int .u8 2] 5)) (.slice (some ⟨w.heap.size, 0, none⟩) 1 1) 1 [2]) := Mk.new w [2] 1 rfl (by omega)
      have R1 : Hid (RowAt (w.alloc (.cells #[.int .u8 2] 5)) ao zs) := (HG.out.below (bel1 _ _)).row
      have HQ := hid hq
      clear hq
      go_enter Try.func17, Try.ntmps17
      go_upto_region 4 with (first | (at_builtin; have kill := M1.out; refine app_row (l2 := zs) M1.out.1 R1.out HQ.out HN.out M1.out.2.size (by omega) rfl _ _ rfl rfl rfl ?_; intro a1 c1 w1 r1 t1; have D1 := hid (M1.out.next r1 t1); clear r1 t1 kill M1 R1) | (go_at_call 26; refine (marks22 _ _ _ zs _ HG.out).mono ?_; rintro e w2 ⟨rfl, rfl⟩; rw [HM.out]))
      have M2 : Hid (Mk w (w1.alloc (.cells #[.int .u8 3] 5)) (.slice a1 (1 + len) c1) (1 + len) ([2] ++ zs)) := D1.out.more (bel1 _ _)
      have R2 := hid (one_row w1 3)
      have L2 := hid (len1 3)
      clear D1
      go_upto_region 5 with (first | (at_builtin; have kill := M2.out; refine app_row (l2 := [3]) M2.out.1 R2.out L2.out (fun e => by cases e) M2.out.2.size (by omega) rfl _ _ rfl rfl rfl ?_; intro a2 c2 w2 r2 t2; have D2 := hid (M2.out.next r2 t2); clear r2 t2 kill M2 R2 L2))
      have B2 := hid (HG.out.below D2.out.2)
      generalize sumL_def : sumL zs = S
      have FX : Hid (frL zs = [2] ++ zs ++ [3] ++ [S]) := by unfold Hid; rw [frL, sumL_def]; simp
      have HS := hid sumL_def
      clear sumL_def
      have M3 : Hid (Mk w (w2.alloc (.cells #[.int .u8 S] 5)) (.slice a2 (1 + len + 1) c2) (1 + len + 1) ([2] ++ zs ++ [3])) := D2.out.more (bel1 _ _)
      have R3 := hid (one_row w2 S)
      have L3 := hid (len1 S)
      go_wp2_with (first | (at_builtin; have kill := M3.out; refine app_row (l2 := [S]) M3.out.1 R3.out L3.out (fun e => by cases e) M3.out.2.size (by omega) rfl _ _ rfl rfl rfl ?_; intro a3 c3 w3 r3 t3; have D3 := hid (M3.out.next r3 t3); clear r3 t3 kill M3 R3 L3) | (go_at_call 27; refine (sum23 _ _ _ zs _ B2.out).mono ?_; rintro e w4 ⟨rfl, rfl⟩; rw [HS.out]))
      go_ret2
      exact fr_yes F.out (by rw [FX.out]; exact D3.out)
    · have F := hid (frOk_mark hm)
      have HM := hid hm
      clear hm hq
      go_enter Try.func17, Try.ntmps17
      go_wp2_with (go_at_call 26; refine (marks22 _ _ _ zs _ HG.out).mono ?_; rintro e w2 ⟨rfl, rfl⟩; rw [HM.out])
      go_ret2
      exact fr_no F.out (Below.refl _ _)
set_option maxHeartbeats 4000000 in
theorem frame18 (ao : Option Addr) (len cap : Nat) (zs : List Int) (w : World) (h : Given w ao len cap zs) (hnil : ao = none → len = 0 ∧ cap = 0) :
    Calls Try.prog 15 #[.slice ao len cap] w (FrAns w zs) := by
  have HG := hid h
  have HN := hid hnil
  have HQ := hid h.leq
  have hcap := Nat.le_trans h.cap1 h.cap2
  clear h hnil
  by_cases j1 : 500 < len
  · have F := hid (frOk_long (b := zs) (by rw [HQ.out]; exact j1))
    have d1 : decide ((500 : Int) < (len : Int)) = true := decide_eq_true (by omega)
    have d2 : decide (500 < len) = true := decide_eq_true j1
    go_enter Try.func15, Try.ntmps15
    go_wp2
    go_ret2
    exact fr_no F.out (Below.refl _ _)
  · have d1 : decide ((500 : Int) < (len : Int)) = false := decide_eq_false (by omega)
    have d2 : decide (500 < len) = false := decide_eq_false j1
    go_enter Try.func15, Try.ntmps15
    go_wp2
    go_loop [4] (fun i => ∃ (k : Nat), k ≤ len ∧ i = .int .i64 (k : Int) ∧ mkB (zs.take k) = false) (fun i => len - (intOf i).toNat)
    case atStart => exact ⟨0, by omega, rfl, rfl⟩
    case round =>
      obtain ⟨k, hk, rfl, hno⟩ := hrel
      have HNo := hid hno
      clear hno
      by_cases hlt : k < len
      · have HS : Hid (mkB (zs.take (k + 1)) = (decide (zs.getD k 0 = 2) || decide (zs.getD k 0 = 3))) := by unfold Hid; rw [mk_snoc zs k (by rw [HQ.out]; exact hlt), HNo.out, Bool.false_or]
        obtain ⟨b, o, rfl, hc⟩ := HG.out.cell k hlt
        generalize zs.getD k 0 = c at *
        by_cases c2 : c = 2
        · have F := hid (frOk_mark (mk_more (HS.out.trans (by rw [decide_eq_true c2]; rfl))))
          clear HS
          subst c2
          go_wp2
          go_ret2
          exact fr_no F.out (Below.refl _ _)
        · by_cases c3 : c = 3
          · have F := hid (frOk_mark (mk_more (HS.out.trans (by rw [decide_eq_true c3]; simp))))
            clear HS
            subst c3
            go_wp2
            go_ret2
            exact fr_no F.out (Below.refl _ _)
          · have HT := hid (HS.out.trans (by rw [decide_eq_false c2, decide_eq_false c3, Bool.or_false]))
            have e2 : (c == 2) = false := by simpa using c2
            have e3 : (c == 3) = false := by simpa using c3
            have e4 : decide (c = 2) = false := decide_eq_false c2
            have e5 : decide (c = 3) = false := decide_eq_false c3
            clear HS
            go_wp2
            go_round
            case rel => exact ⟨k + 1, by omega, by go_num, HT.out⟩
            case measure => simp [intOf]; omega
      · have hmn : mkB zs = false := by rw [← take_done (zs := zs) (k := k) (by rw [HQ.out]; omega)]; exact HNo.out
        have F := hid (frOk_yes (by rw [HQ.out]; omega) hmn)
        clear hmn HNo
        have M1 : Hid (Mk w (w.alloc (.cells #[.int .u8 2] 5)) (.slice (some ⟨w.heap.size, 0, none⟩) 1 1) 1 [2]) := Mk.new w [2] 1 rfl (by omega)
        have R1 : Hid (RowAt (w.alloc (.cells #[.int .u8 2] 5)) ao zs) := (HG.out.below (bel1 _ _)).row
        go_upto_region 9 with (first | (at_builtin; have kill := M2.out; refine app_row (l2 := [3]) M2.out.1 R2.out L2.out (fun e => by cases e) M2.out.2.size (by omega) rfl _ _ rfl rfl rfl ?_; intro a2 c2 w2 r2 t2; have D2 := hid (M2.out.next r2 t2); clear r2 t2 kill M2 R2 L2) | (at_builtin; have kill := M1.out; refine app_row (l2 := zs) M1.out.1 R1.out HQ.out HN.out M1.out.2.size (by omega) rfl _ _ rfl rfl rfl ?_; intro a1 c1 w1 r1 t1; have D1 := hid (M1.out.next r1 t1); clear r1 t1 kill M1 R1; have M2 : Hid (Mk w (w1.alloc (.cells #[.int .u8 3] 5)) (.slice a1 (1 + len) c1) (1 + len) ([2] ++ zs)) := (D1.out.more (bel1 _ _)); clear D1; have R2 := hid (one_row w1 3); have L2 := hid (len1 3)))
        have B2 := hid (HG.out.below D2.out.2)
        generalize lrc_def : lrcL zs = L
        obtain ⟨S, hS⟩ : ∃ S, bits .xor .u8 L 3 = S := ⟨_, rfl⟩
        have FX : Hid (frL zs = [2] ++ zs ++ [3] ++ [S]) := by unfold Hid; rw [frL, sumL, lrc_def, xr, hS]; simp
        have HL := hid lrc_def
        clear lrc_def
        have M3 : Hid (Mk w (w2.alloc (.cells #[.int .u8 S] 5)) (.slice a2 (1 + len + 1) c2) (1 + len + 1) ([2] ++ zs ++ [3])) := D2.out.more (bel1 _ _)
        have R3 := hid (one_row w2 S)
        have L3 := hid (len1 S)
        go_wp2_with (first | (at_builtin; have kill := M3.out; refine app_row (l2 := [S]) M3.out.1 R3.out L3.out (fun e => by cases e) M3.out.2.size (by omega) rfl _ _ rfl rfl rfl ?_; intro a3 c3 w3 r3 t3; have D3 := hid (M3.out.next r3 t3); clear r3 t3 kill M3 R3 L3) | (go_at_call 14; refine (lrc15 _ _ _ zs _ B2.out).mono ?_; rintro e w4 ⟨rfl, rfl⟩; rw [HL.out]))
        go_ret2
        exact fr_yes F.out (by rw [FX.out]; exact D3.out)
end Go.Proofs.Ythchgjndaeefmaa
