/- TableLong: just how many states a table may have. For every input. -/
import Derived.Test.YthhgochnlbiaaaaKnown
import Derived.Test.YthhgochnlbiaaaaEq
namespace Go.Proofs.Ythhgochnlbiaaaa
open Go.ChangeShapes Go.WideShapes Go.ChangeAt Go.RowKit

def LN : List Int := [48, 48, 49, 32, 90, 32, 48, 48, 48, 32, 48, 48, 48, 10]
/-- So many lines. -/
def sL (k : Nat) : List Int := (List.replicate k LN).flatten
theorem sL_more (k : Nat) : sL (k + 1) = LN ++ sL k := by unfold sL; rw [List.replicate_succ, List.flatten_cons]
theorem sL_len (k : Nat) : (sL k).length = 14 * k := by
  induction k with
  | zero => rfl
  | succ k ih => rw [sL_more, List.length_append, ih]; show 14 + 14 * k = _; omega
theorem sL_snoc (k : Nat) : sL (k + 1) = sL k ++ LN := by unfold sL; rw [List.replicate_succ', List.flatten_append]; simp
theorem sL_byt (k : Nat) : Byt (sL k) := by
  intro x hx
  unfold sL at hx
  obtain ⟨l, hl, hx⟩ := List.mem_flatten.1 hx
  rw [(List.mem_replicate.1 hl).2] at hx
  have : Byt LN := by unfold Byt LN; decide
  exact this x hx
theorem sL_rest (k j : Nat) (h : j ≤ k) : rest14 (sL k) j = sL (k - j) := by
  induction j with
  | zero => rfl
  | succ j ih =>
    rw [← rest_more, ih (by omega), show k - j = (k - (j + 1)) + 1 by omega, sL_more]
    rfl
theorem sL_first (k : Nat) : firstK (sL (k + 1)) = true := by
  rw [sL_more]
  have h : 14 ≤ (LN ++ sL k).length := by simp [LN]
  unfold firstK
  rw [decide_eq_true h]
  have e1 : pc (LN ++ sL k) 0 3 = [48, 48, 49] := rfl
  have e2 : pc (LN ++ sL k) 6 3 = [48, 48, 48] := rfl
  have e3 : pc (LN ++ sL k) 10 3 = [48, 48, 48] := rfl
  have g3 : (LN ++ sL k).getD 3 0 = 32 := rfl
  have g5 : (LN ++ sL k).getD 5 0 = 32 := rfl
  have g9 : (LN ++ sL k).getD 9 0 = 32 := rfl
  have g13 : (LN ++ sL k).getD 13 0 = 10 := rfl
  have g4 : (LN ++ sL k).getD 4 0 = 90 := rfl
  rw [e1, e2, e3, g3, g5, g9, g13, g4]
  decide +kernel
theorem sL_ne (k : Nat) (h : 0 < k) : sL k ≠ [] := fun e => by have := sL_len k; rw [e] at this; simp at this; omega
theorem sL_at (k : Nat) : ∀ j, j ≤ k → j ≤ 100 → prsL (sL k) = prsAt (sL k) j
  | 0, _, _ => (prs_start _).symm
  | j + 1, h, h2 => by
    rw [sL_at k j (by omega) (by omega)]
    exact prs_more (by omega) (by rw [sL_rest k j (by omega)]; exact sL_ne _ (by omega)) (by rw [sL_rest k j (by omega), show k - j = (k - j - 1) + 1 by omega]; exact sL_first _)
theorem long_ok {k : Nat} (h : k ≤ 100) : prsL (sL k) = (0, 0, k) := by
  rw [sL_at k k (Nat.le_refl _) h]
  exact prs_end h (by rw [sL_rest k k (Nat.le_refl _), Nat.sub_self]; rfl)
theorem long_no {k : Nat} (h : 100 < k) : prsL (sL k) = (25, 101, 0) := by
  rw [sL_at k 100 (by omega) (by omega)]
  exact prs_size rfl (by rw [sL_rest k 100 (by omega)]; exact sL_ne _ (by omega)) (by rw [sL_rest k 100 (by omega), show k - 100 = (k - 101) + 1 by omega]; exact sL_first _)
theorem ln_str : (⟨#[48, 48, 49, 32, 90, 32, 48, 48, 48, 32, 48, 48, 48, 10]⟩ : ByteArray) = strOfNums LN := by rfl
theorem q_str : (⟨#[63]⟩ : ByteArray) = strOfNums [63] := by rfl
set_option maxRecDepth 20000 in
set_option maxHeartbeats 8000000 in
theorem long_walk (n : Int) (bad : Bool) (W : World) (hn : 0 ≤ n ∧ n < 256) : Calls Try.prog 5 #[.int .u8 n, .bool bad] W fun e w' => e = .returned (.bool true) ∧ Below W.heap.size W w' := by
  obtain ⟨q, hq⟩ : ∃ q, n.tmod 5 = q := ⟨_, rfl⟩
  have h0 : 0 ≤ n := hn.1
  have h1 : n < 256 := hn.2
  have hq2 : 0 ≤ q ∧ q < 5 := by rw [← hq, Int.tmod_eq_emod_of_nonneg h0]; omega
  obtain ⟨K, hK⟩ : ∃ K : Nat, 98 + q = (K : Int) := ⟨(98 + q).toNat, by omega⟩
  have hK1 : 98 ≤ K := by omega
  have hK2 : K ≤ 102 := by omega
  have q0 := hq2.1
  have q1 := hq2.2
  have HX0 : Hid (W.heap.size = W.heap.size) := rfl
  clear hn hq2
  go_enter Try.func5, Try.ntmps5
  go_wp2_with (go_at_call 7; have kill := HX0.out; refine (known7 _).mono ?_; rintro e w1 ⟨rfl, l1⟩; have L1 := hid l1; clear l1 kill HX0)
  clear hq hK
  go_loopw [6, 7] (fun s i wr => ∃ j : Nat, j ≤ K ∧ i = .int .i64 (j : Int) ∧ s = .string (strOfNums (sL j)) ∧ w1 = wr) (fun _ i _ => K - (intOf i).toNat)
  case atStart => exact ⟨0, by omega, rfl, rfl, rfl⟩
  case round =>
    obtain ⟨j, hj, rfl, rfl, rfl⟩ := hrel
    have hsz : (strOfNums (sL j)).size = 14 * j := by rw [strOfNums_size, sL_len]
    by_cases hlt : j < K
    · have HS : Hid (strOfNums (sL (j + 1)) = strOfNums (sL j) ++ ⟨#[48, 48, 49, 32, 90, 32, 48, 48, 48, 32, 48, 48, 48, 10]⟩) := by unfold Hid; rw [ln_str, sL_snoc, strN_app]
      obtain ⟨S, hS⟩ : ∃ S, strOfNums (sL j) = S := ⟨_, rfl⟩
      rw [hS] at hsz HS ⊢
      clear hS
      go_wp2
      go_roundw
      case rel => exact ⟨j + 1, by omega, by go_num, by rw [HS.out], trivial⟩
      case measure => simp [intOf]; omega
    · obtain rfl : K = j := by omega
      cases bad
      · obtain ⟨X, hX⟩ : ∃ X, sL K = X := ⟨_, rfl⟩
        have XB : Hid (Byt X) := by rw [← hX]; exact sL_byt K
        have XL : Hid (X.length ≤ 1000000) := by unfold Hid; rw [← hX, sL_len]; omega
        by_cases h100 : K ≤ 100
        · have HP : Hid (prsL X = (0, 0, K)) := by rw [← hX]; exact long_ok h100
          have hd : decide ((K : Int) ≤ 100) = true := decide_eq_true (by omega)
          rw [hX] at hsz ⊢
          clear hX
          go_wp2_with (first | (go_at_call 17; have kill := L3.out; refine (states17 _ _ _ _ _ _ _ (M2.out.given.below M3.out.2) M3.out.given).mono ?_; rintro e w4 ⟨rfl, l4⟩; have L9 := hid (sq L3.out l4); clear l4 kill L3) | (go_at_call 16; have kill := L2.out; refine (parse16 X _ XB.out XL.out).mono ?_; rintro e w3 ⟨a3, n3, c3, rfl, m3⟩; rw [HP.out] at m3 ⊢; obtain rfl := m3.1.len.symm.trans (sts_len _ _); have M3 := hid m3; have L3 := hid (sq L2.out m3.2); clear m3 kill L2) | (go_at_call 15; have kill := L1.out; refine (parse15 X _ XB.out XL.out).mono ?_; rintro e w2 ⟨a2, n2, c2, rfl, m2⟩; rw [HP.out] at m2 ⊢; obtain rfl := m2.1.len.symm.trans (sts_len _ _); have M2 := hid m2; have L2 := hid (sq L1.out m2.2); clear m2 kill L1))
          go_ret
          exact ⟨rfl, L9.out⟩
        · have HP : Hid (prsL X = (25, 101, 0)) := by rw [← hX]; exact long_no (by omega)
          have hd : decide ((K : Int) ≤ 100) = false := decide_eq_false (by omega)
          rw [hX] at hsz ⊢
          clear hX
          go_wp2_with (first | (go_at_call 17; have kill := L3.out; refine (states17 _ _ _ _ _ _ _ (M2.out.given.below M3.out.2) M3.out.given).mono ?_; rintro e w4 ⟨rfl, l4⟩; have L9 := hid (sq L3.out l4); clear l4 kill L3) | (go_at_call 16; have kill := L2.out; refine (parse16 X _ XB.out XL.out).mono ?_; rintro e w3 ⟨a3, n3, c3, rfl, m3⟩; rw [HP.out] at m3 ⊢; obtain rfl := m3.1.len.symm.trans (sts_len _ _); have M3 := hid m3; have L3 := hid (sq L2.out m3.2); clear m3 kill L2) | (go_at_call 15; have kill := L1.out; refine (parse15 X _ XB.out XL.out).mono ?_; rintro e w2 ⟨a2, n2, c2, rfl, m2⟩; rw [HP.out] at m2 ⊢; obtain rfl := m2.1.len.symm.trans (sts_len _ _); have M2 := hid m2; have L2 := hid (sq L1.out m2.2); clear m2 kill L1))
          go_ret
          exact ⟨rfl, L9.out⟩
      · obtain ⟨X, hX⟩ : ∃ X, sL K ++ [63] = X := ⟨_, rfl⟩
        have XB : Hid (Byt X) := by rw [← hX]; exact byt_app (sL_byt K) (by unfold Byt; decide)
        have XL : Hid (X.length ≤ 1000000) := by unfold Hid; rw [← hX, List.length_append, sL_len]; simp; omega
        have HXS : Hid (strOfNums (sL K) ++ ⟨#[63]⟩ = strOfNums X) := by unfold Hid; rw [q_str, ← strN_app, hX]
        obtain ⟨⟨pc1, pl1, cnt⟩, hp⟩ : ∃ p, prsL X = p := ⟨_, rfl⟩
        have HP := hid hp
        obtain ⟨S, hS⟩ : ∃ S, strOfNums (sL K) = S := ⟨_, rfl⟩
        rw [hS] at hsz HXS ⊢
        clear hX hp hS
        go_wp2_with (first | (go_at_call 17; have kill := L3.out; refine (states17 _ _ _ _ _ _ _ (M2.out.given.below M3.out.2) M3.out.given).mono ?_; rintro e w4 ⟨rfl, l4⟩; have L9 := hid (sq L3.out l4); clear l4 kill L3) | (go_at_call 16; have kill := L2.out; rw [HXS.out]; refine (parse16 X _ XB.out XL.out).mono ?_; rintro e w3 ⟨a3, n3, c3, rfl, m3⟩; rw [HP.out] at m3 ⊢; rw [← HXS.out]; obtain rfl := m3.1.len.symm.trans (sts_len _ _); have M3 := hid m3; have L3 := hid (sq L2.out m3.2); clear m3 kill L2) | (go_at_call 15; have kill := L1.out; rw [HXS.out]; refine (parse15 X _ XB.out XL.out).mono ?_; rintro e w2 ⟨a2, n2, c2, rfl, m2⟩; rw [HP.out] at m2 ⊢; rw [← HXS.out]; obtain rfl := m2.1.len.symm.trans (sts_len _ _); have M2 := hid m2; have L2 := hid (sq L1.out m2.2); clear m2 kill L1))
        go_ret
        exact ⟨rfl, L9.out⟩
theorem tableLong_own : ownKnob Try.prog.godebug = none := by kernel_rfl
theorem tableLong_laid : laidOutB Try.prog = true := by kernel_rfl

set_option maxRecDepth 100000 in
set_option maxHeartbeats 1000000 in
theorem tableLong_lifted (os : Os) (started : os.Started) (H : Type) (enc : TypeId × Value → H) :
    ReturnsInHanded {} Try.checked os 5 .any (Rows.tableLongSpec.pre6 enc Try.prog Try.f5 Rows.tableLongRow.domain false) (Rows.tableLongSpec.post enc Try.prog Try.f5 false true false false) := by
  refine returnsInHanded_of_change (C := Try.checked) tableLong_own started (by kernel_rfl) Try.func5
    (ChangeSpec.witness6 (enc := enc) (C := Try.checked) false ⟨#[], #[.int .u8 0, .bool false], []⟩ 8 (by kernel_rfl) (by kernel_rfl) (by kernel_rfl) (by kernel_rfl)) ?_
  intro W base args ds gs before hval0 hW hcnd _
  have hval : ∀ (j : Nat) t v, Try.f5.params[j]? = some t → args[j]? = some v → Value.okWide Try.prog W .any base t v := hval0
  have hW' := hW
  obtain ⟨p, q, hA0, hV, rfl, hfz, hnd⟩ := hW
  have hA : DataW.TrodAll enc Try.prog W 0 (fun _ => true) true Try.f5.params.toList args.toList ds p := hA0
  rw [Try.params5] at hA hval
  obtain ⟨v0, vs0, d0, ds0, p0, q0, hargs, rfl, rfl, h0, r0⟩ := trodAll_cons hA
  obtain ⟨v1, vs1, d1, ds1, p1, q1, rfl, rfl, rfl, h1, r1⟩ := trodAll_cons r0
  obtain ⟨rfl, rfl, rfl⟩ := trodAll_nil r1
  obtain rfl : args = #[v0, v1] := by cases args; simp_all
  obtain ⟨rfl, rfl⟩ := trodVars_none hV
  obtain ⟨a0, rfl, rfl, rfl, w0⟩ := open_int Try.underlying5 (hval 0 5 v0 rfl rfl) h0
  obtain ⟨a1, rfl, rfl, rfl⟩ := open_bool Try.underlying4 (hval 1 4 v1 rfl rfl) h1
  clear hA0 hval0
  refine (long_walk a0 a1 W (by have := bounds_u8 w0; omega)).mono fun e W' ⟨he, bel⟩ => ?_
  subst he
  exact ⟨_, rfl, _, _, _, [], _, [], hW', trodAll_mk1 (shut_bool Try.underlying4 _), (trodAll_cons_mk (shut_int Try.underlying5 w0) (trodAll_cons_mk (shut_bool Try.underlying4 _) trodAll_mk0)), rfl, bel.frame _, fun h => by cases h⟩

theorem tableLong_over : Rows.tableLongRow.holds Try.pinned (OpenSpec.ofChange Rows.tableLongSpec) :=
  OpenClaim.holds_of_wide 5 Try.f5 rfl rfl rfl rfl rfl rfl rfl ⟨rfl, rfl, rfl, rfl, rfl⟩ rfl rfl rfl rfl rfl (by kernel_rfl) Try.func5 (by kernel_rfl)
    (of_decide_eq_true (by kernel_rfl)) (by unfold Func.isWrapper; first | (rw [if_pos (by decide +kernel)]; kernel_rfl) | (rw [if_neg (by decide +kernel)]; exact ⟨rfl, rfl⟩))
    (fun os started H enc _ => tableLong_lifted os started H enc)

/-- The statement. -/
theorem tableLong_holds : Rows.TableLongSaid := tableLong_over
#print axioms tableLong_holds
end Go.Proofs.Ythhgochnlbiaaaa
