/- For every v and n the function BcdZeros answers true: noughts ahead say nothing of a number, and fill digits up. -/
import Derived.Test.YtinkdiomepjneaaKnown
import Derived.Test.YtinkdiomepjneaaThere
namespace Go.Proofs.Ytinkdiomepjneaa
open Go.ChangeShapes Go.WideShapes Go.ChangeAt Go.RowKit

theorem pack_at (s : ByteArray) (n m : Nat) (w : World) (hs : s.size = n) (hm : (n + 1) / 2 = m) (hn : n ≤ 1000000) (hd : digB s.data.toList = true) :
    Calls Try.prog 12 #[.string s] w fun e w' => e = .returned (.tuple #[.slice (some ⟨w.heap.size, 0, none⟩) m m, .bool true]) ∧ Mk w w' (.slice (some ⟨w.heap.size, 0, none⟩) m m) m (packL s) := by
  subst hs; subst hm
  refine (pack_yes s w hn hd).mono ?_
  rintro e w' ⟨rfl, rfl⟩
  exact ⟨rfl, Mk.new w (packL s) _ (packL_length s) (by omega)⟩
theorem pow10k (k : Nat) (h : 10 ≤ k) : (10000000000 : Int) ≤ 10 ^ k := by
  have := Nat.pow_le_pow_right (n := 10) (by decide) h
  rw [show (10000000000 : Int) = ((10 ^ 10 : Nat) : Int) from rfl]
  exact_mod_cast this
set_option maxHeartbeats 1000000 in
theorem zeros_walk (v n : Int) (w : World) (hv : 0 ≤ v ∧ v < 4294967296) (hn : 0 ≤ n ∧ n < 256) :
    Calls Try.prog 5 #[.int .u32 v, .int .u8 n] w fun e w' => e = .returned (.bool true) ∧ Below w.heap.size w w' := by
  obtain ⟨v0, v1⟩ := hv
  obtain ⟨n0, n1⟩ := hn
  obtain ⟨r, hr, r1⟩ : ∃ r : Nat, n % 9 = (r : Int) ∧ r < 9 := ⟨(n % 9).toNat, by omega, by omega⟩
  obtain ⟨k, hk⟩ : ∃ k, 10 + r = k := ⟨_, rfl⟩
  have hk' : 10 + (r : Int) = (k : Int) := by omega
  have e1 : n.tmod 9 = (r : Int) := by rw [Int.tmod_eq_emod_of_nonneg n0, hr]
  have hp := pow10k k (by omega)
  obtain ⟨s, hs⟩ : ∃ s, strOfNums (decL v k) = s := ⟨_, rfl⟩
  have hzz : v / 10 ^ k = 0 := Int.ediv_eq_zero_of_lt v0 (by omega)
  have HO : Hid (digOk v (k : Int) = true ∧ digS v (k : Int) = s) := by
    have := digOk_yes v0 (by omega) (by omega) hzz
    exact ⟨this.1, this.2.trans hs⟩
  have HB : Hid (numOk s = true ∧ numV s = v) := by have := digS_back HO.out.1; rwa [HO.out.2] at this
  have HD : Hid (digB s.data.toList = true) := by unfold Hid; rw [← hs]; exact decL_dig v k
  have hsz : s.size = k := by rw [← hs, strOfNums_size, decL_length]
  obtain ⟨m, hm⟩ : ∃ m, (k + 1) / 2 = m := ⟨_, rfl⟩
  have HM := hid hm
  have HSZ := hid hsz
  have HU : Hid (unOk (packL s) (k : Int) = true ∧ unS (packL s) (k : Int) = s) := by have := pack_back s HD.out; rwa [hsz] at this
  have hk1 : 10 ≤ k := by omega
  have hk2 : k ≤ 18 := by omega
  have hm2 : m ≤ 10 := by omega
  have f1 : (k : Int) + 1 = ((k + 1 : Nat) : Int) := by omega
  have f2 : ((k : Int) + 1).tdiv 2 = (m : Int) := by rw [Int.tdiv_eq_ediv_of_nonneg (by omega)]; omega
  clear hr hk hp hzz hs hm f1
  go_enter Try.func5, Try.ntmps5
  go_wp2_with (first | (go_at_call 13; have kill := D4.out; refine (unpack_any _ _ _ (packL s) (k : Int) _ (D4.out.given (packL_byt s HD.out)) (by omega) (by omega)).mono ?_; rintro e w5 ⟨rfl, l5⟩; rw [HU.out.1, HU.out.2]; have L5 := hid (sq L4.out l5); clear l5 kill) | (go_at_call 12; have kill := L3.out; refine (pack_at s k m _ HSZ.out HM.out (by omega) HD.out).mono ?_; rintro e w4 ⟨rfl, d4⟩; have D4 := hid d4; have L4 := hid (sq L3.out d4.2); clear d4 kill) | (go_at_call 8; have kill := L2.out; refine (number8 s _ (by omega)).mono ?_; rintro e w3 ⟨rfl, rfl⟩; rw [HB.out.1, HB.out.2]; have L3 := L2; clear kill) | (go_at_call 10; have kill := L1.out; refine (digits10 v (k : Int) _ (by omega)).mono ?_; rintro e w2 ⟨rfl, l2⟩; rw [HO.out.1, HO.out.2]; have L2 := hid (sq L1.out l2); clear l2 kill) | (go_at_call 6; refine (known6 _).mono ?_; rintro e w1 ⟨rfl, l1⟩; have L1 := hid l1; clear l1))
  go_ret
  exact ⟨rfl, L5.out⟩
theorem bcdZeros_own : ownKnob Try.prog.godebug = none := by kernel_rfl
theorem bcdZeros_laid : laidOutB Try.prog = true := by kernel_rfl

set_option maxRecDepth 100000 in
set_option maxHeartbeats 1000000 in
theorem bcdZeros_lifted (os : Os) (started : os.Started) (H : Type) (enc : TypeId × Value → H) :
    ReturnsInHanded {} Try.checked os 5 .any (Rows.bcdZerosSpec.pre6 enc Try.prog Try.f5 Rows.bcdZerosRow.domain false) (Rows.bcdZerosSpec.post enc Try.prog Try.f5 false true false false) := by
  refine returnsInHanded_of_change (C := Try.checked) bcdZeros_own started (by kernel_rfl) Try.func5
    (ChangeSpec.witness6 (enc := enc) (C := Try.checked) false ⟨#[], #[.int .u32 0, .int .u8 0], []⟩ 8 (by kernel_rfl) (by kernel_rfl) (by kernel_rfl) (by kernel_rfl)) ?_
  intro W base args ds gs before hval0 hW hcnd _
  have hval : ∀ (j : Nat) t v, Try.f5.params[j]? = some t → args[j]? = some v → Value.okWide Try.prog W .any base t v := hval0
  have hW' := hW
  obtain ⟨p, q, hA0, hV, rfl, hfz, hnd⟩ := hW
  have hA : DataW.TrodAll enc Try.prog W 0 (fun _ => true) true Try.f5.params.toList args.toList ds p := hA0
  rw [Try.params5] at hA hval
  obtain ⟨v0, vs0, d0, ds0, p0, q0, hargs, rfl, rfl, h0, r0⟩ := trodAll_cons hA
  obtain ⟨v1, vs1, d1, ds1, p1, q1, rfl, rfl, rfl, h1, r1⟩ := trodAll_cons r0
  obtain ⟨rfl, rfl, rfl⟩ := trodAll_nil r1
  obtain rfl : args = #[v0, v1] := by cases args; simp_all
  obtain ⟨rfl, rfl⟩ := trodVars_none hV
  obtain ⟨a0, rfl, rfl, rfl, w0⟩ := open_int Try.underlying39 (hval 0 39 v0 rfl rfl) h0
  obtain ⟨a1, rfl, rfl, rfl, w1⟩ := open_int Try.underlying5 (hval 1 5 v1 rfl rfl) h1
  clear hA0 hval0
  refine (zeros_walk a0 a1 W (by have := bounds_u32 w0; omega) (by have := bounds_u8 w1; omega)).mono fun e W' ⟨he, bel⟩ => ?_
  subst he
  exact ⟨_, rfl, _, _, _, [], _, [], hW', trodAll_mk1 (shut_bool Try.underlying4 _), (trodAll_cons_mk (shut_int Try.underlying39 w0) (trodAll_cons_mk (shut_int Try.underlying5 w1) trodAll_mk0)), rfl, bel.frame _, fun h => by cases h⟩

theorem bcdZeros_over : Rows.bcdZerosRow.holds Try.pinned (OpenSpec.ofChange Rows.bcdZerosSpec) :=
  OpenClaim.holds_of_wide 5 Try.f5 rfl rfl rfl rfl rfl rfl rfl ⟨rfl, rfl, rfl, rfl, rfl⟩ rfl rfl rfl rfl rfl (by kernel_rfl) Try.func5 (by kernel_rfl)
    (of_decide_eq_true (by kernel_rfl)) (by unfold Func.isWrapper; first | (rw [if_pos (by decide +kernel)]; kernel_rfl) | (rw [if_neg (by decide +kernel)]; exact ⟨rfl, rfl⟩))
    (fun os started H enc _ => bcdZeros_lifted os started H enc)

/-- The statement. -/
theorem bcdZeros_holds : Rows.BcdZerosSaid := bcdZeros_over
#print axioms bcdZeros_holds
end Go.Proofs.Ytinkdiomepjneaa
