/- JournalAlways: what fits a new journal goes into a full one in the place of all; for every number of sectors and records of every kind. -/
import Derived.Test.YthhgnflkplpklaaJKnown
namespace Go.Proofs.Ythhgnflkplpklaa
set_option maxRecDepth 20000
open Go.ChangeShapes Go.WideShapes Go.ChangeAt Go.RowKit
open Dsc (Dk Sec Dat Feet tc hid sq bel1 newD reopD cutD)
open Frm (Rc putL rightB bytesL num Given Mk Row RowAt RV al29 st29 ld29 seatR)
theorem add_either {w0 w : World} {p q : Nat} {d : Dk} {h : Hd} {l : List Rc} (j : JS w0 w p q d h l) {ao : Option Addr} {len cap : Nat} {rs : List Rc} (R : RG w ao len cap rs) (hg : Good rs) (hs : l.length + len ≤ 100000000) (h0 : d.left = 0) (N : Nat) (hN : d.secs.length = N) (hfit : ¬ (frs (l ++ rs)).length ≤ (N - 1) / 2 * 64) :
    Calls Try.prog 19 #[.pointer (some ⟨q, 0, none⟩), .slice ao len cap] w fun e w' => e = .returned (.int .i64 21) ∧ Kin w w' ∧ ∃ h', JS w0 w' p q d h' l := by
  subst hN
  refine (add_any j R hg hs).mono ?_
  rintro e w' ⟨z, rfl, k, ⟨rfl, f, _⟩ | ⟨rfl, _, h', j'⟩ | ⟨rfl, f, _⟩⟩
  · unfold arS at f; omega
  · exact ⟨rfl, k, h', j'⟩
  · omega
def slen : Value → Nat | .slice _ n _ => n | _ => 0
theorem seat_good1 {x k s m : Int} (k0 : 0 ≤ k) (k1 : k < 256) (s0 : 0 ≤ s) (s1 : s < 256) : Good [seatR x k s m] := by
  intro r hr; simp at hr; subst hr
  exact ⟨Frm.seat_right k0 k1 s0 s1, Frm.seat_ok⟩
set_option maxHeartbeats 8000000 in
theorem always_walk (a0 a1 : Int) (w : World) (b0 : 0 ≤ a0 ∧ a0 < 256) (b1 : 0 ≤ a1 ∧ a1 < 256) :
    Calls Try.prog 8 #[.int .u8 a0, .int .u8 a1] w fun e w' => e = .returned (.bool true) ∧ Below w.heap.size w w' := by
  have e0 := tmod_nat b0.1 60 (by omega)
  have m0 : (a0 % 60).toNat < 60 := by omega
  generalize (a0 % 60).toNat = M at *
  obtain ⟨A, hA⟩ : ∃ A, (M + 30 - 1) / 2 * 64 = A := ⟨_, rfl⟩
  have hA1 : 16 * (M + 30) ≤ A + 256 := by omega
  have hA2 : A ≤ 2816 := by omega
  have HA := hid hA
  clear hA
  have x1 : IntKind.i64.wrap (M : Int) = M := wr64 (by omega)
  obtain ⟨k1, hk1⟩ : ∃ k, (a1 + 1) % 256 = k := ⟨_, rfl⟩
  have x2 : IntKind.u8.wrap (a1 + 1) = k1 := by rw [IntKind.wrap_u8]; exact hk1
  have hk1a : 0 ≤ k1 ∧ k1 < 256 := by omega
  have HK1 := hid hk1
  clear hk1
  go_enter Try.func8, Try.ntmps8
  go_wp2_with (first | (go_at_call 11; refine (open_new J2.out (by omega)).mono ?_; rintro e w3 ⟨q3, ao3, cap3, h3, rfl, j3, g3, k3⟩; have J3 := hid j3; clear j3 g3 k3) | (go_at_call 10; refine (new_jd _ (M + 30) (by omega) K1.out).mono ?_; rintro e w2 ⟨p2, rfl, j2, k2'⟩; have J2 := hid j2; clear j2 k2') | (go_at_call 9; refine (known_any _).mono ?_; rintro e w1 ⟨rfl, k1'⟩; have K1 := hid k1'; clear k1'))
  go_loopw [10, 11] (fun c i wr => ∃ (k : Nat) (d : Dk) (h : Hd) (acc : List Rc), k ≤ 400 ∧ acc.length = k ∧ i = .int .i64 (k : Int) ∧ c = .int .i64 (k : Int) ∧ JS w wr p2 q3 d h acc ∧ d.left = 0 ∧ d.secs.length = M + 30) (fun _ i _ => 400 - (intOf i).toNat)
  case atStart => exact ⟨0, newD (M + 30), h3, [], by omega, rfl, rfl, rfl, J3.out, rfl, by simp [newD]⟩
  case round =>
    obtain ⟨k, d, h, acc, hk, hacc, rfl, rfl, j4, l4, n4⟩ := hrel
    have J4 := hid j4
    have N4 := hid n4
    have HAC := hid hacc
    clear j4 n4 hacc
    have hfa := J4.out.held.fit
    rw [N4.out, HA.out, J4.out.held.len] at hfa
    have hfe := frs_few acc
    rw [HAC.out] at hfe
    have hk67 : k ≤ 67 := by omega
    clear hfa hfe
    have y1 : IntKind.u8.wrap (k : Int) = k := by rw [IntKind.wrap_u8]; omega
    have y2 : IntKind.u16.wrap (k : Int) = k := by rw [IntKind.wrap_u16]; omega
    have hg := hid (seat_good1 (x := a1) (m := (k : Int)) b1.1 b1.2 (s := (k : Int)) (by omega) (by omega))
    obtain ⟨r, hr⟩ : ∃ r, seatR a1 a1 k k = r := ⟨_, rfl⟩
    rw [hr] at hg
    have HR := hid hr
    clear hr
    by_cases hfit : (frs (acc ++ [r])).length ≤ A
    · have HFI := hid hfit
      clear hfit
      go_wp2_with (first | (go_at_call 19; refine (add_yes J6.out R6.out hg.out (by rw [HAC.out]; omega) l4 (M + 30) N4.out (by rw [HA.out]; exact HFI.out)).mono ?_; rintro e w7 ⟨rfl, k7, d7, h7, j7, n7, l7⟩; have J7 := hid j7; have N7 := hid n7; clear k7 j7 n7) | (refine bsR (r := r) rfl _ rfl rfl ?_; intro ao6 w6 r6 k6; have R6 := hid r6; have J6 := hid (J4.out.more (sq K5.out k6)); clear r6 k6) | (go_at_call 25; refine (Frm.rec9 a1 a1 k k _ b1.1 b1.2 b1.1 b1.2 (by omega) (by omega) (by omega) (by omega)).mono ?_; rintro e w5 ⟨rfl, k5⟩; rw [HR.out]; have K5 := hid k5; clear k5))
      go_roundw
      case rel => exact ⟨k + 1, d7, h7, acc ++ [r], by omega, by rw [List.length_append, HAC.out]; rfl, by go_num, by go_num, J7.out, l7, N7.out⟩
      case measure => simp [intOf]; omega
    · have HFI := hid hfit
      clear hfit
      go_wp2_with (first | (go_at_call 20; refine (len_js J7.out k HAC.out).mono ?_; rintro e w8 ⟨rfl, rfl⟩) | (go_at_call 19; refine (add_either J6.out R6.out hg.out (by rw [HAC.out]; omega) l4 (M + 30) N4.out (by rw [HA.out]; exact HFI.out)).mono ?_; rintro e w7 ⟨rfl, k7, h7, j7⟩; have J7 := hid j7; clear k7 j7) | (refine bsR (r := r) rfl _ rfl rfl ?_; intro ao6 w6 r6 k6; have R6 := hid r6; have J6 := hid (J4.out.more (sq K5.out k6)); clear r6 k6) | (go_at_call 25; refine (Frm.rec9 a1 a1 k k _ b1.1 b1.2 b1.1 b1.2 (by omega) (by omega) (by omega) (by omega)).mono ?_; rintro e w5 ⟨rfl, k5⟩; rw [HR.out]; have K5 := hid k5; clear k5))
      clear J6 R6 K5 J4 y1 y2 HR hg HFI
      generalize wr = wa at *
      go_loopw [13] (fun o wr => ∃ (m F : Nat) (ao : Option Addr) (cap : Nat) (l : List Rc), o = .slice ao m cap ∧ MkR w7 wr (.slice ao m cap) m l ∧ Good l ∧ (frs l).length = F ∧ F ≤ 16 * (M + 30) - 256) (fun o _ => 100 - slen o)
      case atStart => exact ⟨0, 0, none, 0, [], rfl, MkR.nil _, fun r hr => (by cases hr), rfl, by omega⟩
      case round =>
        obtain ⟨m, F, ao8, cap8, l, rfl, d8, hgl, hF, hF2⟩ := hrel
        have D8 := hid d8
        have HGL := hid hgl
        have HF := hid hF
        have hfe := frs_few l
        rw [hF, d8.1.len] at hfe
        have HLN := hid d8.1.len
        clear d8 hgl hF
        have hm : m ≤ 40 := by omega
        by_cases hgo : (F : Int) + 70 ≤ 16 * ((M : Int) + 30) - 256
        · have y3 : IntKind.u8.wrap (m : Int) = m := by rw [IntKind.wrap_u8]; omega
          have hg := hid (seat_good1 (x := k1) (m := 7) b1.1 b1.2 (s := (m : Int)) (by omega) (by omega))
          have hP := frs_many hg.out
          obtain ⟨r2, hr⟩ : ∃ r, seatR k1 a1 m 7 = r := ⟨_, rfl⟩
          rw [hr] at hg hP
          obtain ⟨P, hPP⟩ : ∃ P, (frs [r2]).length = P := ⟨_, rfl⟩
          rw [hPP] at hP
          simp only [List.length_cons, List.length_nil] at hP
          have HPP := hid hPP
          have HR := hid hr
          clear hr hPP
          go_wp2_with (first | (at_builtin; refine app_recs (D8.out.more (sq (sq K9.out K10.out) K11.out)) R11.out (m := m + 1) rfl (by omega) rfl _ _ rfl rfl rfl ?_; intro ao12 cap12 w12 d12; have D12 := hid d12; clear d12) | (refine bsR (r := r2) rfl _ rfl rfl ?_; intro ao11 w11 r11 k11; have R11 := hid r11; have K11 := hid k11; clear r11 k11) | (go_at_call 25; refine (Frm.rec9 k1 a1 m 7 _ hk1a.1 hk1a.2 b1.1 b1.2 (by omega) (by omega) (by omega) (by omega)).mono ?_; rintro e w10 ⟨rfl, k10⟩; rw [HR.out]; have K10 := hid k10; clear k10) | (go_at_call 14; refine (size_any D8.out.given HGL.out (by omega)).mono ?_; rintro e w9 ⟨rfl, k9⟩; rw [HF.out]; have K9 := hid k9; clear k9))
          go_roundw
          case rel => exact ⟨m + 1, F + P, ao12, cap12, l ++ [r2], rfl, D12.out, HGL.out.app hg.out, by rw [frs_len_app, HF.out, HPP.out], by omega⟩
          case measure => simp [slen]; omega
        · go_wp2_with (first | (go_at_call 21; refine (recs_eq G11.out (R10.out.below K11.out)).mono ?_; rintro e w12 ⟨rfl, k12⟩; have K12 := hid k12; clear k12) | (go_at_call 11; refine (open_js J10.out m HLN.out).mono ?_; rintro e w11 ⟨q11, ao11, cap11, h11, rfl, j11, g11, k11⟩; have G11 := hid g11; have K11 := hid k11; clear j11 g11 k11) | (go_at_call 13; refine (rep_yes (J7.out.more (sq D8.out.bel K9.out)) (D8.out.given.below K9.out) HGL.out (by rw [HAC.out]; omega) l4 (M + 30) N4.out (by rw [HF.out, HA.out]; omega)).mono ?_; rintro e w10 ⟨rfl, k10, d10, h10, j10, n10, l10⟩; have J10 := hid j10; have R10 := hid ((D8.out.given.below K9.out).kin k10); clear k10 j10 n10 l10) | (go_at_call 14; refine (size_any D8.out.given HGL.out (by omega)).mono ?_; rintro e w9 ⟨rfl, k9⟩; rw [HF.out]; have K9 := hid k9; clear k9))
          go_ret
          exact ⟨rfl, sq J10.out.log.disk.bel (sq K11.out K12.out)⟩
theorem journalAlways_own : ownKnob Try.prog.godebug = none := by kernel_rfl
theorem journalAlways_laid : laidOutB Try.prog = true := by kernel_rfl

set_option maxRecDepth 100000 in
set_option maxHeartbeats 1000000 in
theorem journalAlways_lifted (os : Os) (started : os.Started) (H : Type) (enc : TypeId × Value → H) :
    ReturnsInHanded {} Try.checked os 8 .any (Rows.journalAlwaysSpec.pre6 enc Try.prog Try.f8 Rows.journalAlwaysRow.domain false) (Rows.journalAlwaysSpec.post enc Try.prog Try.f8 false true false false) := by
  refine returnsInHanded_of_change (C := Try.checked) journalAlways_own started (by kernel_rfl) Try.func8
    (ChangeSpec.witness6 (enc := enc) (C := Try.checked) false ⟨#[], #[.int .u8 0, .int .u8 0], []⟩ 8 (by kernel_rfl) (by kernel_rfl) (by kernel_rfl) (by kernel_rfl)) ?_
  intro W base args ds gs before hval0 hW hcnd _
  have hval : ∀ (j : Nat) t v, Try.f8.params[j]? = some t → args[j]? = some v → Value.okWide Try.prog W .any base t v := hval0
  have hW' := hW
  obtain ⟨p, q, hA0, hV, rfl, hfz, hnd⟩ := hW
  have hA : DataW.TrodAll enc Try.prog W 0 (fun _ => true) true Try.f8.params.toList args.toList ds p := hA0
  rw [Try.params8] at hA hval
  obtain ⟨v0, vs0, d0, ds0, p0, q0, hargs, rfl, rfl, h0, r0⟩ := trodAll_cons hA
  obtain ⟨v1, vs1, d1, ds1, p1, q1, rfl, rfl, rfl, h1, r1⟩ := trodAll_cons r0
  obtain ⟨rfl, rfl, rfl⟩ := trodAll_nil r1
  obtain rfl : args = #[v0, v1] := by cases args; simp_all
  obtain ⟨rfl, rfl⟩ := trodVars_none hV
  obtain ⟨a0, rfl, rfl, rfl, w0⟩ := open_int Try.underlying5 (hval 0 5 v0 rfl rfl) h0
  obtain ⟨a1, rfl, rfl, rfl, w1⟩ := open_int Try.underlying5 (hval 1 5 v1 rfl rfl) h1
  clear hA0 hval0
  refine (always_walk a0 a1 W (by have := bounds_u8 w0; omega) (by have := bounds_u8 w1; omega)).mono fun e W' ⟨he, bel⟩ => ?_
  subst he
  exact ⟨_, rfl, _, _, _, [], _, [], hW', trodAll_mk1 (shut_bool Try.underlying4 _), (trodAll_cons_mk (shut_int Try.underlying5 w0) (trodAll_cons_mk (shut_int Try.underlying5 w1) trodAll_mk0)), rfl, bel.frame _, fun h => by cases h⟩

theorem journalAlways_over : Rows.journalAlwaysRow.holds Try.pinned (OpenSpec.ofChange Rows.journalAlwaysSpec) :=
  OpenClaim.holds_of_wide 8 Try.f8 rfl rfl rfl rfl rfl rfl rfl ⟨rfl, rfl, rfl, rfl, rfl⟩ rfl rfl rfl rfl rfl (by kernel_rfl) Try.func8 (by kernel_rfl)
    (of_decide_eq_true (by kernel_rfl)) (by unfold Func.isWrapper; first | (rw [if_pos (by decide +kernel)]; kernel_rfl) | (rw [if_neg (by decide +kernel)]; exact ⟨rfl, rfl⟩))
    (fun os started H enc _ => journalAlways_lifted os started H enc)

/-- The statement. -/
theorem journalAlways_holds : Rows.JournalAlwaysSaid := journalAlways_over
#print axioms journalAlways_holds
end Go.Proofs.Ythhgnflkplpklaa
