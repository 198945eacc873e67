/- Where a walk ends, and what it asks, is what the document's own walk tells: for every table of at most 30 states from every start, and every drawn table of at most 30 states, with at most 120 inputs of ten kinds, one of them any text of at most 40 bytes. -/
import Derived.Test.YtnahbfnchopghaaRound
import Derived.Test.YtnahbfnchopghaaTab
namespace Go.Proofs.Ytnahbfnchopghaa
open Go.ChangeShapes Go.WideShapes Go.ChangeAt Go.RowKit

/-- Some text of at most so many bytes. -/
def InAns (w : World) (e : Ending) (w' : World) : Prop := ∃ x : ByteArray, x.size ≤ 9223372036854775807 ∧ e = .returned (.string x) ∧ Below w.heap.size w w'
set_option maxHeartbeats 4000000 in
theorem input8 (k : Int) (s : ByteArray) (w : World) (hk : 0 ≤ k ∧ k < 256) (hs : s.size ≤ 9223372036854775807) :
    Calls Try.prog 8 #[.int .u8 k, .string s] w (InAns w) := by
  obtain ⟨z, hz⟩ : ∃ z, k.tmod 10 = z := ⟨_, rfl⟩
  have zb := tmod_bd k 10 hk.1 (by omega)
  rw [hz] at zb
  have HS := hid hs
  rcases (show z = 0 ∨ z = 1 ∨ z = 2 ∨ z = 3 ∨ z = 4 ∨ z = 5 ∨ z = 6 ∨ z = 7 ∨ z = 8 ∨ z = 9 by omega) with rfl | rfl | rfl | rfl | rfl | rfl | rfl | rfl | rfl | rfl <;> (
    clear zb hk hs
    go_enter Try.func8, Try.ntmps8
    go_wp2
    go_ret
    exact ⟨_, (by first | exact HS.out | decide), rfl, bel1 _ _⟩)
/-- What the calls read. -/
structure TS (W w : World) (x0 : Option Addr) (y0 z0 : Nat) (l0 : List St) (ta : Option Addr) (tl tc : Nat) (ls : List St) (ga : Option Addr) (gn gc : Nat) (xs : List ByteArray) : Prop where
  raw : SG w x0 y0 z0 l0
  tab : SG w ta tl tc ls
  giv : T.Given w ga gn gc xs
  bel : Below W.heap.size W w
theorem TS.next {W w w' : World} {x0 : Option Addr} {y0 z0 : Nat} {l0 : List St} {ta : Option Addr} {tl tc : Nat} {ls : List St} {ga : Option Addr} {gn gc : Nat} {xs : List ByteArray} (h : TS W w x0 y0 z0 l0 ta tl tc ls ga gn gc xs) (l : Below w.heap.size w w') : TS W w' x0 y0 z0 l0 ta tl tc ls ga gn gc xs :=
  ⟨h.raw.below l, h.tab.below l, h.giv.below l, sq h.bel l⟩
theorem txt_snoc {l : List ByteArray} {x : ByteArray} (h : Txt l) (hx : x.size ≤ 9223372036854775807) : Txt (l ++ [x]) := fun s hs => by
  rcases List.mem_append.1 hs with h1 | h1
  · exact h s h1
  · have : s = x := by simpa using h1
    rw [this]; exact hx
set_option maxRecDepth 20000 in
set_option maxHeartbeats 20000000 in
theorem tells_walk (x0 : Option Addr) (y0 z0 : Nat) (l0 : List St) (x1 : Option Addr) (y1 z1 : Nat) (l1 : List Int) (few start : Int) (x4 : Option Addr) (y4 z4 : Nat) (l4 : List Int) (s : ByteArray) (W : World)
    (h0 : InA W x0 y0 z0 l0) (h1 : InN W x1 y1 z1 l1) (hfew : 0 ≤ few ∧ few < 256) (_hstart : -9223372036854775808 ≤ start ∧ start < 9223372036854775808) (h4 : InB W x4 y4 z4 l4) (hs : s.size ≤ 9223372036854775807) :
    Calls Try.prog 3 #[.slice x0 y0 z0, .slice x1 y1 z1, .int .u8 few, .int .i64 start, .slice x4 y4 z4, .string s] W fun e w' => e = .returned (.bool true) ∧ Below W.heap.size W w' := by
  have TA := hid True.intro
  have HA := hid h0.1
  have HN := hid h1.1
  have HB := hid h4
  clear h0 h1 h4
  by_cases g0 : 30 < y0
  · have d0 : decide (30 < (y0 : Int)) = true := decide_eq_true (by omega)
    go_enter Try.func3, Try.ntmps3
    go_wp2_with ((have kill := TA.out; go_at_call 7; refine (known7 _).mono ?_; rintro e w1 ⟨rfl, l1⟩; have L1 := hid l1; clear l1 kill TA))
    go_ret
    exact ⟨rfl, L1.out⟩
  have d0 : decide (30 < (y0 : Int)) = false := decide_eq_false (by omega)
  have e0 : ¬ 30 < (y0 : Int) := by omega
  by_cases g1 : 30 < y1
  · have d1 : decide (30 < (y1 : Int)) = true := decide_eq_true (by omega)
    go_enter Try.func3, Try.ntmps3
    go_wp2_with ((have kill := TA.out; go_at_call 7; refine (known7 _).mono ?_; rintro e w1 ⟨rfl, l1⟩; have L1 := hid l1; clear l1 kill TA))
    go_ret
    exact ⟨rfl, L1.out⟩
  have d1 : decide (30 < (y1 : Int)) = false := decide_eq_false (by omega)
  have e1 : ¬ 30 < (y1 : Int) := by omega
  by_cases g4 : 120 < y4
  · have d4 : decide (120 < (y4 : Int)) = true := decide_eq_true (by omega)
    go_enter Try.func3, Try.ntmps3
    go_wp2_with ((have kill := TA.out; go_at_call 7; refine (known7 _).mono ?_; rintro e w1 ⟨rfl, l1⟩; have L1 := hid l1; clear l1 kill TA))
    go_ret
    exact ⟨rfl, L1.out⟩
  have d4 : decide (120 < (y4 : Int)) = false := decide_eq_false (by omega)
  have e4 : ¬ 120 < (y4 : Int) := by omega
  by_cases g5 : 40 < s.size
  · have d5 : decide (40 < (s.size : Int)) = true := decide_eq_true (by omega)
    go_enter Try.func3, Try.ntmps3
    go_wp2_with ((have kill := TA.out; go_at_call 7; refine (known7 _).mono ?_; rintro e w1 ⟨rfl, l1⟩; have L1 := hid l1; clear l1 kill TA))
    go_ret
    exact ⟨rfl, L1.out⟩
  have d5 : decide (40 < (s.size : Int)) = false := decide_eq_false (by omega)
  have e5 : ¬ 40 < (s.size : Int) := by omega
  have HS := hid hs
  clear hs
  go_enter Try.func3, Try.ntmps3
  go_wp2_with ((have kill := TA.out; go_at_call 7; refine (known7 _).mono ?_; rintro e w1 ⟨rfl, l1⟩; have L1 := hid l1; clear l1 kill TA))
  (try go_frame)
  go_loopw [13, 14] (fun x i wr => ∃ (j c : Nat) (a : Option Addr) (xs : List ByteArray), j ≤ y4 ∧ i = .int .i64 (j : Int) ∧ x = .slice a j c ∧ T.Mk w1 wr (.slice a j c) j xs ∧ Txt xs) (fun _ i _ => y4 - (intOf i).toNat)
  case atStart => exact ⟨0, 0, none, [], by omega, rfl, rfl, T.Mk.nil w1, fun s hs => by cases hs⟩
  case round =>
    obtain ⟨j, c, a, xs, hj, rfl, rfl, hm, htx⟩ := hrel
    have M1 := hid hm
    have TX := hid htx
    clear hm htx
    by_cases hlt : j < y4
    · have hd : decide ((j : Int) < (y4 : Int)) = true := decide_eq_true (by omega)
      have hlb : j < l4.length := by have := HB.out.giv.leq; omega
      obtain ⟨q, off, rfl, hc⟩ : ∃ q off, x4 = some ⟨q, off, none⟩ ∧ wr.cell? ⟨q, off + j, none⟩ = some (.int .u8 (l4.getD j 0)) := by
        rcases HB.out.giv.row with h | ⟨q, off, e, hc⟩
        · rw [h] at hlb; simp at hlb
        · exact ⟨q, off, e, cellkept (hc j hlb) (sq L1.out M1.out.bel)⟩
      have HV := hid (HB.out.giv.byt (l4.getD j 0) (by rw [List.getD_eq_getElem?_getD, List.getElem?_eq_getElem hlb]; exact List.getElem_mem hlb))
      generalize l4.getD j 0 = v at hc HV
      have TB := hid True.intro
      clear hlb
      go_wp2_with (first | (have kill := G3.out; refine app_txt (m := j + 1) M3.out G3.out rfl (by omega) rfl _ _ rfl rfl rfl ?_; intro a4 c4 w4 m; have M4 := hid m; clear m kill G3 M3) | (have kill := M2.out; refine bsT1 (r0 := x) rfl _ rfl rfl ?_; intro a3 w3 m; have G3 := hid m; have M3 := hid (M2.out.more m.bel); clear m kill M2) | (have kill := TB.out; go_at_call 8; refine (input8 v s _ HV.out HS.out).mono ?_; rintro e w2 ⟨x, hx, rfl, l⟩; have M2 := hid (M1.out.more l); have TX4 := hid (txt_snoc TX.out hx); clear l hx kill TB))
      (try go_frame)
      go_roundw
      case rel => exact ⟨j + 1, c4, a4, xs ++ [x], by omega, by go_num, rfl, M4.out, TX4.out⟩
      case measure => simp [intOf]; omega
    · obtain rfl : j = y4 := by omega
      have hd : decide ((j : Int) < (j : Int)) = false := decide_eq_false (by omega)
      have q1 := fun r => eqg30 r r
      have q2 := bin_same
      have TB := hid True.intro
      clear hlt hj
      go_wp2_with (first | (have kill := S5.out; go_at_call 11; refine (run11 _ _ _ ls _ _ _ _ xs _ S5.out.tab S5.out.giv).mono ?_; rintro e w15 ⟨rfl, l⟩; have S6 := hid (S5.out.next l); clear l kill S5) | (have kill := S4.out; go_at_call 10; refine (run10 _ _ _ ls _ _ _ _ xs _ S4.out.tab S4.out.giv).mono ?_; rintro e w14 ⟨rfl, l⟩; have S5 := hid (S4.out.next l); clear l kill S4) | (have kill := S3.out; go_at_call 11; refine (run11 _ _ _ l0 _ _ _ _ xs _ S3.out.raw S3.out.giv).mono ?_; rintro e w13 ⟨rfl, l⟩; have S4 := hid (S3.out.next l); clear l kill S3) | (have kill := S2.out; go_at_call 10; refine (run10 _ _ _ l0 _ _ _ _ xs _ S2.out.raw S2.out.giv).mono ?_; rintro e w12 ⟨rfl, l⟩; have S3 := hid (S2.out.next l); clear l kill S2) | (have kill := S1.out; go_at_call 11; refine (run11 _ _ _ ls _ _ _ _ xs _ S1.out.tab S1.out.giv).mono ?_; rintro e w11 ⟨rfl, l⟩; have S2 := hid (S1.out.next l); clear l kill S1) | (have kill := S0.out; go_at_call 10; refine (run10 _ _ _ ls _ _ _ _ xs _ S0.out.tab S0.out.giv).mono ?_; rintro e w10 ⟨rfl, l⟩; have S1 := hid (S0.out.next l); clear l kill S0) | (have kill := TB.out; go_at_call 9; refine (table8 x1 y1 z1 few _ (HN.out.below (sq L1.out M1.out.bel)) (by omega) hfew).mono ?_; rintro e w5 ⟨ta, tc, ls, rfl, mk, ok⟩; have S0 : Hid (TS W w5 x0 y0 z0 l0 ta y1 tc ls a j c xs) := hid ⟨HA.out.below (sq L1.out (sq M1.out.bel mk.bel)), mk.given, (M1.out.given TX.out).below mk.bel, sq L1.out (sq M1.out.bel mk.bel)⟩; clear mk ok kill TB))
      go_ret
      exact ⟨by simp, S6.out.bel⟩
theorem walkTells_own : ownKnob Try.prog.godebug = none := by kernel_rfl
theorem walkTells_laid : laidOutB Try.prog = true := by kernel_rfl

set_option maxRecDepth 100000 in
set_option maxHeartbeats 1000000 in
theorem walkTells_lifted (os : Os) (started : os.Started) (H : Type) (enc : TypeId × Value → H) :
    ReturnsInHanded {} Try.checked os 3 .any (Rows.walkTellsSpec.pre6 enc Try.prog Try.f3 Rows.walkTellsRow.domain false) (Rows.walkTellsSpec.post enc Try.prog Try.f3 false true false false) := by
  refine returnsInHanded_of_change (C := Try.checked) walkTells_own started (by kernel_rfl) Try.func3
    (ChangeSpec.witness6 (enc := enc) (C := Try.checked) false ⟨#[], #[.slice none 0 0, .slice none 0 0, .int .u8 0, .int .i64 0, .slice none 0 0, .string ⟨#[]⟩], []⟩ 8 (by kernel_rfl) (by kernel_rfl) (by kernel_rfl) (by kernel_rfl)) ?_
  intro W base args ds gs before hval0 hW hcnd _
  have hval : ∀ (j : Nat) t v, Try.f3.params[j]? = some t → args[j]? = some v → Value.okWide Try.prog W .any base t v := hval0
  have hW' := hW
  obtain ⟨p, q, hA0, hV, rfl, hfz, hnd⟩ := hW
  have hA : DataW.TrodAll enc Try.prog W 0 (fun _ => true) true Try.f3.params.toList args.toList ds p := hA0
  rw [Try.params3] at hA hval
  obtain ⟨v0, vs0, d0, ds0, p0, q0, hargs, rfl, rfl, h0, r0⟩ := trodAll_cons hA
  obtain ⟨v1, vs1, d1, ds1, p1, q1, rfl, rfl, rfl, h1, r1⟩ := trodAll_cons r0
  obtain ⟨v2, vs2, d2, ds2, p2, q2, rfl, rfl, rfl, h2, r2⟩ := trodAll_cons r1
  obtain ⟨v3, vs3, d3, ds3, p3, q3, rfl, rfl, rfl, h3, r3⟩ := trodAll_cons r2
  obtain ⟨v4, vs4, d4, ds4, p4, q4, rfl, rfl, rfl, h4, r4⟩ := trodAll_cons r3
  obtain ⟨v5, vs5, d5, ds5, p5, q5, rfl, rfl, rfl, h5, r5⟩ := trodAll_cons r4
  obtain ⟨rfl, rfl, rfl⟩ := trodAll_nil r5
  obtain rfl : args = #[v0, v1, v2, v3, v4, v5] := by cases args; simp_all
  obtain ⟨rfl, rfl⟩ := trodVars_none hV
  obtain ⟨x0, y0, z0, rfl⟩ := okWide_slice Try.underlying22 (hval 0 22 v0 rfl rfl)
  have k0 := h0
  have lt0 : ∀ x ∈ p0, x.block < W.heap.size := by obtain ⟨m, hm⟩ := k0; exact DataW.trod_lt m _ _ _ hm
  obtain ⟨a0, len0, cap0, l0, e0, w0⟩ : ∃ a len cap l, Value.slice x0 y0 z0 = .slice a len cap ∧ InA W a len cap l := by
    obtain ⟨fuel, hf⟩ := h0
    exact open_inA hf
  cases e0
  obtain ⟨x1, y1, z1, rfl⟩ := okWide_slice Try.underlying23 (hval 1 23 v1 rfl rfl)
  have k1 := h1
  have lt1 : ∀ x ∈ p1, x.block < W.heap.size := by obtain ⟨m, hm⟩ := k1; exact DataW.trod_lt m _ _ _ hm
  obtain ⟨a1, len1, cap1, l1, e1, w1⟩ : ∃ a len cap l, Value.slice x1 y1 z1 = .slice a len cap ∧ InN W a len cap l := by
    obtain ⟨fuel, hf⟩ := h1
    exact open_inN hf
  cases e1
  obtain ⟨a2, rfl, rfl, rfl, w2⟩ := open_int Try.underlying5 (hval 2 5 v2 rfl rfl) h2
  obtain ⟨a3, rfl, rfl, rfl, w3⟩ := open_int Try.underlying3 (hval 3 3 v3 rfl rfl) h3
  obtain ⟨x4, y4, z4, rfl⟩ := okWide_slice Try.underlying24 (hval 4 24 v4 rfl rfl)
  have k4 := h4
  have lt4 : ∀ x ∈ p4, x.block < W.heap.size := by obtain ⟨m, hm⟩ := k4; exact DataW.trod_lt m _ _ _ hm
  obtain ⟨a4, len4, cap4, l4, e4, w4⟩ : ∃ a len cap l, Value.slice x4 y4 z4 = .slice a len cap ∧ InB W a len cap l := by
    obtain ⟨fuel, hf⟩ := h4
    exact open_inB hf
  cases e4
  obtain ⟨a5, rfl, rfl, rfl, w5⟩ := Go.ChangeMaps.open_string Try.underlying9 (hval 5 9 v5 rfl rfl) h5
  clear hA0 hval0
  refine (tells_walk x0 y0 z0 l0 x1 y1 z1 l1 a2 a3 x4 y4 z4 l4 a5 W w0 w1 (by have := bounds_u8 w2; omega) (by have := bounds_i64 w3; omega) w4 w5).mono fun e W' ⟨he, bel⟩ => ?_
  subst he
  exact ⟨_, rfl, _, _, _, [], _, [], hW', trodAll_mk1 (shut_bool Try.underlying4 _), (trodAll_cons_mk (Below.trod walkTells_laid (by kernel_rfl) (of_decide_eq_true (by kernel_rfl)) k0 bel lt0) (trodAll_cons_mk (Below.trod walkTells_laid (by kernel_rfl) (of_decide_eq_true (by kernel_rfl)) k1 bel lt1) (trodAll_cons_mk (shut_int Try.underlying5 w2) (trodAll_cons_mk (shut_int Try.underlying3 w3) (trodAll_cons_mk (Below.trod walkTells_laid (by kernel_rfl) (of_decide_eq_true (by kernel_rfl)) k4 bel lt4) (trodAll_cons_mk (Go.ChangeMaps.shut_string Try.underlying9 w5) trodAll_mk0)))))), rfl, bel.frame _, fun h => by cases h⟩

theorem walkTells_over : Rows.walkTellsRow.holds Try.pinned (OpenSpec.ofChange Rows.walkTellsSpec) :=
  OpenClaim.holds_of_wide 3 Try.f3 rfl rfl rfl rfl rfl rfl rfl ⟨rfl, rfl, rfl, rfl, rfl⟩ rfl rfl rfl rfl rfl (by kernel_rfl) Try.func3 (by kernel_rfl)
    (of_decide_eq_true (by kernel_rfl)) (by unfold Func.isWrapper; first | (rw [if_pos (by decide +kernel)]; kernel_rfl) | (rw [if_neg (by decide +kernel)]; exact ⟨rfl, rfl⟩))
    (fun os started H enc _ => walkTells_lifted os started H enc)

/-- The statement. -/
theorem walkTells_holds : Rows.WalkTellsSaid := walkTells_over
#print axioms walkTells_holds
end Go.Proofs.Ytnahbfnchopghaa
