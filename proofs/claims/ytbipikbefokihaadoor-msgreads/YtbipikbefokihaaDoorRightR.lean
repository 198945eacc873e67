/- The document's Right. -/
import Derived.Test.YtbipikbefokihaaDoorAbc
namespace Go.Proofs.YtbipikbefokihaaDoor
open Go.ChangeShapes Go.WideShapes Go.ChangeAt Go.RowKit

theorem ld4w {ops : Array Oper} {rest : List Oper} {op : Oper} {a : Act} {w : World} {Q : Exit → Act → World → Prop} {b : Nat} {r : Ms} (hr : RV w b r) (o : Nat) {x0 x1 x2 x3 : Int} (he : (r.cells.drop o).take 4 = c4 x0 x1 x2 x3) (y : Operand) (ho : op.op = .load 25 y) (hw : Region.wanted op (yielded ops a.tmps) = true) (hx : a.eval y = .pointer (some ⟨b, o, none⟩))
    (h : wpList Tryd.prog ops Q rest (a.put op.dst (.agg #[.int .i64 x0, .int .i64 x1, .int .i64 x2, .int .i64 x3])) w) : wpList Tryd.prog ops Q (op :: rest) a w :=
  wpList_want hw fun _ hK => wp_load_mid 25 y ho b o hx (c4 x0 x1 x2 x3) _ (hr.four o he) Tryd.underlying25 rfl n25 (hK _ _ h)
theorem all_of {m : Ms} {l : List Int} {f : Int} (hf : f ∈ l) (h : cB m f = false) : l.all (cB m) = false := by
  cases e : l.all (cB m)
  · rfl
  · rw [List.all_eq_true] at e; rw [e f hf] at h; cases h
theorem right_a {m : Ms} (hm : m.Ok) (hk : okK m.kind = true) (h : aB m = false) : rightL m = false := by rw [right_abc hm hk, h]; rfl
theorem right_b {m : Ms} (hm : m.Ok) (hk : okK m.kind = true) (h : bB m = false) : rightL m = false := by rw [right_abc hm hk, h]; simp
theorem right_c {m : Ms} {f : Int} (hm : m.Ok) (hk : okK m.kind = true) (hf : f ∈ [4, 5, 6, 7, 9]) (h : cB m f = false) : rightL m = false := by rw [right_abc hm hk, all_of hf h]; simp
theorem right_y {m : Ms} (hm : m.Ok) (hk : okK m.kind = true) (h1 : aB m = true) (h2 : bB m = true) (h3 : [4, 5, 6, 7, 9].all (cB m) = true) : rightL m = true := by rw [right_abc hm hk, h1, h2, h3]; rfl
def fives : List Int := [4, 5, 6, 7, 9]
set_option maxRecDepth 20000 in
set_option maxHeartbeats 8000000 in
theorem right12 (m : Ms) (w : World) (hm : m.Ok) (hp : m.pan.size ≤ 9223372036854775807) :
    Calls Tryd.prog 12 #[m.val] w fun e w' => e = .returned (.bool (rightL m)) ∧ Below w.heap.size w w' := by
  have HM := hid hm
  have HP := hid hp
  have s0 := hm.2.1
  clear hm hp
  obtain ⟨ok, hok⟩ : ∃ ok, okK m.kind = ok := ⟨_, rfl⟩
  obtain ⟨l, hl⟩ : ∃ l, letK m.kind = l := ⟨_, rfl⟩
  obtain ⟨cd, hcd⟩ : ∃ c, codeK m.kind = c := ⟨_, rfl⟩
  have HO := hid hok
  have HL := hid hl
  have HCD := hid hcd
  have HLZ : Hid (l.size ≤ 9223372036854775807) := by
    unfold Hid; rw [← hl]; unfold letK; repeat' split
    all_goals decide
  clear hl hcd
  go_enter Tryd.func12, Tryd.ntmps12
  go_upto_region 2 with (first | (go_at_call 21; have kill := L1.out; refine (parts21 _ _).mono ?_; rintro e w2 ⟨rfl, rfl⟩; rw [HO.out, HL.out, HCD.out]) | (refine bx27 rfl _ rfl rfl ?_; intro b1 w1 hb1 v1 l1; have V1 := hid v1; have L1 := hid l1; have cc := (v1.cell 0 rfl : w1.cell? ⟨b1, 0, none⟩ = some (.int .i64 m.kind)); clear v1 l1))
  have cst := V1.out.cell 2 rfl
  have cam := V1.out.cell 4 rfl
  have clo := V1.out.cell 21 rfl
  obtain ⟨st, hst⟩ : ∃ x, m.stan = x := ⟨_, rfl⟩
  obtain ⟨am, ham⟩ : ∃ x, m.amt = x := ⟨_, rfl⟩
  obtain ⟨lo, hlo⟩ : ∃ x, m.loads = x := ⟨_, rfl⟩
  rw [hst] at cst s0
  rw [ham] at cam
  rw [hlo] at clo
  have HA : Hid (aB m = (decide (st ≤ 999999) && (inB 1000000 am && inB 1000000 lo))) := by unfold Hid aB; rw [hst, ham, hlo]
  have HST := hid hst
  have HAM := hid ham
  have HLO := hid hlo
  clear hst ham hlo
  cases ok
  · have HR := hid (right_no hok)
    clear hok
    go_wp2
    go_ret
    exact ⟨by rw [HR.out]; rfl, L1.out⟩
  clear hok
  by_cases a1 : 999999 < st
  · have HR := hid (right_a HM.out HO.out (HA.out.trans (by rw [decide_eq_false (by omega)]; rfl)))
    go_wp2
    go_ret
    exact ⟨by rw [HR.out]; rfl, L1.out⟩
  by_cases a2 : am < 0
  · have HR := hid (right_a HM.out HO.out (HA.out.trans (by rw [show inB 1000000 am = false from decide_eq_false (by omega)]; simp)))
    go_wp2
    go_ret
    exact ⟨by rw [HR.out]; rfl, L1.out⟩
  by_cases a3 : 1000000 < am
  · have HR := hid (right_a HM.out HO.out (HA.out.trans (by rw [show inB 1000000 am = false from decide_eq_false (by omega)]; simp)))
    go_wp2
    go_ret
    exact ⟨by rw [HR.out]; rfl, L1.out⟩
  by_cases a4 : lo < 0
  · have HR := hid (right_a HM.out HO.out (HA.out.trans (by rw [show inB 1000000 lo = false from decide_eq_false (by omega)]; simp)))
    go_wp2
    go_ret
    exact ⟨by rw [HR.out]; rfl, L1.out⟩
  by_cases a5 : 1000000 < lo
  · have HR := hid (right_a HM.out HO.out (HA.out.trans (by rw [show inB 1000000 lo = false from decide_eq_false (by omega)]; simp)))
    go_wp2
    go_ret
    exact ⟨by rw [HR.out]; rfl, L1.out⟩
  have HAY : Hid (aB m = true) := HA.out.trans (by rw [decide_eq_true (by omega), show inB 1000000 am = true from decide_eq_true (by omega), show inB 1000000 lo = true from decide_eq_true (by omega)]; rfl)
  go_upto_region 4 with (fail)
  go_cut [91] from 17 (fun v wx => v = .bool (!bB m) ∧ wx = w1)
  case first =>
    have cpa := V1.out.cell 3 rfl
    obtain ⟨pa, hpa⟩ : ∃ x, m.pan = x := ⟨_, rfl⟩
    rw [hpa] at cpa
    have HPZ : Hid (pa.size ≤ 9223372036854775807) := by unfold Hid; rw [← hpa]; exact HP.out
    obtain ⟨h1, e1⟩ : ∃ h, hB m 1 = h := ⟨_, rfl⟩
    obtain ⟨h3, e3⟩ : ∃ h, hB m 3 = h := ⟨_, rfl⟩
    obtain ⟨h8, e8⟩ : ∃ h, hB m 8 = h := ⟨_, rfl⟩
    obtain ⟨h2, e2⟩ : ∃ h, hB m 2 = h := ⟨_, rfl⟩
    have X1 : Hid (hasC l 115 = h1) := by unfold Hid; rw [← HL.out, ← e1]; exact let_has (f := 1) HO.out (by decide)
    have X3 : Hid (hasC l 97 = h3) := by unfold Hid; rw [← HL.out, ← e3]; exact let_has (f := 3) HO.out (by decide)
    have X8 : Hid (hasC l 108 = h8) := by unfold Hid; rw [← HL.out, ← e8]; exact let_has (f := 8) HO.out (by decide)
    have X2 : Hid (hasC l 112 = h2) := by unfold Hid; rw [← HL.out, ← e2]; exact let_has (f := 2) HO.out (by decide)
    have HB : Hid (bB m = ((h1 || decide (st = 0)) && ((h3 || decide (am = 0)) && ((h8 || decide (lo = 0)) && (if h2 = true then panB pa else decide (pa = ⟨#[]⟩)))))) := by
      unfold Hid bB; rw [e1, e3, e8, e2, HST.out, HAM.out, HLO.out, hpa]
    have HK : Hid ((h1, h3, h8, h2) ∈ [(true, true, false, true), (true, false, false, false), (false, false, false, false), (true, false, true, false), (true, true, false, false)]) := by
      unfold Hid; rw [← e1, ← e3, ← e8, ← e2]
      unfold hB
      rcases kind_cases HO.out with h | h | h | h | h | h | h <;> rw [h] <;> decide
    clear e1 e3 e8 e2 hpa
    have hk := HK.out
    simp only [List.mem_cons, List.not_mem_nil, or_false, Prod.mk.injEq] at hk
    clear HK
    rcases hk with ⟨rfl, rfl, rfl, rfl⟩ | ⟨rfl, rfl, rfl, rfl⟩ | ⟨rfl, rfl, rfl, rfl⟩ | ⟨rfl, rfl, rfl, rfl⟩ | ⟨rfl, rfl, rfl, rfl⟩
    · by_cases zlo : lo = 0
      rotate_left
      · have nlo : (lo != 0) = true := by simpa using zlo
        have mlo : (lo == 0) = false := by simpa using zlo
        have HR : Hid (bB m = false) := HB.out.trans (by rw [decide_eq_false zlo]; simp)
        go_wp2_with (first | (go_at_call 28; have kill := TK2.out; refine (has28 l 108 _ HLZ.out).mono ?_; rintro e w3 ⟨rfl, rfl⟩; rw [X8.out]; have TK3 := hid True.intro) | (go_at_call 28; have kill := TK1.out; refine (has28 l 97 _ HLZ.out).mono ?_; rintro e w3 ⟨rfl, rfl⟩; rw [X3.out]; have TK2 := hid True.intro) | (go_at_call 28; refine (has28 l 115 _ HLZ.out).mono ?_; rintro e w3 ⟨rfl, rfl⟩; rw [X1.out]; have TK1 := hid True.intro))
        go_meet
        case rel => exact ⟨by rw [HR.out]; rfl, rfl⟩
      have qlo : (lo != 0) = false := by simpa using zlo
      cases hpb : panB pa
      · have HPB := hid hpb
        have HR : Hid (bB m = false) := HB.out.trans (by rw [if_pos rfl, hpb]; simp [zlo])
        clear hpb
        go_wp2_with (first | (go_at_call 29; refine (pan29 pa _ HPZ.out).mono ?_; rintro e w3 ⟨rfl, rfl⟩; rw [HPB.out]) | (go_at_call 28; have kill := TK3.out; refine (has28 l 112 _ HLZ.out).mono ?_; rintro e w3 ⟨rfl, rfl⟩; rw [X2.out]; have TK4 := hid True.intro) | (go_at_call 28; have kill := TK2.out; refine (has28 l 108 _ HLZ.out).mono ?_; rintro e w3 ⟨rfl, rfl⟩; rw [X8.out]; have TK3 := hid True.intro) | (go_at_call 28; have kill := TK1.out; refine (has28 l 97 _ HLZ.out).mono ?_; rintro e w3 ⟨rfl, rfl⟩; rw [X3.out]; have TK2 := hid True.intro) | (go_at_call 28; refine (has28 l 115 _ HLZ.out).mono ?_; rintro e w3 ⟨rfl, rfl⟩; rw [X1.out]; have TK1 := hid True.intro))
        go_meet
        case rel => exact ⟨by rw [HR.out]; rfl, rfl⟩
      · have HPB := hid hpb
        have HR : Hid (bB m = true) := HB.out.trans (by rw [if_pos rfl, hpb]; simp [zlo])
        clear hpb
        go_wp2_with (first | (go_at_call 29; refine (pan29 pa _ HPZ.out).mono ?_; rintro e w3 ⟨rfl, rfl⟩; rw [HPB.out]) | (go_at_call 28; have kill := TK4.out; refine (has28 l 112 _ HLZ.out).mono ?_; rintro e w3 ⟨rfl, rfl⟩; rw [X2.out]; have TK5 := hid True.intro) | (go_at_call 28; have kill := TK3.out; refine (has28 l 112 _ HLZ.out).mono ?_; rintro e w3 ⟨rfl, rfl⟩; rw [X2.out]; have TK4 := hid True.intro) | (go_at_call 28; have kill := TK2.out; refine (has28 l 108 _ HLZ.out).mono ?_; rintro e w3 ⟨rfl, rfl⟩; rw [X8.out]; have TK3 := hid True.intro) | (go_at_call 28; have kill := TK1.out; refine (has28 l 97 _ HLZ.out).mono ?_; rintro e w3 ⟨rfl, rfl⟩; rw [X3.out]; have TK2 := hid True.intro) | (go_at_call 28; refine (has28 l 115 _ HLZ.out).mono ?_; rintro e w3 ⟨rfl, rfl⟩; rw [X1.out]; have TK1 := hid True.intro))
        go_meet
        case rel => exact ⟨by rw [HR.out]; rfl, rfl⟩
    · by_cases zam : am = 0
      rotate_left
      · have nam : (am != 0) = true := by simpa using zam
        have mam : (am == 0) = false := by simpa using zam
        have HR : Hid (bB m = false) := HB.out.trans (by rw [decide_eq_false zam]; simp)
        go_wp2_with (first | (go_at_call 28; have kill := TK1.out; refine (has28 l 97 _ HLZ.out).mono ?_; rintro e w3 ⟨rfl, rfl⟩; rw [X3.out]; have TK2 := hid True.intro) | (go_at_call 28; refine (has28 l 115 _ HLZ.out).mono ?_; rintro e w3 ⟨rfl, rfl⟩; rw [X1.out]; have TK1 := hid True.intro))
        go_meet
        case rel => exact ⟨by rw [HR.out]; rfl, rfl⟩
      have qam : (am != 0) = false := by simpa using zam
      by_cases zlo : lo = 0
      rotate_left
      · have nlo : (lo != 0) = true := by simpa using zlo
        have mlo : (lo == 0) = false := by simpa using zlo
        have HR : Hid (bB m = false) := HB.out.trans (by rw [decide_eq_false zlo]; simp)
        go_wp2_with (first | (go_at_call 28; have kill := TK2.out; refine (has28 l 108 _ HLZ.out).mono ?_; rintro e w3 ⟨rfl, rfl⟩; rw [X8.out]; have TK3 := hid True.intro) | (go_at_call 28; have kill := TK1.out; refine (has28 l 97 _ HLZ.out).mono ?_; rintro e w3 ⟨rfl, rfl⟩; rw [X3.out]; have TK2 := hid True.intro) | (go_at_call 28; refine (has28 l 115 _ HLZ.out).mono ?_; rintro e w3 ⟨rfl, rfl⟩; rw [X1.out]; have TK1 := hid True.intro))
        go_meet
        case rel => exact ⟨by rw [HR.out]; rfl, rfl⟩
      have qlo : (lo != 0) = false := by simpa using zlo
      by_cases hpe : pa = ⟨#[]⟩
      · have HR : Hid (bB m = true) := HB.out.trans (by rw [if_neg Bool.false_ne_true, decide_eq_true hpe]; simp [zam, zlo])
        subst hpe
        go_wp2_with (first | (go_at_call 28; have kill := TK4.out; refine (has28 l 112 _ HLZ.out).mono ?_; rintro e w3 ⟨rfl, rfl⟩; rw [X2.out]; have TK5 := hid True.intro) | (go_at_call 28; have kill := TK3.out; refine (has28 l 112 _ HLZ.out).mono ?_; rintro e w3 ⟨rfl, rfl⟩; rw [X2.out]; have TK4 := hid True.intro) | (go_at_call 28; have kill := TK2.out; refine (has28 l 108 _ HLZ.out).mono ?_; rintro e w3 ⟨rfl, rfl⟩; rw [X8.out]; have TK3 := hid True.intro) | (go_at_call 28; have kill := TK1.out; refine (has28 l 97 _ HLZ.out).mono ?_; rintro e w3 ⟨rfl, rfl⟩; rw [X3.out]; have TK2 := hid True.intro) | (go_at_call 28; refine (has28 l 115 _ HLZ.out).mono ?_; rintro e w3 ⟨rfl, rfl⟩; rw [X1.out]; have TK1 := hid True.intro))
        go_meet
        case rel => exact ⟨by rw [HR.out]; rfl, rfl⟩
      · have HR : Hid (bB m = false) := HB.out.trans (by rw [if_neg Bool.false_ne_true, decide_eq_false hpe]; simp)
        have npb := ne_bytes hpe
        rw [nil_list] at npb
        go_wp2_with (first | (go_at_call 28; have kill := TK4.out; refine (has28 l 112 _ HLZ.out).mono ?_; rintro e w3 ⟨rfl, rfl⟩; rw [X2.out]; have TK5 := hid True.intro) | (go_at_call 28; have kill := TK3.out; refine (has28 l 112 _ HLZ.out).mono ?_; rintro e w3 ⟨rfl, rfl⟩; rw [X2.out]; have TK4 := hid True.intro) | (go_at_call 28; have kill := TK2.out; refine (has28 l 108 _ HLZ.out).mono ?_; rintro e w3 ⟨rfl, rfl⟩; rw [X8.out]; have TK3 := hid True.intro) | (go_at_call 28; have kill := TK1.out; refine (has28 l 97 _ HLZ.out).mono ?_; rintro e w3 ⟨rfl, rfl⟩; rw [X3.out]; have TK2 := hid True.intro) | (go_at_call 28; refine (has28 l 115 _ HLZ.out).mono ?_; rintro e w3 ⟨rfl, rfl⟩; rw [X1.out]; have TK1 := hid True.intro))
        go_meet
        case rel => exact ⟨by rw [HR.out]; simp, rfl⟩
    · by_cases zst : st = 0
      rotate_left
      · have nst : (st != 0) = true := by simpa using zst
        have mst : (st == 0) = false := by simpa using zst
        have HR : Hid (bB m = false) := HB.out.trans (by rw [decide_eq_false zst]; simp)
        go_wp2_with (first | (go_at_call 28; refine (has28 l 115 _ HLZ.out).mono ?_; rintro e w3 ⟨rfl, rfl⟩; rw [X1.out]; have TK1 := hid True.intro))
        go_meet
        case rel => exact ⟨by rw [HR.out]; rfl, rfl⟩
      have qst : (st != 0) = false := by simpa using zst
      by_cases zam : am = 0
      rotate_left
      · have nam : (am != 0) = true := by simpa using zam
        have mam : (am == 0) = false := by simpa using zam
        have HR : Hid (bB m = false) := HB.out.trans (by rw [decide_eq_false zam]; simp)
        go_wp2_with (first | (go_at_call 28; have kill := TK1.out; refine (has28 l 97 _ HLZ.out).mono ?_; rintro e w3 ⟨rfl, rfl⟩; rw [X3.out]; have TK2 := hid True.intro) | (go_at_call 28; refine (has28 l 115 _ HLZ.out).mono ?_; rintro e w3 ⟨rfl, rfl⟩; rw [X1.out]; have TK1 := hid True.intro))
        go_meet
        case rel => exact ⟨by rw [HR.out]; rfl, rfl⟩
      have qam : (am != 0) = false := by simpa using zam
      by_cases zlo : lo = 0
      rotate_left
      · have nlo : (lo != 0) = true := by simpa using zlo
        have mlo : (lo == 0) = false := by simpa using zlo
        have HR : Hid (bB m = false) := HB.out.trans (by rw [decide_eq_false zlo]; simp)
        go_wp2_with (first | (go_at_call 28; have kill := TK2.out; refine (has28 l 108 _ HLZ.out).mono ?_; rintro e w3 ⟨rfl, rfl⟩; rw [X8.out]; have TK3 := hid True.intro) | (go_at_call 28; have kill := TK1.out; refine (has28 l 97 _ HLZ.out).mono ?_; rintro e w3 ⟨rfl, rfl⟩; rw [X3.out]; have TK2 := hid True.intro) | (go_at_call 28; refine (has28 l 115 _ HLZ.out).mono ?_; rintro e w3 ⟨rfl, rfl⟩; rw [X1.out]; have TK1 := hid True.intro))
        go_meet
        case rel => exact ⟨by rw [HR.out]; rfl, rfl⟩
      have qlo : (lo != 0) = false := by simpa using zlo
      by_cases hpe : pa = ⟨#[]⟩
      · have HR : Hid (bB m = true) := HB.out.trans (by rw [if_neg Bool.false_ne_true, decide_eq_true hpe]; simp [zst, zam, zlo])
        subst hpe
        go_wp2_with (first | (go_at_call 28; have kill := TK4.out; refine (has28 l 112 _ HLZ.out).mono ?_; rintro e w3 ⟨rfl, rfl⟩; rw [X2.out]; have TK5 := hid True.intro) | (go_at_call 28; have kill := TK3.out; refine (has28 l 112 _ HLZ.out).mono ?_; rintro e w3 ⟨rfl, rfl⟩; rw [X2.out]; have TK4 := hid True.intro) | (go_at_call 28; have kill := TK2.out; refine (has28 l 108 _ HLZ.out).mono ?_; rintro e w3 ⟨rfl, rfl⟩; rw [X8.out]; have TK3 := hid True.intro) | (go_at_call 28; have kill := TK1.out; refine (has28 l 97 _ HLZ.out).mono ?_; rintro e w3 ⟨rfl, rfl⟩; rw [X3.out]; have TK2 := hid True.intro) | (go_at_call 28; refine (has28 l 115 _ HLZ.out).mono ?_; rintro e w3 ⟨rfl, rfl⟩; rw [X1.out]; have TK1 := hid True.intro))
        go_meet
        case rel => exact ⟨by rw [HR.out]; rfl, rfl⟩
      · have HR : Hid (bB m = false) := HB.out.trans (by rw [if_neg Bool.false_ne_true, decide_eq_false hpe]; simp)
        have npb := ne_bytes hpe
        rw [nil_list] at npb
        go_wp2_with (first | (go_at_call 28; have kill := TK4.out; refine (has28 l 112 _ HLZ.out).mono ?_; rintro e w3 ⟨rfl, rfl⟩; rw [X2.out]; have TK5 := hid True.intro) | (go_at_call 28; have kill := TK3.out; refine (has28 l 112 _ HLZ.out).mono ?_; rintro e w3 ⟨rfl, rfl⟩; rw [X2.out]; have TK4 := hid True.intro) | (go_at_call 28; have kill := TK2.out; refine (has28 l 108 _ HLZ.out).mono ?_; rintro e w3 ⟨rfl, rfl⟩; rw [X8.out]; have TK3 := hid True.intro) | (go_at_call 28; have kill := TK1.out; refine (has28 l 97 _ HLZ.out).mono ?_; rintro e w3 ⟨rfl, rfl⟩; rw [X3.out]; have TK2 := hid True.intro) | (go_at_call 28; refine (has28 l 115 _ HLZ.out).mono ?_; rintro e w3 ⟨rfl, rfl⟩; rw [X1.out]; have TK1 := hid True.intro))
        go_meet
        case rel => exact ⟨by rw [HR.out]; simp, rfl⟩
    · by_cases zam : am = 0
      rotate_left
      · have nam : (am != 0) = true := by simpa using zam
        have mam : (am == 0) = false := by simpa using zam
        have HR : Hid (bB m = false) := HB.out.trans (by rw [decide_eq_false zam]; simp)
        go_wp2_with (first | (go_at_call 28; have kill := TK1.out; refine (has28 l 97 _ HLZ.out).mono ?_; rintro e w3 ⟨rfl, rfl⟩; rw [X3.out]; have TK2 := hid True.intro) | (go_at_call 28; refine (has28 l 115 _ HLZ.out).mono ?_; rintro e w3 ⟨rfl, rfl⟩; rw [X1.out]; have TK1 := hid True.intro))
        go_meet
        case rel => exact ⟨by rw [HR.out]; rfl, rfl⟩
      have qam : (am != 0) = false := by simpa using zam
      by_cases hpe : pa = ⟨#[]⟩
      · have HR : Hid (bB m = true) := HB.out.trans (by rw [if_neg Bool.false_ne_true, decide_eq_true hpe]; simp [zam])
        subst hpe
        go_wp2_with (first | (go_at_call 28; have kill := TK4.out; refine (has28 l 112 _ HLZ.out).mono ?_; rintro e w3 ⟨rfl, rfl⟩; rw [X2.out]; have TK5 := hid True.intro) | (go_at_call 28; have kill := TK3.out; refine (has28 l 112 _ HLZ.out).mono ?_; rintro e w3 ⟨rfl, rfl⟩; rw [X2.out]; have TK4 := hid True.intro) | (go_at_call 28; have kill := TK2.out; refine (has28 l 108 _ HLZ.out).mono ?_; rintro e w3 ⟨rfl, rfl⟩; rw [X8.out]; have TK3 := hid True.intro) | (go_at_call 28; have kill := TK1.out; refine (has28 l 97 _ HLZ.out).mono ?_; rintro e w3 ⟨rfl, rfl⟩; rw [X3.out]; have TK2 := hid True.intro) | (go_at_call 28; refine (has28 l 115 _ HLZ.out).mono ?_; rintro e w3 ⟨rfl, rfl⟩; rw [X1.out]; have TK1 := hid True.intro))
        go_meet
        case rel => exact ⟨by rw [HR.out]; rfl, rfl⟩
      · have HR : Hid (bB m = false) := HB.out.trans (by rw [if_neg Bool.false_ne_true, decide_eq_false hpe]; simp)
        have npb := ne_bytes hpe
        rw [nil_list] at npb
        go_wp2_with (first | (go_at_call 28; have kill := TK4.out; refine (has28 l 112 _ HLZ.out).mono ?_; rintro e w3 ⟨rfl, rfl⟩; rw [X2.out]; have TK5 := hid True.intro) | (go_at_call 28; have kill := TK3.out; refine (has28 l 112 _ HLZ.out).mono ?_; rintro e w3 ⟨rfl, rfl⟩; rw [X2.out]; have TK4 := hid True.intro) | (go_at_call 28; have kill := TK2.out; refine (has28 l 108 _ HLZ.out).mono ?_; rintro e w3 ⟨rfl, rfl⟩; rw [X8.out]; have TK3 := hid True.intro) | (go_at_call 28; have kill := TK1.out; refine (has28 l 97 _ HLZ.out).mono ?_; rintro e w3 ⟨rfl, rfl⟩; rw [X3.out]; have TK2 := hid True.intro) | (go_at_call 28; refine (has28 l 115 _ HLZ.out).mono ?_; rintro e w3 ⟨rfl, rfl⟩; rw [X1.out]; have TK1 := hid True.intro))
        go_meet
        case rel => exact ⟨by rw [HR.out]; simp, rfl⟩
    · by_cases zlo : lo = 0
      rotate_left
      · have nlo : (lo != 0) = true := by simpa using zlo
        have mlo : (lo == 0) = false := by simpa using zlo
        have HR : Hid (bB m = false) := HB.out.trans (by rw [decide_eq_false zlo]; simp)
        go_wp2_with (first | (go_at_call 28; have kill := TK2.out; refine (has28 l 108 _ HLZ.out).mono ?_; rintro e w3 ⟨rfl, rfl⟩; rw [X8.out]; have TK3 := hid True.intro) | (go_at_call 28; have kill := TK1.out; refine (has28 l 97 _ HLZ.out).mono ?_; rintro e w3 ⟨rfl, rfl⟩; rw [X3.out]; have TK2 := hid True.intro) | (go_at_call 28; refine (has28 l 115 _ HLZ.out).mono ?_; rintro e w3 ⟨rfl, rfl⟩; rw [X1.out]; have TK1 := hid True.intro))
        go_meet
        case rel => exact ⟨by rw [HR.out]; rfl, rfl⟩
      have qlo : (lo != 0) = false := by simpa using zlo
      by_cases hpe : pa = ⟨#[]⟩
      · have HR : Hid (bB m = true) := HB.out.trans (by rw [if_neg Bool.false_ne_true, decide_eq_true hpe]; simp [zlo])
        subst hpe
        go_wp2_with (first | (go_at_call 28; have kill := TK4.out; refine (has28 l 112 _ HLZ.out).mono ?_; rintro e w3 ⟨rfl, rfl⟩; rw [X2.out]; have TK5 := hid True.intro) | (go_at_call 28; have kill := TK3.out; refine (has28 l 112 _ HLZ.out).mono ?_; rintro e w3 ⟨rfl, rfl⟩; rw [X2.out]; have TK4 := hid True.intro) | (go_at_call 28; have kill := TK2.out; refine (has28 l 108 _ HLZ.out).mono ?_; rintro e w3 ⟨rfl, rfl⟩; rw [X8.out]; have TK3 := hid True.intro) | (go_at_call 28; have kill := TK1.out; refine (has28 l 97 _ HLZ.out).mono ?_; rintro e w3 ⟨rfl, rfl⟩; rw [X3.out]; have TK2 := hid True.intro) | (go_at_call 28; refine (has28 l 115 _ HLZ.out).mono ?_; rintro e w3 ⟨rfl, rfl⟩; rw [X1.out]; have TK1 := hid True.intro))
        go_meet
        case rel => exact ⟨by rw [HR.out]; rfl, rfl⟩
      · have HR : Hid (bB m = false) := HB.out.trans (by rw [if_neg Bool.false_ne_true, decide_eq_false hpe]; simp)
        have npb := ne_bytes hpe
        rw [nil_list] at npb
        go_wp2_with (first | (go_at_call 28; have kill := TK4.out; refine (has28 l 112 _ HLZ.out).mono ?_; rintro e w3 ⟨rfl, rfl⟩; rw [X2.out]; have TK5 := hid True.intro) | (go_at_call 28; have kill := TK3.out; refine (has28 l 112 _ HLZ.out).mono ?_; rintro e w3 ⟨rfl, rfl⟩; rw [X2.out]; have TK4 := hid True.intro) | (go_at_call 28; have kill := TK2.out; refine (has28 l 108 _ HLZ.out).mono ?_; rintro e w3 ⟨rfl, rfl⟩; rw [X8.out]; have TK3 := hid True.intro) | (go_at_call 28; have kill := TK1.out; refine (has28 l 97 _ HLZ.out).mono ?_; rintro e w3 ⟨rfl, rfl⟩; rw [X3.out]; have TK2 := hid True.intro) | (go_at_call 28; refine (has28 l 115 _ HLZ.out).mono ?_; rintro e w3 ⟨rfl, rfl⟩; rw [X1.out]; have TK1 := hid True.intro))
        go_meet
        case rel => exact ⟨by rw [HR.out]; simp, rfl⟩
  case rest =>
    obtain ⟨hv, rfl⟩ := hcut
    subst hv
    have V2 := V1
    have L2 := L1
    cases hbb : bB m
    · have HR := hid (right_b HM.out HO.out hbb)
      clear hbb
      go_wp2
      go_ret
      exact ⟨by rw [HR.out]; rfl, L2.out⟩
    · have HBY := hid hbb
      clear hbb
      go_wp2
      go_loopw [6] (fun i wr => ∃ k : Nat, k ≤ 5 ∧ i = .int .i64 (k : Int) ∧ (fives.take k).all (cB m) = true ∧ RV wr b1 m ∧ Below w.heap.size w wr) (fun i _ => 5 - (intOf i).toNat)
      case atStart => exact ⟨0, by omega, rfl, rfl, V2.out, L2.out⟩
      case round =>
        obtain ⟨k, hk, rfl, hn, hv, hb⟩ := hrel
        have HN := hid hn
        have HV := hid hv
        have HBL := hid hb
        clear hn hv hb
        have h5 : k = 0 ∨ k = 1 ∨ k = 2 ∨ k = 3 ∨ k = 4 ∨ k = 5 := by omega
        rcases h5 with rfl | rfl | rfl | rfl | rfl | rfl
        · have F4 : Hid ((m.cells.drop 5).take 4 = c4 m.n0 m.n1 m.n2 m.n3) := rfl
          obtain ⟨L, hL⟩ : ∃ L, [m.n0, m.n1, m.n2, m.n3] = L := ⟨_, rfl⟩
          have HLL := hid hL
          have HCB : Hid (cB m 4 = (L.all (inB (mostF 4)) && (hB m 4 || decide (m.n0 = 0 ∧ m.n1 = 0 ∧ m.n2 = 0 ∧ m.n3 = 0)))) := by
            unfold Hid cB zs4; rw [← hL]; simp [numsF]
          have HS : Hid ((fives.take (0 + 1)).all (cB m) = cB m 4) := by unfold Hid; rw [all_snoc _ _ _ (by decide), HN.out, Bool.true_and]; rfl
          have XF : Hid (hasC l 110 = hB m 4) := by unfold Hid; rw [← HL.out]; exact let_has (f := 4) HO.out (by decide)
          have HNO : Hid (cB m 4 = false → rightL m = false) := fun h => right_c HM.out HO.out (by decide) h
          have HNC : ∀ w, Calls Tryd.prog 23 #[.pointer (some ⟨b1, 0, none⟩), .int .u8 110] w fun e w' => e = .returned (.tuple #[.pointer (some ⟨b1, 5, none⟩), .int .i64 (mostF 4)]) ∧ w = w' := fun w => notes23 b1 110 w (by omega)
          have HNN := hid HNC
          have qe := fun w => eqg25 m.n0 m.n1 m.n2 m.n3 0 0 0 0 (.tmp 117) (.tmp 118) w
          have qb := fun w => bin25 m.n0 m.n1 m.n2 m.n3 0 0 0 0 w
          clear hL HNC
          cases hw : L.all (inB (mostF 4))
          · have HW := hid hw
            have HE := hid (HNO.out (HCB.out.trans (by rw [hw]; rfl)))
            clear hw
            go_wp2_with (first | (go_at_call 30; have kill := HV.out; refine (within30 L _ _ _ _ _ _ HLL.out).mono ?_; rintro e w3 ⟨rfl, l3⟩; rw [HW.out]; have L3 := hid (sq HBL.out l3); clear l3 kill HV) | (have kill := HV.out; refine ld4 HV.out 5 F4.out rfl _ rfl rfl ?_) | (go_at_call 23; refine (HNN.out _).mono ?_; rintro e w3 ⟨rfl, rfl⟩))
            go_ret
            exact ⟨by rw [HE.out]; rfl, L3.out⟩
          · have HW := hid hw
            cases hh : hB m 4
            · have HH := hid hh
              cases hz : decide (m.n0 = 0 ∧ m.n1 = 0 ∧ m.n2 = 0 ∧ m.n3 = 0)
              · have HE := hid (HNO.out (HCB.out.trans (by rw [hw, hh, hz]; rfl)))
                have HZ := hid hz
                rw [hz] at qb
                clear hw hh hz
                go_wp2_with (first | (have kill := V3.out; refine ld4w V3.out 5 F4.out _ rfl (by kernel_rfl) rfl ?_) | (go_at_call 28; have kill := V3.out; refine (has28 l 110 _ HLZ.out).mono ?_; rintro e w4 ⟨rfl, rfl⟩; rw [XF.out, HH.out]) | (go_at_call 30; have kill := HV.out; refine (within30 L _ _ _ _ _ _ HLL.out).mono ?_; rintro e w3 ⟨rfl, l3⟩; rw [HW.out]; have L3 := hid (sq HBL.out l3); have V3 := hid (HV.out.below l3); clear l3 kill HV) | (have kill := HV.out; refine ld4 HV.out 5 F4.out rfl _ rfl rfl ?_) | (go_at_call 23; refine (HNN.out _).mono ?_; rintro e w3 ⟨rfl, rfl⟩))
                go_ret
                exact ⟨by rw [HE.out]; rfl, L3.out⟩
              · have HT := hid (HS.out.trans (HCB.out.trans (by rw [hw, hh, hz])))
                have HZ := hid hz
                rw [hz] at qb
                clear hw hh hz
                go_wp2_with (first | (have kill := V3.out; refine ld4w V3.out 5 F4.out _ rfl (by kernel_rfl) rfl ?_) | (go_at_call 28; have kill := V3.out; refine (has28 l 110 _ HLZ.out).mono ?_; rintro e w4 ⟨rfl, rfl⟩; rw [XF.out, HH.out]) | (go_at_call 30; have kill := HV.out; refine (within30 L _ _ _ _ _ _ HLL.out).mono ?_; rintro e w3 ⟨rfl, l3⟩; rw [HW.out]; have L3 := hid (sq HBL.out l3); have V3 := hid (HV.out.below l3); clear l3 kill HV) | (have kill := HV.out; refine ld4 HV.out 5 F4.out rfl _ rfl rfl ?_) | (go_at_call 23; refine (HNN.out _).mono ?_; rintro e w3 ⟨rfl, rfl⟩))
                go_roundw
                case rel => exact ⟨0 + 1, by omega, by go_num, HT.out, V3.out, L3.out⟩
                case measure => simp [intOf]
            · have HH := hid hh
              have HT := hid (HS.out.trans (HCB.out.trans (by rw [hw, hh])))
              clear hw hh
              go_wp2_with (first | (go_at_call 28; have kill := V3.out; refine (has28 l 110 _ HLZ.out).mono ?_; rintro e w4 ⟨rfl, rfl⟩; rw [XF.out, HH.out]) | (go_at_call 30; have kill := HV.out; refine (within30 L _ _ _ _ _ _ HLL.out).mono ?_; rintro e w3 ⟨rfl, l3⟩; rw [HW.out]; have L3 := hid (sq HBL.out l3); have V3 := hid (HV.out.below l3); clear l3 kill HV) | (have kill := HV.out; refine ld4 HV.out 5 F4.out rfl _ rfl rfl ?_) | (go_at_call 23; refine (HNN.out _).mono ?_; rintro e w3 ⟨rfl, rfl⟩))
              go_roundw
              case rel => exact ⟨0 + 1, by omega, by go_num, HT.out, V3.out, L3.out⟩
              case measure => simp [intOf]
        · have F4 : Hid ((m.cells.drop 9).take 4 = c4 m.j0 m.j1 m.j2 m.j3) := rfl
          obtain ⟨L, hL⟩ : ∃ L, [m.j0, m.j1, m.j2, m.j3] = L := ⟨_, rfl⟩
          have HLL := hid hL
          have HCB : Hid (cB m 5 = (L.all (inB (mostF 5)) && (hB m 5 || decide (m.j0 = 0 ∧ m.j1 = 0 ∧ m.j2 = 0 ∧ m.j3 = 0)))) := by
            unfold Hid cB zs4; rw [← hL]; simp [numsF]
          have HS : Hid ((fives.take (1 + 1)).all (cB m) = cB m 5) := by unfold Hid; rw [all_snoc _ _ _ (by decide), HN.out, Bool.true_and]; rfl
          have XF : Hid (hasC l 114 = hB m 5) := by unfold Hid; rw [← HL.out]; exact let_has (f := 5) HO.out (by decide)
          have HNO : Hid (cB m 5 = false → rightL m = false) := fun h => right_c HM.out HO.out (by decide) h
          have HNC : ∀ w, Calls Tryd.prog 23 #[.pointer (some ⟨b1, 0, none⟩), .int .u8 114] w fun e w' => e = .returned (.tuple #[.pointer (some ⟨b1, 9, none⟩), .int .i64 (mostF 5)]) ∧ w = w' := fun w => notes23 b1 114 w (by omega)
          have HNN := hid HNC
          have qe := fun w => eqg25 m.j0 m.j1 m.j2 m.j3 0 0 0 0 (.tmp 117) (.tmp 118) w
          have qb := fun w => bin25 m.j0 m.j1 m.j2 m.j3 0 0 0 0 w
          clear hL HNC
          cases hw : L.all (inB (mostF 5))
          · have HW := hid hw
            have HE := hid (HNO.out (HCB.out.trans (by rw [hw]; rfl)))
            clear hw
            go_wp2_with (first | (go_at_call 30; have kill := HV.out; refine (within30 L _ _ _ _ _ _ HLL.out).mono ?_; rintro e w3 ⟨rfl, l3⟩; rw [HW.out]; have L3 := hid (sq HBL.out l3); clear l3 kill HV) | (have kill := HV.out; refine ld4 HV.out 9 F4.out rfl _ rfl rfl ?_) | (go_at_call 23; refine (HNN.out _).mono ?_; rintro e w3 ⟨rfl, rfl⟩))
            go_ret
            exact ⟨by rw [HE.out]; rfl, L3.out⟩
          · have HW := hid hw
            cases hh : hB m 5
            · have HH := hid hh
              cases hz : decide (m.j0 = 0 ∧ m.j1 = 0 ∧ m.j2 = 0 ∧ m.j3 = 0)
              · have HE := hid (HNO.out (HCB.out.trans (by rw [hw, hh, hz]; rfl)))
                have HZ := hid hz
                rw [hz] at qb
                clear hw hh hz
                go_wp2_with (first | (have kill := V3.out; refine ld4w V3.out 9 F4.out _ rfl (by kernel_rfl) rfl ?_) | (go_at_call 28; have kill := V3.out; refine (has28 l 114 _ HLZ.out).mono ?_; rintro e w4 ⟨rfl, rfl⟩; rw [XF.out, HH.out]) | (go_at_call 30; have kill := HV.out; refine (within30 L _ _ _ _ _ _ HLL.out).mono ?_; rintro e w3 ⟨rfl, l3⟩; rw [HW.out]; have L3 := hid (sq HBL.out l3); have V3 := hid (HV.out.below l3); clear l3 kill HV) | (have kill := HV.out; refine ld4 HV.out 9 F4.out rfl _ rfl rfl ?_) | (go_at_call 23; refine (HNN.out _).mono ?_; rintro e w3 ⟨rfl, rfl⟩))
                go_ret
                exact ⟨by rw [HE.out]; rfl, L3.out⟩
              · have HT := hid (HS.out.trans (HCB.out.trans (by rw [hw, hh, hz])))
                have HZ := hid hz
                rw [hz] at qb
                clear hw hh hz
                go_wp2_with (first | (have kill := V3.out; refine ld4w V3.out 9 F4.out _ rfl (by kernel_rfl) rfl ?_) | (go_at_call 28; have kill := V3.out; refine (has28 l 114 _ HLZ.out).mono ?_; rintro e w4 ⟨rfl, rfl⟩; rw [XF.out, HH.out]) | (go_at_call 30; have kill := HV.out; refine (within30 L _ _ _ _ _ _ HLL.out).mono ?_; rintro e w3 ⟨rfl, l3⟩; rw [HW.out]; have L3 := hid (sq HBL.out l3); have V3 := hid (HV.out.below l3); clear l3 kill HV) | (have kill := HV.out; refine ld4 HV.out 9 F4.out rfl _ rfl rfl ?_) | (go_at_call 23; refine (HNN.out _).mono ?_; rintro e w3 ⟨rfl, rfl⟩))
                go_roundw
                case rel => exact ⟨1 + 1, by omega, by go_num, HT.out, V3.out, L3.out⟩
                case measure => simp [intOf]
            · have HH := hid hh
              have HT := hid (HS.out.trans (HCB.out.trans (by rw [hw, hh])))
              clear hw hh
              go_wp2_with (first | (go_at_call 28; have kill := V3.out; refine (has28 l 114 _ HLZ.out).mono ?_; rintro e w4 ⟨rfl, rfl⟩; rw [XF.out, HH.out]) | (go_at_call 30; have kill := HV.out; refine (within30 L _ _ _ _ _ _ HLL.out).mono ?_; rintro e w3 ⟨rfl, l3⟩; rw [HW.out]; have L3 := hid (sq HBL.out l3); have V3 := hid (HV.out.below l3); clear l3 kill HV) | (have kill := HV.out; refine ld4 HV.out 9 F4.out rfl _ rfl rfl ?_) | (go_at_call 23; refine (HNN.out _).mono ?_; rintro e w3 ⟨rfl, rfl⟩))
              go_roundw
              case rel => exact ⟨1 + 1, by omega, by go_num, HT.out, V3.out, L3.out⟩
              case measure => simp [intOf]
        · have F4 : Hid ((m.cells.drop 13).take 4 = c4 m.c0 m.c1 m.c2 m.c3) := rfl
          obtain ⟨L, hL⟩ : ∃ L, [m.c0, m.c1, m.c2, m.c3] = L := ⟨_, rfl⟩
          have HLL := hid hL
          have HCB : Hid (cB m 6 = (L.all (inB (mostF 6)) && (hB m 6 || decide (m.c0 = 0 ∧ m.c1 = 0 ∧ m.c2 = 0 ∧ m.c3 = 0)))) := by
            unfold Hid cB zs4; rw [← hL]; simp [numsF]
          have HS : Hid ((fives.take (2 + 1)).all (cB m) = cB m 6) := by unfold Hid; rw [all_snoc _ _ _ (by decide), HN.out, Bool.true_and]; rfl
          have XF : Hid (hasC l 99 = hB m 6) := by unfold Hid; rw [← HL.out]; exact let_has (f := 6) HO.out (by decide)
          have HNO : Hid (cB m 6 = false → rightL m = false) := fun h => right_c HM.out HO.out (by decide) h
          have HNC : ∀ w, Calls Tryd.prog 23 #[.pointer (some ⟨b1, 0, none⟩), .int .u8 99] w fun e w' => e = .returned (.tuple #[.pointer (some ⟨b1, 13, none⟩), .int .i64 (mostF 6)]) ∧ w = w' := fun w => notes23 b1 99 w (by omega)
          have HNN := hid HNC
          have qe := fun w => eqg25 m.c0 m.c1 m.c2 m.c3 0 0 0 0 (.tmp 117) (.tmp 118) w
          have qb := fun w => bin25 m.c0 m.c1 m.c2 m.c3 0 0 0 0 w
          clear hL HNC
          cases hw : L.all (inB (mostF 6))
          · have HW := hid hw
            have HE := hid (HNO.out (HCB.out.trans (by rw [hw]; rfl)))
            clear hw
            go_wp2_with (first | (go_at_call 30; have kill := HV.out; refine (within30 L _ _ _ _ _ _ HLL.out).mono ?_; rintro e w3 ⟨rfl, l3⟩; rw [HW.out]; have L3 := hid (sq HBL.out l3); clear l3 kill HV) | (have kill := HV.out; refine ld4 HV.out 13 F4.out rfl _ rfl rfl ?_) | (go_at_call 23; refine (HNN.out _).mono ?_; rintro e w3 ⟨rfl, rfl⟩))
            go_ret
            exact ⟨by rw [HE.out]; rfl, L3.out⟩
          · have HW := hid hw
            cases hh : hB m 6
            · have HH := hid hh
              cases hz : decide (m.c0 = 0 ∧ m.c1 = 0 ∧ m.c2 = 0 ∧ m.c3 = 0)
              · have HE := hid (HNO.out (HCB.out.trans (by rw [hw, hh, hz]; rfl)))
                have HZ := hid hz
                rw [hz] at qb
                clear hw hh hz
                go_wp2_with (first | (have kill := V3.out; refine ld4w V3.out 13 F4.out _ rfl (by kernel_rfl) rfl ?_) | (go_at_call 28; have kill := V3.out; refine (has28 l 99 _ HLZ.out).mono ?_; rintro e w4 ⟨rfl, rfl⟩; rw [XF.out, HH.out]) | (go_at_call 30; have kill := HV.out; refine (within30 L _ _ _ _ _ _ HLL.out).mono ?_; rintro e w3 ⟨rfl, l3⟩; rw [HW.out]; have L3 := hid (sq HBL.out l3); have V3 := hid (HV.out.below l3); clear l3 kill HV) | (have kill := HV.out; refine ld4 HV.out 13 F4.out rfl _ rfl rfl ?_) | (go_at_call 23; refine (HNN.out _).mono ?_; rintro e w3 ⟨rfl, rfl⟩))
                go_ret
                exact ⟨by rw [HE.out]; rfl, L3.out⟩
              · have HT := hid (HS.out.trans (HCB.out.trans (by rw [hw, hh, hz])))
                have HZ := hid hz
                rw [hz] at qb
                clear hw hh hz
                go_wp2_with (first | (have kill := V3.out; refine ld4w V3.out 13 F4.out _ rfl (by kernel_rfl) rfl ?_) | (go_at_call 28; have kill := V3.out; refine (has28 l 99 _ HLZ.out).mono ?_; rintro e w4 ⟨rfl, rfl⟩; rw [XF.out, HH.out]) | (go_at_call 30; have kill := HV.out; refine (within30 L _ _ _ _ _ _ HLL.out).mono ?_; rintro e w3 ⟨rfl, l3⟩; rw [HW.out]; have L3 := hid (sq HBL.out l3); have V3 := hid (HV.out.below l3); clear l3 kill HV) | (have kill := HV.out; refine ld4 HV.out 13 F4.out rfl _ rfl rfl ?_) | (go_at_call 23; refine (HNN.out _).mono ?_; rintro e w3 ⟨rfl, rfl⟩))
                go_roundw
                case rel => exact ⟨2 + 1, by omega, by go_num, HT.out, V3.out, L3.out⟩
                case measure => simp [intOf]
            · have HH := hid hh
              have HT := hid (HS.out.trans (HCB.out.trans (by rw [hw, hh])))
              clear hw hh
              go_wp2_with (first | (go_at_call 28; have kill := V3.out; refine (has28 l 99 _ HLZ.out).mono ?_; rintro e w4 ⟨rfl, rfl⟩; rw [XF.out, HH.out]) | (go_at_call 30; have kill := HV.out; refine (within30 L _ _ _ _ _ _ HLL.out).mono ?_; rintro e w3 ⟨rfl, l3⟩; rw [HW.out]; have L3 := hid (sq HBL.out l3); have V3 := hid (HV.out.below l3); clear l3 kill HV) | (have kill := HV.out; refine ld4 HV.out 13 F4.out rfl _ rfl rfl ?_) | (go_at_call 23; refine (HNN.out _).mono ?_; rintro e w3 ⟨rfl, rfl⟩))
              go_roundw
              case rel => exact ⟨2 + 1, by omega, by go_num, HT.out, V3.out, L3.out⟩
              case measure => simp [intOf]
        · have F4 : Hid ((m.cells.drop 17).take 4 = c4 m.d0 m.d1 m.d2 m.d3) := rfl
          obtain ⟨L, hL⟩ : ∃ L, [m.d0, m.d1, m.d2, m.d3] = L := ⟨_, rfl⟩
          have HLL := hid hL
          have HCB : Hid (cB m 7 = (L.all (inB (mostF 7)) && (hB m 7 || decide (m.d0 = 0 ∧ m.d1 = 0 ∧ m.d2 = 0 ∧ m.d3 = 0)))) := by
            unfold Hid cB zs4; rw [← hL]; simp [numsF]
          have HS : Hid ((fives.take (3 + 1)).all (cB m) = cB m 7) := by unfold Hid; rw [all_snoc _ _ _ (by decide), HN.out, Bool.true_and]; rfl
          have XF : Hid (hasC l 100 = hB m 7) := by unfold Hid; rw [← HL.out]; exact let_has (f := 7) HO.out (by decide)
          have HNO : Hid (cB m 7 = false → rightL m = false) := fun h => right_c HM.out HO.out (by decide) h
          have HNC : ∀ w, Calls Tryd.prog 23 #[.pointer (some ⟨b1, 0, none⟩), .int .u8 100] w fun e w' => e = .returned (.tuple #[.pointer (some ⟨b1, 17, none⟩), .int .i64 (mostF 7)]) ∧ w = w' := fun w => notes23 b1 100 w (by omega)
          have HNN := hid HNC
          have qe := fun w => eqg25 m.d0 m.d1 m.d2 m.d3 0 0 0 0 (.tmp 117) (.tmp 118) w
          have qb := fun w => bin25 m.d0 m.d1 m.d2 m.d3 0 0 0 0 w
          clear hL HNC
          cases hw : L.all (inB (mostF 7))
          · have HW := hid hw
            have HE := hid (HNO.out (HCB.out.trans (by rw [hw]; rfl)))
            clear hw
            go_wp2_with (first | (go_at_call 30; have kill := HV.out; refine (within30 L _ _ _ _ _ _ HLL.out).mono ?_; rintro e w3 ⟨rfl, l3⟩; rw [HW.out]; have L3 := hid (sq HBL.out l3); clear l3 kill HV) | (have kill := HV.out; refine ld4 HV.out 17 F4.out rfl _ rfl rfl ?_) | (go_at_call 23; refine (HNN.out _).mono ?_; rintro e w3 ⟨rfl, rfl⟩))
            go_ret
            exact ⟨by rw [HE.out]; rfl, L3.out⟩
          · have HW := hid hw
            cases hh : hB m 7
            · have HH := hid hh
              cases hz : decide (m.d0 = 0 ∧ m.d1 = 0 ∧ m.d2 = 0 ∧ m.d3 = 0)
              · have HE := hid (HNO.out (HCB.out.trans (by rw [hw, hh, hz]; rfl)))
                have HZ := hid hz
                rw [hz] at qb
                clear hw hh hz
                go_wp2_with (first | (have kill := V3.out; refine ld4w V3.out 17 F4.out _ rfl (by kernel_rfl) rfl ?_) | (go_at_call 28; have kill := V3.out; refine (has28 l 100 _ HLZ.out).mono ?_; rintro e w4 ⟨rfl, rfl⟩; rw [XF.out, HH.out]) | (go_at_call 30; have kill := HV.out; refine (within30 L _ _ _ _ _ _ HLL.out).mono ?_; rintro e w3 ⟨rfl, l3⟩; rw [HW.out]; have L3 := hid (sq HBL.out l3); have V3 := hid (HV.out.below l3); clear l3 kill HV) | (have kill := HV.out; refine ld4 HV.out 17 F4.out rfl _ rfl rfl ?_) | (go_at_call 23; refine (HNN.out _).mono ?_; rintro e w3 ⟨rfl, rfl⟩))
                go_ret
                exact ⟨by rw [HE.out]; rfl, L3.out⟩
              · have HT := hid (HS.out.trans (HCB.out.trans (by rw [hw, hh, hz])))
                have HZ := hid hz
                rw [hz] at qb
                clear hw hh hz
                go_wp2_with (first | (have kill := V3.out; refine ld4w V3.out 17 F4.out _ rfl (by kernel_rfl) rfl ?_) | (go_at_call 28; have kill := V3.out; refine (has28 l 100 _ HLZ.out).mono ?_; rintro e w4 ⟨rfl, rfl⟩; rw [XF.out, HH.out]) | (go_at_call 30; have kill := HV.out; refine (within30 L _ _ _ _ _ _ HLL.out).mono ?_; rintro e w3 ⟨rfl, l3⟩; rw [HW.out]; have L3 := hid (sq HBL.out l3); have V3 := hid (HV.out.below l3); clear l3 kill HV) | (have kill := HV.out; refine ld4 HV.out 17 F4.out rfl _ rfl rfl ?_) | (go_at_call 23; refine (HNN.out _).mono ?_; rintro e w3 ⟨rfl, rfl⟩))
                go_roundw
                case rel => exact ⟨3 + 1, by omega, by go_num, HT.out, V3.out, L3.out⟩
                case measure => simp [intOf]
            · have HH := hid hh
              have HT := hid (HS.out.trans (HCB.out.trans (by rw [hw, hh])))
              clear hw hh
              go_wp2_with (first | (go_at_call 28; have kill := V3.out; refine (has28 l 100 _ HLZ.out).mono ?_; rintro e w4 ⟨rfl, rfl⟩; rw [XF.out, HH.out]) | (go_at_call 30; have kill := HV.out; refine (within30 L _ _ _ _ _ _ HLL.out).mono ?_; rintro e w3 ⟨rfl, l3⟩; rw [HW.out]; have L3 := hid (sq HBL.out l3); have V3 := hid (HV.out.below l3); clear l3 kill HV) | (have kill := HV.out; refine ld4 HV.out 17 F4.out rfl _ rfl rfl ?_) | (go_at_call 23; refine (HNN.out _).mono ?_; rintro e w3 ⟨rfl, rfl⟩))
              go_roundw
              case rel => exact ⟨3 + 1, by omega, by go_num, HT.out, V3.out, L3.out⟩
              case measure => simp [intOf]
        · have F4 : Hid ((m.cells.drop 22).take 4 = c4 m.l0 m.l1 m.l2 m.l3) := rfl
          obtain ⟨L, hL⟩ : ∃ L, [m.l0, m.l1, m.l2, m.l3] = L := ⟨_, rfl⟩
          have HLL := hid hL
          have HCB : Hid (cB m 9 = (L.all (inB (mostF 9)) && (hB m 9 || decide (m.l0 = 0 ∧ m.l1 = 0 ∧ m.l2 = 0 ∧ m.l3 = 0)))) := by
            unfold Hid cB zs4; rw [← hL]; simp [numsF]
          have HS : Hid ((fives.take (4 + 1)).all (cB m) = cB m 9) := by unfold Hid; rw [all_snoc _ _ _ (by decide), HN.out, Bool.true_and]; rfl
          have XF : Hid (hasC l 109 = hB m 9) := by unfold Hid; rw [← HL.out]; exact let_has (f := 9) HO.out (by decide)
          have HNO : Hid (cB m 9 = false → rightL m = false) := fun h => right_c HM.out HO.out (by decide) h
          have HNC : ∀ w, Calls Tryd.prog 23 #[.pointer (some ⟨b1, 0, none⟩), .int .u8 109] w fun e w' => e = .returned (.tuple #[.pointer (some ⟨b1, 22, none⟩), .int .i64 (mostF 9)]) ∧ w = w' := fun w => notes23 b1 109 w (by omega)
          have HNN := hid HNC
          have qe := fun w => eqg25 m.l0 m.l1 m.l2 m.l3 0 0 0 0 (.tmp 117) (.tmp 118) w
          have qb := fun w => bin25 m.l0 m.l1 m.l2 m.l3 0 0 0 0 w
          clear hL HNC
          cases hw : L.all (inB (mostF 9))
          · have HW := hid hw
            have HE := hid (HNO.out (HCB.out.trans (by rw [hw]; rfl)))
            clear hw
            go_wp2_with (first | (go_at_call 30; have kill := HV.out; refine (within30 L _ _ _ _ _ _ HLL.out).mono ?_; rintro e w3 ⟨rfl, l3⟩; rw [HW.out]; have L3 := hid (sq HBL.out l3); clear l3 kill HV) | (have kill := HV.out; refine ld4 HV.out 22 F4.out rfl _ rfl rfl ?_) | (go_at_call 23; refine (HNN.out _).mono ?_; rintro e w3 ⟨rfl, rfl⟩))
            go_ret
            exact ⟨by rw [HE.out]; rfl, L3.out⟩
          · have HW := hid hw
            cases hh : hB m 9
            · have HH := hid hh
              cases hz : decide (m.l0 = 0 ∧ m.l1 = 0 ∧ m.l2 = 0 ∧ m.l3 = 0)
              · have HE := hid (HNO.out (HCB.out.trans (by rw [hw, hh, hz]; rfl)))
                have HZ := hid hz
                rw [hz] at qb
                clear hw hh hz
                go_wp2_with (first | (have kill := V3.out; refine ld4w V3.out 22 F4.out _ rfl (by kernel_rfl) rfl ?_) | (go_at_call 28; have kill := V3.out; refine (has28 l 109 _ HLZ.out).mono ?_; rintro e w4 ⟨rfl, rfl⟩; rw [XF.out, HH.out]) | (go_at_call 30; have kill := HV.out; refine (within30 L _ _ _ _ _ _ HLL.out).mono ?_; rintro e w3 ⟨rfl, l3⟩; rw [HW.out]; have L3 := hid (sq HBL.out l3); have V3 := hid (HV.out.below l3); clear l3 kill HV) | (have kill := HV.out; refine ld4 HV.out 22 F4.out rfl _ rfl rfl ?_) | (go_at_call 23; refine (HNN.out _).mono ?_; rintro e w3 ⟨rfl, rfl⟩))
                go_ret
                exact ⟨by rw [HE.out]; rfl, L3.out⟩
              · have HT := hid (HS.out.trans (HCB.out.trans (by rw [hw, hh, hz])))
                have HZ := hid hz
                rw [hz] at qb
                clear hw hh hz
                go_wp2_with (first | (have kill := V3.out; refine ld4w V3.out 22 F4.out _ rfl (by kernel_rfl) rfl ?_) | (go_at_call 28; have kill := V3.out; refine (has28 l 109 _ HLZ.out).mono ?_; rintro e w4 ⟨rfl, rfl⟩; rw [XF.out, HH.out]) | (go_at_call 30; have kill := HV.out; refine (within30 L _ _ _ _ _ _ HLL.out).mono ?_; rintro e w3 ⟨rfl, l3⟩; rw [HW.out]; have L3 := hid (sq HBL.out l3); have V3 := hid (HV.out.below l3); clear l3 kill HV) | (have kill := HV.out; refine ld4 HV.out 22 F4.out rfl _ rfl rfl ?_) | (go_at_call 23; refine (HNN.out _).mono ?_; rintro e w3 ⟨rfl, rfl⟩))
                go_roundw
                case rel => exact ⟨4 + 1, by omega, by go_num, HT.out, V3.out, L3.out⟩
                case measure => simp [intOf]
            · have HH := hid hh
              have HT := hid (HS.out.trans (HCB.out.trans (by rw [hw, hh])))
              clear hw hh
              go_wp2_with (first | (go_at_call 28; have kill := V3.out; refine (has28 l 109 _ HLZ.out).mono ?_; rintro e w4 ⟨rfl, rfl⟩; rw [XF.out, HH.out]) | (go_at_call 30; have kill := HV.out; refine (within30 L _ _ _ _ _ _ HLL.out).mono ?_; rintro e w3 ⟨rfl, l3⟩; rw [HW.out]; have L3 := hid (sq HBL.out l3); have V3 := hid (HV.out.below l3); clear l3 kill HV) | (have kill := HV.out; refine ld4 HV.out 22 F4.out rfl _ rfl rfl ?_) | (go_at_call 23; refine (HNN.out _).mono ?_; rintro e w3 ⟨rfl, rfl⟩))
              go_roundw
              case rel => exact ⟨4 + 1, by omega, by go_num, HT.out, V3.out, L3.out⟩
              case measure => simp [intOf]
        · have HR := hid (right_y HM.out HO.out HAY.out HBY.out HN.out)
          go_wp2
          go_ret
          exact ⟨by rw [HR.out]; rfl, HBL.out⟩
end Go.Proofs.YtbipikbefokihaaDoor
