/- Which kind a first part tells; Right. -/
import Derived.Test.YtbipikbefokihaaDoorRgt
namespace Go.Proofs.YtbipikbefokihaaDoor
open Go.ChangeShapes Go.WideShapes Go.ChangeAt Go.RowKit

theorem wpList_want {ops : Array Oper} {rest : List Oper} {op : Oper} {a : Act} {w : World} {Q : Exit → Act → World → Prop} (hw : Region.wanted op (yielded ops a.tmps) = true) (h : ∀ K : Act → World → Prop, (∀ a w, wpList Tryd.prog ops Q rest a w → K a w) → op.wp Tryd.prog a w K Q) : wpList Tryd.prog ops Q (op :: rest) a w :=
  wpList_step fun K hK => by rw [if_pos hw]; exact h K hK
/-- The same behind a guard that holds. -/
theorem ldw27 {ops : Array Oper} {rest : List Oper} {op : Oper} {a : Act} {w : World} {Q : Exit → Act → World → Prop} {b : Nat} {r : Ms} (hr : RV w b r) (y : Operand) (ho : op.op = .load 27 y) (hw : Region.wanted op (yielded ops a.tmps) = true) (hx : a.eval y = .pointer (some ⟨b, 0, none⟩))
    (h : wpList Tryd.prog ops Q rest (a.put op.dst r.val) w) : wpList Tryd.prog ops Q (op :: rest) a w := by
  obtain ⟨d, hu, hd⟩ := row27
  exact wpList_want hw fun K hK => wp_load_mid 27 y ho b 0 hx r.cells d hr.at0 hu hd n27 (hK _ _ h)
theorem bdw27 {ops : Array Oper} {rest : List Oper} {op : Oper} {a : Act} {w : World} {Q : Exit → Act → World → Prop} (ho : op.op = .build 27 #[]) (hw : Region.wanted op (yielded ops a.tmps) = true)
    (h : wpList Tryd.prog ops Q rest (a.put op.dst Ms.zero.val) w) : wpList Tryd.prog ops Q (op :: rest) a w :=
  wpList_want hw fun K hK => by
    have hz := zero27 w
    unfold Oper.wp execOp
    simp [ho, Instr.build, hz, go_sem, Ms.val, Ms.cells, Ms.zero]
    exact hK _ _ h
def KoAns (w : World) (s : ByteArray) (e : Ending) (w' : World) : Prop :=
  ∃ ao n, e = .returned (.tuple #[.int .i64 (kindL s), .slice ao n n, .bool (okK (kindL s))]) ∧ I.Given w' ao n n (hasK (kindL s)) ∧ Below w.heap.size w w'
theorem kind_range (s : ByteArray) : (kindL s = 0 ∧ okK (kindL s) = false) ∨ (okK (kindL s) = true ∧ codeK (kindL s) = s) := by
  unfold kindL
  split
  · right; rename_i h; subst h; exact ⟨rfl, rfl⟩
  · split
    · right; rename_i h; subst h; exact ⟨rfl, rfl⟩
    · split
      · right; rename_i h; subst h; exact ⟨rfl, rfl⟩
      · split
        · right; rename_i h; subst h; exact ⟨rfl, rfl⟩
        · split
          · right; rename_i h; subst h; exact ⟨rfl, rfl⟩
          · split
            · right; rename_i h; subst h; exact ⟨rfl, rfl⟩
            · split
              · right; rename_i h; subst h; exact ⟨rfl, rfl⟩
              · left; exact ⟨rfl, rfl⟩
/-- None of the kinds below k has this first part. -/
def noneTo (s : ByteArray) (k : Nat) : Prop := ∀ j : Nat, j < k → ¬ (okK (j : Int) = true ∧ codeK (j : Int) = s)
theorem none_next {s : ByteArray} {k : Nat} (h : noneTo s k) (hk : ¬ (okK (k : Int) = true ∧ codeK (k : Int) = s)) : noneTo s (k + 1) := fun j hj => by
  by_cases e : j = k
  · subst e; exact hk
  · exact h j (by omega)
theorem none_all {s : ByteArray} {k : Nat} (h : noneTo s k) (hk : 8 ≤ k) : kindL s = 0 := by
  rcases kind_range s with h0 | ⟨h1, h2⟩
  · exact h0.1
  · exfalso
    have hr : 1 ≤ kindL s ∧ kindL s ≤ 7 := by simpa [okK] using h1
    have := h (kindL s).toNat (by omega)
    rw [show ((kindL s).toNat : Int) = kindL s by omega] at this
    exact this ⟨h1, h2⟩
set_option maxHeartbeats 2000000 in
theorem kindOf32 (s : ByteArray) (w : World) : Calls Tryd.prog 32 #[.string s] w (KoAns w s) := by
  go_enter Tryd.func32, Tryd.ntmps32
  go_wp2
  go_loopw [9] (fun i wr => ∃ k : Nat, k ≤ 8 ∧ i = .int .i64 (k : Int) ∧ noneTo s k ∧ Below w.heap.size w wr) (fun i _ => 8 - (intOf i).toNat)
  case atStart => exact ⟨0, by omega, rfl, fun j hj => by omega, Below.refl _ _⟩
  case round =>
    obtain ⟨k, hk, rfl, hn, hb⟩ := hrel
    have HN := hid hn
    have HB := hid hb
    clear hn hb
    by_cases hlt : k < 8
    · cases hok : okK (k : Int)
      · have HO := hid hok
        have HX := hid (none_next HN.out (fun e => by rw [hok] at e; cases e.1))
        clear hok
        have HLY : Hid True := trivial
        go_wp2_with (go_at_call 18; have kill := HLY.out; refine (layout18 _ _).mono ?_; rintro e w2 ⟨a2, n2, rfl, g2, l2⟩; rw [HO.out]; have L2 := hid (sq HB.out l2); clear g2 l2 kill HLY)
        go_roundw
        case rel => exact ⟨k + 1, by omega, by go_num, HX.out, L2.out⟩
        case measure => simp [intOf]; omega
      · have HO := hid hok
        obtain ⟨c, hc⟩ : ∃ c, codeK (k : Int) = c := ⟨_, rfl⟩
        have HC := hid hc
        have HLY : Hid True := trivial
        by_cases h : c = s
        · have HS : Hid (kindL s = (k : Int)) := by unfold Hid; rw [← h, ← hc]; exact kind_code hok
          subst h
          clear hok hc
          go_wp2_with (go_at_call 18; have kill := HLY.out; refine (layout18 _ _).mono ?_; rintro e w2 ⟨a2, n2, rfl, g2, l2⟩; rw [HO.out, HC.out]; have G2 := hid g2; have L2 := hid (sq HB.out l2); clear g2 l2 kill HLY)
          go_ret3
          exact ⟨a2, n2, by rw [HS.out, HO.out]; rfl, by rw [HS.out]; exact G2.out, L2.out⟩
        · have HX := hid (none_next HN.out (fun e => h (hc ▸ e.2)))
          have e1 := ne_bytes h
          clear hok hc
          go_wp2_with (go_at_call 18; have kill := HLY.out; refine (layout18 _ _).mono ?_; rintro e w2 ⟨a2, n2, rfl, g2, l2⟩; rw [HO.out, HC.out]; have L2 := hid (sq HB.out l2); clear g2 l2 kill HLY)
          go_roundw
          case rel => exact ⟨k + 1, by omega, by go_num, HX.out, L2.out⟩
          case measure => simp [intOf]; omega
    · have HS := hid (none_all HN.out (by omega))
      go_wp2
      go_ret3
      exact ⟨none, 0, by rw [HS.out]; rfl, by rw [HS.out]; exact ⟨rfl, wid_small (by simp [hasK]), .inl rfl, by omega, by omega⟩, HB.out⟩
theorem ok_step {m : Ms} {k : Nat} (hk : k < 10) (h : (tenF.take k).all (okF m) = true) : (tenF.take (k + 1)).all (okF m) = okF m (k : Int) := by
  rw [all_snoc _ _ _ (by simpa [tenF] using hk), h, Bool.true_and]
  congr 1
  have h10 : k = 0 ∨ k = 1 ∨ k = 2 ∨ k = 3 ∨ k = 4 ∨ k = 5 ∨ k = 6 ∨ k = 7 ∨ k = 8 ∨ k = 9 := by omega
  rcases h10 with rfl | rfl | rfl | rfl | rfl | rfl | rfl | rfl | rfl | rfl <;> rfl
theorem ten_mem {k : Nat} (hk : k < 10) : (k : Int) ∈ tenF := by
  have h10 : k = 0 ∨ k = 1 ∨ k = 2 ∨ k = 3 ∨ k = 4 ∨ k = 5 ∨ k = 6 ∨ k = 7 ∨ k = 8 ∨ k = 9 := by omega
  rcases h10 with rfl | rfl | rfl | rfl | rfl | rfl | rfl | rfl | rfl | rfl <;> decide
theorem right_no {m : Ms} (h : okK m.kind = false) : rightL m = false := by unfold rightL; rw [h]; rfl
theorem right_ten {m : Ms} (h : okK m.kind = true) : rightL m = tenF.all (okF m) := by unfold rightL; rw [h]; rfl
theorem okF_yes {m : Ms} {f : Int} (h : (hasK m.kind).contains f = true) : okF m f = rightF m f := by unfold okF; rw [if_pos h]
theorem okF_no {m : Ms} {f : Int} (h : (hasK m.kind).contains f = false) : okF m f = zeroF m f := by unfold okF; rw [if_neg (by rw [h]; exact Bool.false_ne_true)]
set_option maxHeartbeats 4000000 in
theorem right11 (m : Ms) (w : World) (hm : m.Ok) (hp : m.pan.size ≤ 9223372036854775807) :
    Calls Tryd.prog 11 #[m.val] w fun e w' => e = .returned (.bool (rightL m)) ∧ Below w.heap.size w w' := by
  have HM := hid hm
  have HP := hid hp
  clear hm hp
  cases hok : okK m.kind
  · have HO := hid hok
    have HR := hid (right_no hok)
    clear hok
    go_enter Tryd.func11, Tryd.ntmps11
    go_wp2_with (first | (go_at_call 18; have kill := L1.out; refine (layout18 _ _).mono ?_; rintro e w2 ⟨a2, n2, rfl, g2, l2⟩; rw [HO.out]; have L2 := hid (sq L1.out l2); clear g2 l2 kill L1) | (refine bx27 rfl _ rfl rfl ?_; intro b1 w1 hb1 v1 l1; have V1 := hid v1; have L1 := hid l1; have cc : w1.cell? ⟨b1, 0, none⟩ = some (.int .i64 m.kind) := v1.cell 0 rfl; clear v1 l1))
    go_ret
    exact ⟨by rw [HR.out]; rfl, L2.out⟩
  · have HO := hid hok
    have HR := hid (right_ten hok)
    clear hok
    go_enter Tryd.func11, Tryd.ntmps11
    go_wp2_with (first | (go_at_call 18; have kill := L1.out; refine (layout18 _ _).mono ?_; rintro e w2 ⟨a2, n2, rfl, g2, l2⟩; rw [HO.out]; have G2 := hid g2; have V2 := hid (V1.out.below l2); have L2 := hid (sq L1.out l2); clear g2 l2 kill L1 V1) | (refine bx27 rfl _ rfl rfl ?_; intro b1 w1 hb1 v1 l1; have V1 := hid v1; have L1 := hid l1; have cc : w1.cell? ⟨b1, 0, none⟩ = some (.int .i64 m.kind) := v1.cell 0 rfl; clear v1 l1))
    obtain ⟨H, hH⟩ : ∃ H, hasK m.kind = H := ⟨_, rfl⟩
    have HH := hid hH
    rw [hH] at G2
    clear hH
    go_loopw [16] (fun i wr => ∃ k : Nat, k ≤ 10 ∧ i = .int .i64 (k : Int) ∧ (tenF.take k).all (okF m) = true ∧ I.Given wr a2 n2 n2 H ∧ RV wr b1 m ∧ Below w.heap.size w wr) (fun i _ => 10 - (intOf i).toNat)
    case atStart => exact ⟨0, by omega, rfl, rfl, G2.out, V2.out, L2.out⟩
    case round =>
      obtain ⟨k, hk, rfl, hn, hg, hv, hb⟩ := hrel
      have HN := hid hn
      have HG := hid hg
      have HV := hid hv
      have HB := hid hb
      clear hn hg hv hb
      by_cases hlt : k < 10
      · have HT := hid (ten_mem hlt)
        have HS := hid (ok_step hlt HN.out)
        cases hc : H.contains (k : Int)
        · have HC := hid hc
          have HS2 : Hid ((tenF.take (k + 1)).all (okF m) = zeroF m (k : Int)) := HS.out.trans (okF_no (by rw [HH.out]; exact hc))
          clear hc HS
          cases hz : zeroF m (k : Int)
          · have HZ := hid hz
            have HE : Hid (rightL m = false) := HR.out.trans (all_more (HS2.out.trans hz))
            clear hz HS2
            go_wp2_with (first | (go_at_call 27; have kill := HV.out; refine (isZero27 m _ _ HT.out HM.out).mono ?_; rintro e w3 ⟨rfl, l3⟩; rw [HZ.out]; have L3 := hid (sq HB.out l3); clear l3 kill HV) | (have kill := TK2.out; refine ldw27 HV.out _ rfl (by kernel_rfl) rfl ?_) | (go_at_call 25; have kill := TK1.out; refine (contains25 _ _ _ _ _ _ HG.out).mono ?_; rintro e w3 ⟨rfl, rfl⟩; rw [HC.out]; have TK2 := hid True.intro) | (go_at_call 25; refine (contains25 _ _ _ _ _ _ HG.out).mono ?_; rintro e w3 ⟨rfl, rfl⟩; rw [HC.out]; have TK1 := hid True.intro))
            go_ret
            exact ⟨by rw [HE.out]; rfl, L3.out⟩
          · have HZ := hid hz
            have HE : Hid ((tenF.take (k + 1)).all (okF m) = true) := HS2.out.trans hz
            clear hz HS2
            go_wp2_with (first | (go_at_call 27; have kill := HV.out; refine (isZero27 m _ _ HT.out HM.out).mono ?_; rintro e w3 ⟨rfl, l3⟩; rw [HZ.out]; have L3 := hid (sq HB.out l3); have G3 := hid (HG.out.below l3); have V3 := hid (HV.out.below l3); clear l3 kill HV) | (have kill := TK2.out; refine ldw27 HV.out _ rfl (by kernel_rfl) rfl ?_) | (go_at_call 25; have kill := TK1.out; refine (contains25 _ _ _ _ _ _ HG.out).mono ?_; rintro e w3 ⟨rfl, rfl⟩; rw [HC.out]; have TK2 := hid True.intro) | (go_at_call 25; refine (contains25 _ _ _ _ _ _ HG.out).mono ?_; rintro e w3 ⟨rfl, rfl⟩; rw [HC.out]; have TK1 := hid True.intro))
            go_roundw
            case rel => exact ⟨k + 1, by omega, by go_num, HE.out, G3.out, V3.out, L3.out⟩
            case measure => simp [intOf]; omega
        · have HC := hid hc
          have HS2 : Hid ((tenF.take (k + 1)).all (okF m) = rightF m (k : Int)) := HS.out.trans (okF_yes (by rw [HH.out]; exact hc))
          clear hc HS
          cases hz : rightF m (k : Int)
          · have HZ := hid hz
            have HE : Hid (rightL m = false) := HR.out.trans (all_more (HS2.out.trans hz))
            clear hz HS2
            go_wp2_with (first | (go_at_call 26; have kill := HV.out; refine (isRight26 m _ _ HT.out HM.out HP.out).mono ?_; rintro e w3 ⟨rfl, l3⟩; rw [HZ.out]; have L3 := hid (sq HB.out l3); clear l3 kill HV) | (have kill := HV.out; refine ldw27 HV.out _ rfl (by kernel_rfl) rfl ?_) | (go_at_call 25; refine (contains25 _ _ _ _ _ _ HG.out).mono ?_; rintro e w3 ⟨rfl, rfl⟩; rw [HC.out]))
            go_ret
            exact ⟨by rw [HE.out]; rfl, L3.out⟩
          · have HZ := hid hz
            have HE : Hid ((tenF.take (k + 1)).all (okF m) = true) := HS2.out.trans hz
            clear hz HS2
            go_wp2_with (first | (go_at_call 25; have kill := G3.out; refine (contains25 _ _ _ _ _ _ G3.out).mono ?_; rintro e w4 ⟨rfl, rfl⟩; rw [HC.out]; clear kill) | (go_at_call 26; have kill := HV.out; refine (isRight26 m _ _ HT.out HM.out HP.out).mono ?_; rintro e w3 ⟨rfl, l3⟩; rw [HZ.out]; have L3 := hid (sq HB.out l3); have G3 := hid (HG.out.below l3); have V3 := hid (HV.out.below l3); clear l3 kill HV HG) | (have kill := HV.out; refine ldw27 HV.out _ rfl (by kernel_rfl) rfl ?_) | (go_at_call 25; have kill := HG.out; refine (contains25 _ _ _ _ _ _ HG.out).mono ?_; rintro e w3 ⟨rfl, rfl⟩; rw [HC.out]; clear kill))
            go_roundw
            case rel => exact ⟨k + 1, by omega, by go_num, HE.out, G3.out, V3.out, L3.out⟩
            case measure => simp [intOf]; omega
      · have HE : Hid (rightL m = true) := by
          have := HN.out; rw [List.take_of_length_le (by simp [tenF]; omega)] at this; exact HR.out.trans this
        go_wp2
        go_ret
        exact ⟨by rw [HE.out]; rfl, HB.out⟩
end Go.Proofs.YtbipikbefokihaaDoor
