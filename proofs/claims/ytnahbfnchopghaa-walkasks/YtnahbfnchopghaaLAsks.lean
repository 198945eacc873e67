/- What a walk asks is the last account and the last amount ahead of the asking, once: for at most 8 accounts and at most 8 amounts that are typed again and again, whether it asks once or twice. -/
import Derived.Test.YtnahbfnchopghaaAsked
import Derived.Test.YtnahbfnchopghaaTab
namespace Go.Proofs.Ytnahbfnchopghaa
open Go.ChangeShapes Go.WideShapes Go.ChangeAt Go.RowKit

theorem own_put {w : World} {B g n c j : Nat} {xs : List Value} (h : w.ownsRow B 34 4 (.slice (some ⟨g, 0, none⟩) n c) n xs) (u : Value) : (w.setCell ⟨g, j, none⟩ u).ownsRow B 34 4 (.slice (some ⟨g, 0, none⟩) n c) n (xs.set j u) := by
  rcases h.2 with ⟨e, _⟩ | ⟨g', cap, cur, e, hg, hc, h1, h2, h3, h4⟩
  · cases e
  · cases e
    refine ⟨by rw [List.length_set]; exact h.1, .inr ⟨g, c, cur.setIfInBounds j u, rfl, hg, heap_setCell_same w g j cur 34 _ hc, h1, h2, by simp [h3], ?_⟩⟩
    rw [Array.toList_setIfInBounds, List.take_set, h4]
theorem MkS.addr {W0 w : World} {a : Option Addr} {n c : Nat} {l : List St} (h : MkS W0 w (.slice a n c) n l) (hn : 0 < n) : ∃ g, a = some ⟨g, 0, none⟩ := by
  rcases h.1.2 with ⟨e, h0⟩ | ⟨g, cap, cur, e, _⟩
  · omega
  · cases e; exact ⟨g, rfl⟩
/-- A state of a row of the call's own is written. -/
theorem stRow {ops : Array Oper} {rest : List Oper} {op : Oper} {a : Act} {w W0 : World} {Q : Exit → Act → World → Prop} {g n c o : Nat} {l l' : List St} {r : St}
    (h : MkS W0 w (.slice (some ⟨g, 0, none⟩) n c) n l) (ho4 : o + 4 ≤ n * 4) (e : ((((flS l).set o (.int .i64 r.id)).set (o + 1) (.int .u8 r.kind)).set (o + 2) (.int .i64 r.next)).set (o + 3) (.int .i64 r.other) = flS l')
    (hgd : op.guard = none) (y z : Operand) (ho : op.op = .store 34 y z) (hx : a.eval y = .pointer (some ⟨g, o, none⟩)) (hy : a.eval z = r.val)
    (k : ∀ w', MkS W0 w' (.slice (some ⟨g, 0, none⟩) n c) n l' → wpList Try.prog ops Q rest (a.put op.dst undef) w') : wpList Try.prog ops Q (op :: rest) a w :=
  wpList_plain hgd fun K hK => by
    have hth : w.there g o 4 := by
      rcases h.1.2 with ⟨e2, _⟩ | ⟨g', cap, cur, e2, hg, hc, h1, h2, h3, h4⟩
      · cases e2
      · cases e2
        intro j hj
        refine ⟨?_, froz_of_head hc _⟩
        rw [cell_of_head hc]
        have : o + j < cur.size := by rw [h3]; omega
        simp [this]
    have hs := run_storeVar_cs w g o 34 r.val r.cells rfl (by simpa [St.len] using hth) (by rw [n34]; simp [St.len]) r.one
    have hgB : W0.heap.size ≤ g := by
      rcases h.1.2 with ⟨e2, _⟩ | ⟨g', cap, cur, e2, hg, _⟩
      · cases e2
      · cases e2; exact hg
    unfold Oper.wp execOp
    simp only [ho, hx, hy, Instr.storeAt, Instr.sureAddr, Sem.run_bind, Sem.run_pure, Result.andThen_ok, hs]
    refine hK _ _ (k _ ⟨?_, setCells_in h.2 hgB o⟩)
    unfold RowS
    rw [← e]
    exact own_put (own_put (own_put (own_put h.1 _) _) _) _
theorem set_l6 : ((((flS L6).set 20 (.int .i64 5)).set 21 (.int .u8 73)).set 22 (.int .i64 6)).set 23 (.int .i64 0) = flS [⟨0, 69, 1, 2⟩, ⟨1, 65, 0, 0⟩, ⟨2, 69, 3, 4⟩, ⟨3, 68, 2, 2⟩, ⟨4, 73, 5, 0⟩, ⟨5, 73, 6, 0⟩] := rfl
theorem take_one {l : List Int} {k : Nat} (h : k < l.length) : l.take (k + 1) = l.take k ++ [l.getD k 0] := by
  rw [List.take_succ_eq_append_getElem h]; simp [h]
theorem all_eq (ps qs : List Int) : ((inP ps ++ [⟨#[50]⟩]) ++ inQ qs) ++ [⟨#[50]⟩] = inAll ps qs := by unfold inAll; rw [List.append_assoc]
theorem ask_no {ps qs : List Int} {pos st : Int} (h : lastP ⟨#[]⟩ ps = ⟨#[]⟩ ∨ lastQ 0 qs = 0) : AskR ps qs pos st = ⟨pos, st, false, ⟨#[]⟩, 0⟩ := by
  have e : asksB ps qs = false := by
    unfold asksB
    rcases h with h | h
    · rw [h]; simp
    · rw [h]; simp
  unfold AskR; rw [e]; rfl
theorem ask_yes {ps qs : List Int} {pos st : Int} (h1 : ¬ lastP ⟨#[]⟩ ps = ⟨#[]⟩) (h2 : ¬ lastQ 0 qs = 0) : AskR ps qs pos st = ⟨pos, st, true, lastP ⟨#[]⟩ ps, lastQ 0 qs⟩ := by
  have e : asksB ps qs = true := by unfold asksB; rw [decide_eq_true h1, decide_eq_true h2]; rfl
  unfold AskR; rw [e]; rfl
set_option maxRecDepth 20000 in
set_option maxHeartbeats 40000000 in
theorem asks_walk (x0 : Option Addr) (y0 z0 : Nat) (l0 : List Int) (x1 : Option Addr) (y1 z1 : Nat) (l1 : List Int) (tw : Bool) (W : World) (h0 : InB W x0 y0 z0 l0) (h1 : InB W x1 y1 z1 l1) :
    Calls Try.prog 5 #[.slice x0 y0 z0, .slice x1 y1 z1, .bool tw] W fun e w' => e = .returned (.bool true) ∧ Below W.heap.size W w' := by
  have TA := hid True.intro
  have HP := hid h0
  have HQ := hid h1
  clear h0 h1
  by_cases g0 : 8 < y0
  · have d0 : decide (8 < (y0 : Int)) = true := decide_eq_true (by omega)
    go_enter Try.func5, Try.ntmps5
    go_wp2_with ((have kill := TA.out; go_at_call 7; refine (known7 _).mono ?_; rintro e w1 ⟨rfl, l1'⟩; have L1 := hid l1'; have TB := hid True.intro; clear l1' kill TA))
    go_ret
    exact ⟨rfl, L1.out⟩
  have d0 : decide (8 < (y0 : Int)) = false := decide_eq_false (by omega)
  have e0 : ¬ 8 < (y0 : Int) := by omega
  by_cases g1 : 8 < y1
  · have d1 : decide (8 < (y1 : Int)) = true := decide_eq_true (by omega)
    go_enter Try.func5, Try.ntmps5
    go_wp2_with ((have kill := TA.out; go_at_call 7; refine (known7 _).mono ?_; rintro e w1 ⟨rfl, l1'⟩; have L1 := hid l1'; have TB := hid True.intro; clear l1' kill TA))
    go_ret
    exact ⟨rfl, L1.out⟩
  have d1 : decide (8 < (y1 : Int)) = false := decide_eq_false (by omega)
  have e1 : ¬ 8 < (y1 : Int) := by omega
  have HL0 : Hid (l0.length = y0) := hid HP.out.giv.leq
  have HL1 : Hid (l1.length = y1) := hid HQ.out.giv.leq
  cases tw
  · go_enter Try.func5, Try.ntmps5
    go_wp2_with (first | (have kill := TB.out; refine bdP34 (r := ⟨0, 69, 1, 2⟩) rfl _ _ _ _ rfl rfl rfl rfl rfl ?_; clear kill) | (have kill := TB.out; refine bdP34 (r := ⟨2, 69, 3, 4⟩) rfl _ _ _ _ rfl rfl rfl rfl rfl ?_; clear kill) | (have kill := TB.out; refine bdP34 (r := ⟨3, 68, 2, 2⟩) rfl _ _ _ _ rfl rfl rfl rfl rfl ?_; clear kill) | (have kill := TB.out; refine bdQ34 (r := ⟨1, 65, 0, 0⟩) rfl _ _ _ rfl rfl rfl rfl rfl ?_; clear kill) | (have kill := TB.out; refine bdQ34 (r := ⟨4, 73, 5, 0⟩) rfl _ _ _ rfl rfl rfl rfl rfl ?_; clear kill) | (have kill := TB.out; refine bdT34 (r := ⟨5, 90, 0, 0⟩) rfl _ _ rfl rfl rfl rfl rfl ?_; clear kill) | (have kill := TB.out; refine bsS6 (r0 := ⟨0, 69, 1, 2⟩) (r1 := ⟨1, 65, 0, 0⟩) (r2 := ⟨2, 69, 3, 4⟩) (r3 := ⟨3, 68, 2, 2⟩) (r4 := ⟨4, 73, 5, 0⟩) (r5 := ⟨5, 90, 0, 0⟩) rfl _ _ _ _ _ _ rfl rfl rfl rfl rfl rfl rfl ?_; intro a2 w2 m2; obtain ⟨g, rfl⟩ := m2.addr (by decide); have M2 : Hid (MkS w1 w2 (.slice (some ⟨g, 0, none⟩) 6 6) 6 L6) := hid m2; have TC := hid True.intro; clear m2 kill TB) | (have kill := TA.out; go_at_call 7; refine (known7 _).mono ?_; rintro e w1 ⟨rfl, l1'⟩; have L1 := hid l1'; have TB := hid True.intro; clear l1' kill TA))
    have MT : Hid (MkS w1 w2 (.slice (some ⟨g, 0, none⟩) 6 6) 6 L6) := M2
    have LT := hid (sq L1.out MT.out.bel)
    (try go_frame)
    go_loopw [8, 9, 11] (fun x p i wr => ∃ (j c : Nat) (a : Option Addr), j ≤ y0 ∧ i = .int .i64 (j : Int) ∧ p = .string (lastP ⟨#[]⟩ (l0.take j)) ∧ x = .slice a (2 * j) c ∧ T.Mk w2 wr (.slice a (2 * j) c) (2 * j) (inP (l0.take j))) (fun _ _ i _ => y0 - (intOf i).toNat)
    case atStart => exact ⟨0, 0, none, by omega, rfl, rfl, rfl, T.Mk.nil w2⟩
    case round =>
      obtain ⟨j, c, a, hj, rfl, rfl, rfl, hm⟩ := hrel
      have M1 := hid hm
      clear hm
      by_cases hlt : j < y0
      · have hd : decide ((j : Int) < (y0 : Int)) = true := decide_eq_true (by omega)
        have hlb : j < l0.length := by have := HL0.out; omega
        obtain ⟨q, off, rfl, hc⟩ : ∃ q off, x0 = some ⟨q, off, none⟩ ∧ wr.cell? ⟨q, off + j, none⟩ = some (.int .u8 (l0.getD j 0)) := by
          rcases HP.out.giv.row with h | ⟨q, off, e, hc⟩
          · rw [h] at hlb; simp at hlb
          · exact ⟨q, off, e, cellkept (hc j hlb) (sq LT.out M1.out.bel)⟩
        have HV := hid (HP.out.giv.byt (l0.getD j 0) (by rw [List.getD_eq_getElem?_getD, List.getElem?_eq_getElem hlb]; exact List.getElem_mem hlb))
        have HTk := hid (take_one hlb)
        generalize l0.getD j 0 = v at hc HV HTk
        have TB := hid True.intro
        clear hlb
        go_wp2_with (first | (have kill := G8.out; refine app_txt (m := 2 * (j + 1)) M8.out G8.out (by omega) (by omega) rfl _ _ rfl rfl rfl ?_; intro a9 c9 w9 m; have M9 := hid m; clear m kill G8 M8) | (have kill := M7.out; refine bsT2 (r0 := ⟨#[49]⟩) (r1 := panK v) rfl _ _ rfl rfl rfl ?_; intro a8 w8 m; have G8 := hid m; have M8 := hid (M7.out.more m.bel); clear m kill M7) | (have kill := TB.out; go_at_call 12; refine (pan12 v _ HV.out.1).mono ?_; rintro e w7 ⟨rfl, l⟩; have M7 := hid (M1.out.more l); clear l kill TB))
        (try go_frame)
        go_roundw
        case rel => exact ⟨j + 1, c9, a9, by omega, by go_num, by rw [HTk.out, lastP_snoc], rfl, by rw [HTk.out, inP_snoc]; exact M9.out⟩
        case measure => simp [intOf]; omega
      · obtain rfl : j = y0 := by omega
        have hd : decide ((j : Int) < (j : Int)) = false := decide_eq_false (by omega)
        have HT0 : Hid (l0.take j = l0) := hid (List.take_of_length_le (by rw [HL0.out]; exact Nat.le_refl _))
        rw [HT0.out] at M1 ⊢
        have TB := hid True.intro
        obtain ⟨pz, hpz⟩ : ∃ p, lastP ⟨#[]⟩ l0 = p := ⟨_, rfl⟩
        rw [hpz]
        have HPZ := hid hpz
        clear hlt hj hpz
        go_wp2_with (first | (have kill := G8.out; refine app_txt (m := 2 * j + 1) M8.out G8.out (by omega) (by omega) rfl _ _ rfl rfl rfl ?_; intro a9 c9 w9 m; have M9 := hid m; clear m kill G8 M8) | (have kill := TB.out; refine bsT1 (r0 := ⟨#[50]⟩) rfl _ rfl rfl ?_; intro a8 w8 m; have G8 := hid m; have M8 := hid (M1.out.more m.bel); clear m kill TB M1))
        (try go_frame)
        obtain ⟨y, hy⟩ : ∃ y, j = y := ⟨_, rfl⟩
        rw [hy] at M9 ⊢
        have HJ := hid hy
        have hy8 : y ≤ 8 := by omega
        clear hy
        go_loopw [8, 10, 12] (fun x p i wr => ∃ (j c : Nat) (a : Option Addr), j ≤ y1 ∧ i = .int .i64 (j : Int) ∧ p = .int .i64 (lastQ 0 (l1.take j)) ∧ x = .slice a (2 * y + 1 + 2 * j) c ∧ T.Mk w2 wr (.slice a (2 * y + 1 + 2 * j) c) (2 * y + 1 + 2 * j) ((inP l0 ++ [⟨#[50]⟩]) ++ inQ (l1.take j))) (fun _ _ i _ => y1 - (intOf i).toNat)
        case atStart => exact ⟨0, c9, a9, by omega, rfl, rfl, rfl, by have h := M9.out; rw [show inQ (l1.take 0) = [] from rfl, List.append_nil]; exact h⟩
        case round =>
          obtain ⟨j, c, a, hj, rfl, rfl, rfl, hm⟩ := hrel
          have M1 := hid hm
          clear hm M9
          by_cases hlt : j < y1
          · have hd : decide ((j : Int) < (y1 : Int)) = true := decide_eq_true (by omega)
            have hlb : j < l1.length := by have := HL1.out; omega
            obtain ⟨q, off, rfl, hc⟩ : ∃ q off, x1 = some ⟨q, off, none⟩ ∧ wr.cell? ⟨q, off + j, none⟩ = some (.int .u8 (l1.getD j 0)) := by
              rcases HQ.out.giv.row with h | ⟨q, off, e, hc⟩
              · rw [h] at hlb; simp at hlb
              · exact ⟨q, off, e, cellkept (hc j hlb) (sq LT.out M1.out.bel)⟩
            have HV := hid (HQ.out.giv.byt (l1.getD j 0) (by rw [List.getD_eq_getElem?_getD, List.getElem?_eq_getElem hlb]; exact List.getElem_mem hlb))
            have HTk := hid (take_one hlb)
            generalize l1.getD j 0 = v at hc HV HTk
            have hvw : IntKind.i64.wrap v = v := by have := HV.out; rw [IntKind.wrap_i64]; omega
            have TB := hid True.intro
            clear hlb
            go_wp2_with (first | (have kill := G8.out; refine app_txt (m := 2 * y + 1 + 2 * (j + 1)) M8.out G8.out (by omega) (by omega) rfl _ _ rfl rfl rfl ?_; intro a10 c10 w10 m; have M10 := hid m; clear m kill G8 M8) | (have kill := M7.out; refine bsT2 (r0 := ⟨#[49]⟩) (r1 := decS v) rfl _ _ rfl rfl rfl ?_; intro a8 w8 m; have G8 := hid m; have M8 := hid (M7.out.more m.bel); clear m kill M7) | (have kill := TB.out; go_at_call 13; refine (dec13 v _ HV.out.1 (by have := HV.out; omega)).mono ?_; rintro e w7 ⟨rfl, l⟩; have M7 := hid (M1.out.more l); clear l kill TB))
            (try go_frame)
            go_roundw
            case rel => exact ⟨j + 1, c10, a10, by omega, by go_num, by rw [HTk.out, lastQ_snoc], rfl, by rw [HTk.out, inQ_snoc, ← List.append_assoc]; exact M10.out⟩
            case measure => simp [intOf]; omega
          · obtain rfl : j = y1 := by omega
            have hd : decide ((j : Int) < (j : Int)) = false := decide_eq_false (by omega)
            have HT1 : Hid (l1.take j = l1) := hid (List.take_of_length_le (by rw [HL1.out]; exact Nat.le_refl _))
            rw [HT1.out] at M1 ⊢
            have TB := hid True.intro
            obtain ⟨qz, hqz⟩ : ∃ q, lastQ 0 l1 = q := ⟨_, rfl⟩
            rw [hqz]
            obtain ⟨st, hst⟩ := ask_run6 l0 l1 HQ.out.giv.byt (by have := HL0.out; have := HJ.out; omega) (by have := HL1.out; omega)
            have HST := hid hst
            have HX := hid (all_txt l0 l1 HQ.out.giv.byt)
            have HE := hid (all_eq l0 l1)
            clear hlt hj hst
            by_cases hp : pz = ⟨#[]⟩
            · have hn1 : pz.toList.isEmpty = true := by rw [hp, ByteArray.toList_eq]; rfl
              have HR : Hid (runL L6 0 (inAll l0 l1) = ⟨5, st, false, ⟨#[]⟩, 0⟩) := hid (HST.out.trans (ask_no (.inl (HPZ.out.trans hp))))
              clear hp hqz HPZ
              go_wp2_with (first | (have kill := D12.out; refine st30 (r := ⟨5, st, false, ⟨#[]⟩, 0⟩) (w0 := w11) D12.out K12.out hb12.out rfl _ _ rfl rfl rfl ?_; intro w13 v l; have c0 := v.cell 0 (v := .int .i64 5) rfl; have c2 := v.cell 2 (v := .bool false) rfl; have c3 := v.cell 3 (v := .string ⟨#[]⟩) rfl; have c4 := v.cell 4 (v := .int .i64 0) rfl; have F13 := hid (sq F11.out l); clear v l kill D12 K12 hb12 F11) | (have kill := F11.out; refine al30 rfl rfl ?_; intro b12 w12 hb v l; have D12 := hid v; have K12 := hid l; have hb12 := hid hb; clear v l hb kill) | (have kill := M10.out; go_at_call 10; refine (run10 _ _ _ L6 _ _ _ _ (inAll l0 l1) _ (MT.out.given.below M10.out.bel) (HE.out ▸ (M10.out.given (HE.out.symm ▸ HX.out)))).mono ?_; rintro e w11 ⟨rfl, l⟩; rw [HR.out]; have F11 := hid (sq LT.out (sq M10.out.bel l)); clear l kill M10) | (have kill := G8.out; refine app_txt (m := 2 * y + 1 + 2 * j + 1) M8.out G8.out (by omega) (by omega) rfl _ _ rfl rfl rfl ?_; intro a10 c10 w10 m; have M10 := hid m; clear m kill G8 M8) | (have kill := TB.out; refine bsT1 (r0 := ⟨#[50]⟩) rfl _ rfl rfl ?_; intro a8 w8 m; have G8 := hid m; have M8 := hid (M1.out.more m.bel); clear m kill TB M1))
              go_ret
              exact ⟨rfl, F13.out⟩
            · have hn1 := not_empty hp
              by_cases hq : qz = 0
              · have hm0 : (qz != 0) = false := by rw [hq]; rfl
                have HR : Hid (runL L6 0 (inAll l0 l1) = ⟨5, st, false, ⟨#[]⟩, 0⟩) := hid (HST.out.trans (ask_no (.inr (hqz.trans hq))))
                clear hp hq hqz HPZ
                go_wp2_with (first | (have kill := D12.out; refine st30 (r := ⟨5, st, false, ⟨#[]⟩, 0⟩) (w0 := w11) D12.out K12.out hb12.out rfl _ _ rfl rfl rfl ?_; intro w13 v l; have c0 := v.cell 0 (v := .int .i64 5) rfl; have c2 := v.cell 2 (v := .bool false) rfl; have c3 := v.cell 3 (v := .string ⟨#[]⟩) rfl; have c4 := v.cell 4 (v := .int .i64 0) rfl; have F13 := hid (sq F11.out l); clear v l kill D12 K12 hb12 F11) | (have kill := F11.out; refine al30 rfl rfl ?_; intro b12 w12 hb v l; have D12 := hid v; have K12 := hid l; have hb12 := hid hb; clear v l hb kill) | (have kill := M10.out; go_at_call 10; refine (run10 _ _ _ L6 _ _ _ _ (inAll l0 l1) _ (MT.out.given.below M10.out.bel) (HE.out ▸ (M10.out.given (HE.out.symm ▸ HX.out)))).mono ?_; rintro e w11 ⟨rfl, l⟩; rw [HR.out]; have F11 := hid (sq LT.out (sq M10.out.bel l)); clear l kill M10) | (have kill := G8.out; refine app_txt (m := 2 * y + 1 + 2 * j + 1) M8.out G8.out (by omega) (by omega) rfl _ _ rfl rfl rfl ?_; intro a10 c10 w10 m; have M10 := hid m; clear m kill G8 M8) | (have kill := TB.out; refine bsT1 (r0 := ⟨#[50]⟩) rfl _ rfl rfl ?_; intro a8 w8 m; have G8 := hid m; have M8 := hid (M1.out.more m.bel); clear m kill TB M1))
                go_ret
                exact ⟨rfl, F13.out⟩
              · have hm0 : (qz != 0) = true := by simpa using hq
                have HR : Hid (runL L6 0 (inAll l0 l1) = ⟨5, st, true, pz, qz⟩) := hid (by
                  have h := HST.out.trans (ask_yes (by rw [HPZ.out]; exact hp) (by rw [hqz]; exact hq))
                  rwa [HPZ.out, hqz] at h)
                clear hp hq hqz HPZ
                go_wp2_with (first | (have kill := D12.out; refine st30 (r := ⟨5, st, true, pz, qz⟩) (w0 := w11) D12.out K12.out hb12.out rfl _ _ rfl rfl rfl ?_; intro w13 v l; have c0 := v.cell 0 (v := .int .i64 5) rfl; have c2 := v.cell 2 (v := .bool true) rfl; have c3 := v.cell 3 (v := .string pz) rfl; have c4 := v.cell 4 (v := .int .i64 qz) rfl; have F13 := hid (sq F11.out l); clear v l kill D12 K12 hb12 F11) | (have kill := F11.out; refine al30 rfl rfl ?_; intro b12 w12 hb v l; have D12 := hid v; have K12 := hid l; have hb12 := hid hb; clear v l hb kill) | (have kill := M10.out; go_at_call 10; refine (run10 _ _ _ L6 _ _ _ _ (inAll l0 l1) _ (MT.out.given.below M10.out.bel) (HE.out ▸ (M10.out.given (HE.out.symm ▸ HX.out)))).mono ?_; rintro e w11 ⟨rfl, l⟩; rw [HR.out]; have F11 := hid (sq LT.out (sq M10.out.bel l)); clear l kill M10) | (have kill := G8.out; refine app_txt (m := 2 * y + 1 + 2 * j + 1) M8.out G8.out (by omega) (by omega) rfl _ _ rfl rfl rfl ?_; intro a10 c10 w10 m; have M10 := hid m; clear m kill G8 M8) | (have kill := TB.out; refine bsT1 (r0 := ⟨#[50]⟩) rfl _ rfl rfl ?_; intro a8 w8 m; have G8 := hid m; have M8 := hid (M1.out.more m.bel); clear m kill TB M1))
                go_ret
                exact ⟨rfl, F13.out⟩
  · go_enter Try.func5, Try.ntmps5
    go_wp2_with (first | (have kill := G4.out; refine app_sts (m := 7) M4.out G4.out rfl (by decide) rfl _ _ rfl rfl rfl ?_; intro a5 c5 w5 m; have M5 : Hid (MkS w1 w5 (.slice a5 7 c5) 7 L7) := hid m; clear m kill G4 M4) | (have kill := TF.out; refine bsS (r := ⟨6, 90, 0, 0⟩) rfl _ rfl rfl ?_; intro a4 w4 sg l; have M4 := hid (M3.out.more l); have G4 := hid sg; clear sg l kill TF M3) | (have kill := TE.out; refine bdT34 (r := ⟨6, 90, 0, 0⟩) rfl _ _ rfl rfl rfl rfl rfl ?_; have TF := hid True.intro; clear kill TE) | (have kill := TD.out; refine stRow (r := ⟨5, 73, 6, 0⟩) M2.out (by decide) set_l6 rfl _ _ rfl rfl rfl ?_; intro w3 m; have M3 := hid m; have TE := hid True.intro; clear m kill TD M2) | (have kill := TC.out; refine bdQ34 (r := ⟨5, 73, 6, 0⟩) rfl _ _ _ rfl rfl rfl rfl rfl ?_; have TD := hid True.intro; clear kill TC) | (have kill := TB.out; refine bdP34 (r := ⟨0, 69, 1, 2⟩) rfl _ _ _ _ rfl rfl rfl rfl rfl ?_; clear kill) | (have kill := TB.out; refine bdP34 (r := ⟨2, 69, 3, 4⟩) rfl _ _ _ _ rfl rfl rfl rfl rfl ?_; clear kill) | (have kill := TB.out; refine bdP34 (r := ⟨3, 68, 2, 2⟩) rfl _ _ _ _ rfl rfl rfl rfl rfl ?_; clear kill) | (have kill := TB.out; refine bdQ34 (r := ⟨1, 65, 0, 0⟩) rfl _ _ _ rfl rfl rfl rfl rfl ?_; clear kill) | (have kill := TB.out; refine bdQ34 (r := ⟨4, 73, 5, 0⟩) rfl _ _ _ rfl rfl rfl rfl rfl ?_; clear kill) | (have kill := TB.out; refine bdT34 (r := ⟨5, 90, 0, 0⟩) rfl _ _ rfl rfl rfl rfl rfl ?_; clear kill) | (have kill := TB.out; refine bsS6 (r0 := ⟨0, 69, 1, 2⟩) (r1 := ⟨1, 65, 0, 0⟩) (r2 := ⟨2, 69, 3, 4⟩) (r3 := ⟨3, 68, 2, 2⟩) (r4 := ⟨4, 73, 5, 0⟩) (r5 := ⟨5, 90, 0, 0⟩) rfl _ _ _ _ _ _ rfl rfl rfl rfl rfl rfl rfl ?_; intro a2 w2 m2; obtain ⟨g, rfl⟩ := m2.addr (by decide); have M2 : Hid (MkS w1 w2 (.slice (some ⟨g, 0, none⟩) 6 6) 6 L6) := hid m2; have TC := hid True.intro; clear m2 kill TB) | (have kill := TA.out; go_at_call 7; refine (known7 _).mono ?_; rintro e w1 ⟨rfl, l1'⟩; have L1 := hid l1'; have TB := hid True.intro; clear l1' kill TA))
    have MT : Hid (MkS w1 w5 (.slice a5 7 c5) 7 L7) := M5
    have LT := hid (sq L1.out MT.out.bel)
    (try go_frame)
    go_loopw [8, 9, 11] (fun x p i wr => ∃ (j c : Nat) (a : Option Addr), j ≤ y0 ∧ i = .int .i64 (j : Int) ∧ p = .string (lastP ⟨#[]⟩ (l0.take j)) ∧ x = .slice a (2 * j) c ∧ T.Mk w5 wr (.slice a (2 * j) c) (2 * j) (inP (l0.take j))) (fun _ _ i _ => y0 - (intOf i).toNat)
    case atStart => exact ⟨0, 0, none, by omega, rfl, rfl, rfl, T.Mk.nil w5⟩
    case round =>
      obtain ⟨j, c, a, hj, rfl, rfl, rfl, hm⟩ := hrel
      have M1 := hid hm
      clear hm
      by_cases hlt : j < y0
      · have hd : decide ((j : Int) < (y0 : Int)) = true := decide_eq_true (by omega)
        have hlb : j < l0.length := by have := HL0.out; omega
        obtain ⟨q, off, rfl, hc⟩ : ∃ q off, x0 = some ⟨q, off, none⟩ ∧ wr.cell? ⟨q, off + j, none⟩ = some (.int .u8 (l0.getD j 0)) := by
          rcases HP.out.giv.row with h | ⟨q, off, e, hc⟩
          · rw [h] at hlb; simp at hlb
          · exact ⟨q, off, e, cellkept (hc j hlb) (sq LT.out M1.out.bel)⟩
        have HV := hid (HP.out.giv.byt (l0.getD j 0) (by rw [List.getD_eq_getElem?_getD, List.getElem?_eq_getElem hlb]; exact List.getElem_mem hlb))
        have HTk := hid (take_one hlb)
        generalize l0.getD j 0 = v at hc HV HTk
        have TB := hid True.intro
        clear hlb
        go_wp2_with (first | (have kill := G8.out; refine app_txt (m := 2 * (j + 1)) M8.out G8.out (by omega) (by omega) rfl _ _ rfl rfl rfl ?_; intro a9 c9 w9 m; have M9 := hid m; clear m kill G8 M8) | (have kill := M7.out; refine bsT2 (r0 := ⟨#[49]⟩) (r1 := panK v) rfl _ _ rfl rfl rfl ?_; intro a8 w8 m; have G8 := hid m; have M8 := hid (M7.out.more m.bel); clear m kill M7) | (have kill := TB.out; go_at_call 12; refine (pan12 v _ HV.out.1).mono ?_; rintro e w7 ⟨rfl, l⟩; have M7 := hid (M1.out.more l); clear l kill TB))
        (try go_frame)
        go_roundw
        case rel => exact ⟨j + 1, c9, a9, by omega, by go_num, by rw [HTk.out, lastP_snoc], rfl, by rw [HTk.out, inP_snoc]; exact M9.out⟩
        case measure => simp [intOf]; omega
      · obtain rfl : j = y0 := by omega
        have hd : decide ((j : Int) < (j : Int)) = false := decide_eq_false (by omega)
        have HT0 : Hid (l0.take j = l0) := hid (List.take_of_length_le (by rw [HL0.out]; exact Nat.le_refl _))
        rw [HT0.out] at M1 ⊢
        have TB := hid True.intro
        obtain ⟨pz, hpz⟩ : ∃ p, lastP ⟨#[]⟩ l0 = p := ⟨_, rfl⟩
        rw [hpz]
        have HPZ := hid hpz
        clear hlt hj hpz
        go_wp2_with (first | (have kill := G8.out; refine app_txt (m := 2 * j + 1) M8.out G8.out (by omega) (by omega) rfl _ _ rfl rfl rfl ?_; intro a9 c9 w9 m; have M9 := hid m; clear m kill G8 M8) | (have kill := TB.out; refine bsT1 (r0 := ⟨#[50]⟩) rfl _ rfl rfl ?_; intro a8 w8 m; have G8 := hid m; have M8 := hid (M1.out.more m.bel); clear m kill TB M1))
        (try go_frame)
        obtain ⟨y, hy⟩ : ∃ y, j = y := ⟨_, rfl⟩
        rw [hy] at M9 ⊢
        have HJ := hid hy
        have hy8 : y ≤ 8 := by omega
        clear hy
        go_loopw [8, 10, 12] (fun x p i wr => ∃ (j c : Nat) (a : Option Addr), j ≤ y1 ∧ i = .int .i64 (j : Int) ∧ p = .int .i64 (lastQ 0 (l1.take j)) ∧ x = .slice a (2 * y + 1 + 2 * j) c ∧ T.Mk w5 wr (.slice a (2 * y + 1 + 2 * j) c) (2 * y + 1 + 2 * j) ((inP l0 ++ [⟨#[50]⟩]) ++ inQ (l1.take j))) (fun _ _ i _ => y1 - (intOf i).toNat)
        case atStart => exact ⟨0, c9, a9, by omega, rfl, rfl, rfl, by have h := M9.out; rw [show inQ (l1.take 0) = [] from rfl, List.append_nil]; exact h⟩
        case round =>
          obtain ⟨j, c, a, hj, rfl, rfl, rfl, hm⟩ := hrel
          have M1 := hid hm
          clear hm M9
          by_cases hlt : j < y1
          · have hd : decide ((j : Int) < (y1 : Int)) = true := decide_eq_true (by omega)
            have hlb : j < l1.length := by have := HL1.out; omega
            obtain ⟨q, off, rfl, hc⟩ : ∃ q off, x1 = some ⟨q, off, none⟩ ∧ wr.cell? ⟨q, off + j, none⟩ = some (.int .u8 (l1.getD j 0)) := by
              rcases HQ.out.giv.row with h | ⟨q, off, e, hc⟩
              · rw [h] at hlb; simp at hlb
              · exact ⟨q, off, e, cellkept (hc j hlb) (sq LT.out M1.out.bel)⟩
            have HV := hid (HQ.out.giv.byt (l1.getD j 0) (by rw [List.getD_eq_getElem?_getD, List.getElem?_eq_getElem hlb]; exact List.getElem_mem hlb))
            have HTk := hid (take_one hlb)
            generalize l1.getD j 0 = v at hc HV HTk
            have hvw : IntKind.i64.wrap v = v := by have := HV.out; rw [IntKind.wrap_i64]; omega
            have TB := hid True.intro
            clear hlb
            go_wp2_with (first | (have kill := G8.out; refine app_txt (m := 2 * y + 1 + 2 * (j + 1)) M8.out G8.out (by omega) (by omega) rfl _ _ rfl rfl rfl ?_; intro a10 c10 w10 m; have M10 := hid m; clear m kill G8 M8) | (have kill := M7.out; refine bsT2 (r0 := ⟨#[49]⟩) (r1 := decS v) rfl _ _ rfl rfl rfl ?_; intro a8 w8 m; have G8 := hid m; have M8 := hid (M7.out.more m.bel); clear m kill M7) | (have kill := TB.out; go_at_call 13; refine (dec13 v _ HV.out.1 (by have := HV.out; omega)).mono ?_; rintro e w7 ⟨rfl, l⟩; have M7 := hid (M1.out.more l); clear l kill TB))
            (try go_frame)
            go_roundw
            case rel => exact ⟨j + 1, c10, a10, by omega, by go_num, by rw [HTk.out, lastQ_snoc], rfl, by rw [HTk.out, inQ_snoc, ← List.append_assoc]; exact M10.out⟩
            case measure => simp [intOf]; omega
          · obtain rfl : j = y1 := by omega
            have hd : decide ((j : Int) < (j : Int)) = false := decide_eq_false (by omega)
            have HT1 : Hid (l1.take j = l1) := hid (List.take_of_length_le (by rw [HL1.out]; exact Nat.le_refl _))
            rw [HT1.out] at M1 ⊢
            have TB := hid True.intro
            obtain ⟨qz, hqz⟩ : ∃ q, lastQ 0 l1 = q := ⟨_, rfl⟩
            rw [hqz]
            obtain ⟨st, hst⟩ := ask_run7 l0 l1 HQ.out.giv.byt (by have := HL0.out; have := HJ.out; omega) (by have := HL1.out; omega)
            have HST := hid hst
            have HX := hid (all_txt l0 l1 HQ.out.giv.byt)
            have HE := hid (all_eq l0 l1)
            clear hlt hj hst
            by_cases hp : pz = ⟨#[]⟩
            · have hn1 : pz.toList.isEmpty = true := by rw [hp, ByteArray.toList_eq]; rfl
              have HR : Hid (runL L7 0 (inAll l0 l1) = ⟨6, st, false, ⟨#[]⟩, 0⟩) := hid (HST.out.trans (ask_no (.inl (HPZ.out.trans hp))))
              clear hp hqz HPZ
              go_wp2_with (first | (have kill := D12.out; refine st30 (r := ⟨6, st, false, ⟨#[]⟩, 0⟩) (w0 := w11) D12.out K12.out hb12.out rfl _ _ rfl rfl rfl ?_; intro w13 v l; have c0 := v.cell 0 (v := .int .i64 6) rfl; have c2 := v.cell 2 (v := .bool false) rfl; have c3 := v.cell 3 (v := .string ⟨#[]⟩) rfl; have c4 := v.cell 4 (v := .int .i64 0) rfl; have F13 := hid (sq F11.out l); clear v l kill D12 K12 hb12 F11) | (have kill := F11.out; refine al30 rfl rfl ?_; intro b12 w12 hb v l; have D12 := hid v; have K12 := hid l; have hb12 := hid hb; clear v l hb kill) | (have kill := M10.out; go_at_call 10; refine (run10 _ _ _ L7 _ _ _ _ (inAll l0 l1) _ (MT.out.given.below M10.out.bel) (HE.out ▸ (M10.out.given (HE.out.symm ▸ HX.out)))).mono ?_; rintro e w11 ⟨rfl, l⟩; rw [HR.out]; have F11 := hid (sq LT.out (sq M10.out.bel l)); clear l kill M10) | (have kill := G8.out; refine app_txt (m := 2 * y + 1 + 2 * j + 1) M8.out G8.out (by omega) (by omega) rfl _ _ rfl rfl rfl ?_; intro a10 c10 w10 m; have M10 := hid m; clear m kill G8 M8) | (have kill := TB.out; refine bsT1 (r0 := ⟨#[50]⟩) rfl _ rfl rfl ?_; intro a8 w8 m; have G8 := hid m; have M8 := hid (M1.out.more m.bel); clear m kill TB M1))
              go_ret
              exact ⟨rfl, F13.out⟩
            · have hn1 := not_empty hp
              by_cases hq : qz = 0
              · have hm0 : (qz != 0) = false := by rw [hq]; rfl
                have HR : Hid (runL L7 0 (inAll l0 l1) = ⟨6, st, false, ⟨#[]⟩, 0⟩) := hid (HST.out.trans (ask_no (.inr (hqz.trans hq))))
                clear hp hq hqz HPZ
                go_wp2_with (first | (have kill := D12.out; refine st30 (r := ⟨6, st, false, ⟨#[]⟩, 0⟩) (w0 := w11) D12.out K12.out hb12.out rfl _ _ rfl rfl rfl ?_; intro w13 v l; have c0 := v.cell 0 (v := .int .i64 6) rfl; have c2 := v.cell 2 (v := .bool false) rfl; have c3 := v.cell 3 (v := .string ⟨#[]⟩) rfl; have c4 := v.cell 4 (v := .int .i64 0) rfl; have F13 := hid (sq F11.out l); clear v l kill D12 K12 hb12 F11) | (have kill := F11.out; refine al30 rfl rfl ?_; intro b12 w12 hb v l; have D12 := hid v; have K12 := hid l; have hb12 := hid hb; clear v l hb kill) | (have kill := M10.out; go_at_call 10; refine (run10 _ _ _ L7 _ _ _ _ (inAll l0 l1) _ (MT.out.given.below M10.out.bel) (HE.out ▸ (M10.out.given (HE.out.symm ▸ HX.out)))).mono ?_; rintro e w11 ⟨rfl, l⟩; rw [HR.out]; have F11 := hid (sq LT.out (sq M10.out.bel l)); clear l kill M10) | (have kill := G8.out; refine app_txt (m := 2 * y + 1 + 2 * j + 1) M8.out G8.out (by omega) (by omega) rfl _ _ rfl rfl rfl ?_; intro a10 c10 w10 m; have M10 := hid m; clear m kill G8 M8) | (have kill := TB.out; refine bsT1 (r0 := ⟨#[50]⟩) rfl _ rfl rfl ?_; intro a8 w8 m; have G8 := hid m; have M8 := hid (M1.out.more m.bel); clear m kill TB M1))
                go_ret
                exact ⟨rfl, F13.out⟩
              · have hm0 : (qz != 0) = true := by simpa using hq
                have HR : Hid (runL L7 0 (inAll l0 l1) = ⟨6, st, true, pz, qz⟩) := hid (by
                  have h := HST.out.trans (ask_yes (by rw [HPZ.out]; exact hp) (by rw [hqz]; exact hq))
                  rwa [HPZ.out, hqz] at h)
                clear hp hq hqz HPZ
                go_wp2_with (first | (have kill := D12.out; refine st30 (r := ⟨6, st, true, pz, qz⟩) (w0 := w11) D12.out K12.out hb12.out rfl _ _ rfl rfl rfl ?_; intro w13 v l; have c0 := v.cell 0 (v := .int .i64 6) rfl; have c2 := v.cell 2 (v := .bool true) rfl; have c3 := v.cell 3 (v := .string pz) rfl; have c4 := v.cell 4 (v := .int .i64 qz) rfl; have F13 := hid (sq F11.out l); clear v l kill D12 K12 hb12 F11) | (have kill := F11.out; refine al30 rfl rfl ?_; intro b12 w12 hb v l; have D12 := hid v; have K12 := hid l; have hb12 := hid hb; clear v l hb kill) | (have kill := M10.out; go_at_call 10; refine (run10 _ _ _ L7 _ _ _ _ (inAll l0 l1) _ (MT.out.given.below M10.out.bel) (HE.out ▸ (M10.out.given (HE.out.symm ▸ HX.out)))).mono ?_; rintro e w11 ⟨rfl, l⟩; rw [HR.out]; have F11 := hid (sq LT.out (sq M10.out.bel l)); clear l kill M10) | (have kill := G8.out; refine app_txt (m := 2 * y + 1 + 2 * j + 1) M8.out G8.out (by omega) (by omega) rfl _ _ rfl rfl rfl ?_; intro a10 c10 w10 m; have M10 := hid m; clear m kill G8 M8) | (have kill := TB.out; refine bsT1 (r0 := ⟨#[50]⟩) rfl _ rfl rfl ?_; intro a8 w8 m; have G8 := hid m; have M8 := hid (M1.out.more m.bel); clear m kill TB M1))
                go_ret
                exact ⟨rfl, F13.out⟩
theorem walkAsks_own : ownKnob Try.prog.godebug = none := by kernel_rfl
theorem walkAsks_laid : laidOutB Try.prog = true := by kernel_rfl

set_option maxRecDepth 100000 in
set_option maxHeartbeats 1000000 in
theorem walkAsks_lifted (os : Os) (started : os.Started) (H : Type) (enc : TypeId × Value → H) :
    ReturnsInHanded {} Try.checked os 5 .any (Rows.walkAsksSpec.pre6 enc Try.prog Try.f5 Rows.walkAsksRow.domain false) (Rows.walkAsksSpec.post enc Try.prog Try.f5 false true false false) := by
  refine returnsInHanded_of_change (C := Try.checked) walkAsks_own started (by kernel_rfl) Try.func5
    (ChangeSpec.witness6 (enc := enc) (C := Try.checked) false ⟨#[], #[.slice none 0 0, .slice none 0 0, .bool false], []⟩ 8 (by kernel_rfl) (by kernel_rfl) (by kernel_rfl) (by kernel_rfl)) ?_
  intro W base args ds gs before hval0 hW hcnd _
  have hval : ∀ (j : Nat) t v, Try.f5.params[j]? = some t → args[j]? = some v → Value.okWide Try.prog W .any base t v := hval0
  have hW' := hW
  obtain ⟨p, q, hA0, hV, rfl, hfz, hnd⟩ := hW
  have hA : DataW.TrodAll enc Try.prog W 0 (fun _ => true) true Try.f5.params.toList args.toList ds p := hA0
  rw [Try.params5] at hA hval
  obtain ⟨v0, vs0, d0, ds0, p0, q0, hargs, rfl, rfl, h0, r0⟩ := trodAll_cons hA
  obtain ⟨v1, vs1, d1, ds1, p1, q1, rfl, rfl, rfl, h1, r1⟩ := trodAll_cons r0
  obtain ⟨v2, vs2, d2, ds2, p2, q2, rfl, rfl, rfl, h2, r2⟩ := trodAll_cons r1
  obtain ⟨rfl, rfl, rfl⟩ := trodAll_nil r2
  obtain rfl : args = #[v0, v1, v2] := by cases args; simp_all
  obtain ⟨rfl, rfl⟩ := trodVars_none hV
  obtain ⟨x0, y0, z0, rfl⟩ := okWide_slice Try.underlying24 (hval 0 24 v0 rfl rfl)
  have k0 := h0
  have lt0 : ∀ x ∈ p0, x.block < W.heap.size := by obtain ⟨m, hm⟩ := k0; exact DataW.trod_lt m _ _ _ hm
  obtain ⟨a0, len0, cap0, l0, e0, w0⟩ : ∃ a len cap l, Value.slice x0 y0 z0 = .slice a len cap ∧ InB W a len cap l := by
    obtain ⟨fuel, hf⟩ := h0
    exact open_inB hf
  cases e0
  obtain ⟨x1, y1, z1, rfl⟩ := okWide_slice Try.underlying24 (hval 1 24 v1 rfl rfl)
  have k1 := h1
  have lt1 : ∀ x ∈ p1, x.block < W.heap.size := by obtain ⟨m, hm⟩ := k1; exact DataW.trod_lt m _ _ _ hm
  obtain ⟨a1, len1, cap1, l1, e1, w1⟩ : ∃ a len cap l, Value.slice x1 y1 z1 = .slice a len cap ∧ InB W a len cap l := by
    obtain ⟨fuel, hf⟩ := h1
    exact open_inB hf
  cases e1
  obtain ⟨a2, rfl, rfl, rfl⟩ := open_bool Try.underlying4 (hval 2 4 v2 rfl rfl) h2
  clear hA0 hval0
  refine (asks_walk x0 y0 z0 l0 x1 y1 z1 l1 a2 W w0 w1).mono fun e W' ⟨he, bel⟩ => ?_
  subst he
  exact ⟨_, rfl, _, _, _, [], _, [], hW', trodAll_mk1 (shut_bool Try.underlying4 _), (trodAll_cons_mk (Below.trod walkAsks_laid (by kernel_rfl) (of_decide_eq_true (by kernel_rfl)) k0 bel lt0) (trodAll_cons_mk (Below.trod walkAsks_laid (by kernel_rfl) (of_decide_eq_true (by kernel_rfl)) k1 bel lt1) (trodAll_cons_mk (shut_bool Try.underlying4 _) trodAll_mk0))), rfl, bel.frame _, fun h => by cases h⟩

theorem walkAsks_over : Rows.walkAsksRow.holds Try.pinned (OpenSpec.ofChange Rows.walkAsksSpec) :=
  OpenClaim.holds_of_wide 5 Try.f5 rfl rfl rfl rfl rfl rfl rfl ⟨rfl, rfl, rfl, rfl, rfl⟩ rfl rfl rfl rfl rfl (by kernel_rfl) Try.func5 (by kernel_rfl)
    (of_decide_eq_true (by kernel_rfl)) (by unfold Func.isWrapper; first | (rw [if_pos (by decide +kernel)]; kernel_rfl) | (rw [if_neg (by decide +kernel)]; exact ⟨rfl, rfl⟩))
    (fun os started H enc _ => walkAsks_lifted os started H enc)

/-- The statement. -/
theorem walkAsks_holds : Rows.WalkAsksSaid := walkAsks_over
#print axioms walkAsks_holds
end Go.Proofs.Ytnahbfnchopghaa
