/- Check, the document's: by the plain function. -/
import Derived.Test.YthhgochnlbiaaaaChk
import Derived.Test.YthhgochnlbiaaaaFind
namespace Go.Proofs.Ythhgochnlbiaaaa
open Go.ChangeShapes Go.WideShapes Go.ChangeAt Go.RowKit Go.Maps

theorem ldSw {ops : Array Oper} {rest : List Oper} {op : Oper} {a : Act} {w : World} {Q : Exit → Act → World → Prop} {b o : Nat} {r : St} (hr : w.rangeAt b o r.cells) (y : Operand) (ho : op.op = .load 34 y) (hw : Region.wanted op (yielded ops a.tmps) = true) (hx : a.eval y = .pointer (some ⟨b, o, none⟩))
    (h : wpList Try.prog ops Q rest (a.put op.dst r.val) w) : wpList Try.prog ops Q (op :: rest) a w := by
  obtain ⟨d, hu, hd⟩ := row34
  exact wpList_want hw fun K hK => wp_load_mid 34 y ho b o hx r.cells d hr hu hd n34 (hK _ _ h)
theorem celk {w w' : World} {p : Addr} {v : Value} (h : w.cell? p = some v) (hb : Below w.heap.size w w') : w'.cell? p = some v := (hb.cell (World.block_lt_of_cell? w p h)).trans h
theorem rangek {w w' : World} {b o : Nat} {cs : List Value} (h : w.rangeAt b o cs) (hb : Below w.heap.size w w') : w'.rangeAt b o cs := fun j v hv => celk (h j v hv) hb
def foldT (l : List St) (f : Int → Bool) (t : Nat) : Int → Bool := (l.take t).foldl stepE f
theorem fold_more {l : List St} {f : Int → Bool} {t : Nat} (h : t < l.length) : foldT l f (t + 1) = stepE (foldT l f t) (sAt l t) := by
  unfold foldT
  have e : l.take (t + 1) = l.take t ++ [sAt l t] := by rw [List.take_succ_eq_append_getElem h]; simp [sAt, h]
  rw [e, List.foldl_append]; rfl
theorem fold_all {l : List St} {u n : Nat} (h : l.length = n) : foldT l (roundsE l u) n = roundsE l (u + 1) := by
  unfold foldT; rw [List.take_of_length_le (by omega)]; rfl
theorem fold_zero {l : List St} {f : Int → Bool} : foldT l f 0 = f := rfl
theorem step_yes {f : Int → Bool} {s : St} (h : condE f s = true) : stepE f s = upd f s.id true := by unfold stepE; rw [if_pos h]; rfl
theorem step_no {f : Int → Bool} {s : St} (h : condE f s = false) : stepE f s = f := by unfold stepE; rw [if_neg (by rw [h]; simp)]
set_option maxRecDepth 20000 in
set_option maxHeartbeats 16000000 in
theorem check10 (ao : Option Addr) (len cap : Nat) (l : List St) (w : World) (h : SG w ao len cap l) (hs : len ≤ 100) (hok : OkT l) :
    Calls Try.prog 10 #[.slice ao len cap] w (CkAns w l) := by
  have hm : len ≤ 9223372036854775807 := by omega
  have HQ := hid h.leq
  have HG := hid h
  have HOK := hid hok
  clear h hok
  go_enter Try.func10, Try.ntmps10
  go_wp2
  go_loopw [4] (fun i wr => ∃ k : Nat, k ≤ len ∧ i = .int .i64 (k : Int) ∧ (∀ j, j < k → dupB l j = false) ∧ Below w.heap.size w wr) (fun i _ => len - (intOf i).toNat)
  case atStart => exact ⟨0, by omega, rfl, fun _ h => by omega, Below.refl _ _⟩
  case round =>
    obtain ⟨k, hk, rfl, nd, be⟩ := hrel
    have ND1 := hid nd
    have L1 := hid be
    clear nd be
    by_cases hlt : k < len
    · have HKL : Hid (k < l.length) := by unfold Hid; rw [HQ.out]; exact hlt
      go_wp2
      go_loopw [5] (fun i wr => ∃ t : Nat, t ≤ k ∧ i = .int .i64 (t : Int) ∧ (∀ j, j < t → (sAt l j).id ≠ (sAt l k).id) ∧ Below w.heap.size w wr) (fun i _ => k - (intOf i).toNat)
      case atStart => exact ⟨0, by omega, rfl, fun _ h => by omega, L1.out⟩
      case round =>
        obtain ⟨t, ht, rfl, nd, be⟩ := hrel
        have NE2 := hid nd
        have L2 := hid be
        clear nd be L1
        by_cases hlt2 : t < k
        · obtain ⟨b, o, rfl, hcs⟩ := (HG.out.below L2.out).some (by omega)
          have htn : t < len := by omega
          have hkl := HKL.out
          obtain ⟨r, hr⟩ : ∃ r, sAt l t = r := ⟨_, rfl⟩
          obtain ⟨s, hs2⟩ : ∃ s, sAt l k = s := ⟨_, rfl⟩
          have c1 := hcs t r (by rw [← hr]; exact sAt_get (by omega)) 0 _ (rfl : r.cells[0]? = some (.int .i64 r.id))
          have c2 := hcs k s (by rw [← hs2]; exact sAt_get (by omega)) 0 _ (rfl : s.cells[0]? = some (.int .i64 s.id))
          rw [Nat.add_zero] at c1 c2
          have HR := hid hr
          have HS := hid hs2
          clear hcs hkl hr hs2
          by_cases he : r.id = s.id
          · have e1 : (r.id == s.id) = true := by simpa using he
            have HA := hid (check_dup HKL.out ((dup_iff (l := l) (i := k) (Nat.le_of_lt HKL.out)).2 ⟨t, hlt2, by rw [HR.out, HS.out]; exact he⟩) ND1.out)
            clear he
            go_wp2
            go_region
            go_wp2
            go_ret2
            exact ⟨ck_of HA.out, L2.out.drew⟩
          · have e1 : (r.id == s.id) = false := by simpa using he
            have HN2 := hid (upto (p := fun j => (sAt l j).id ≠ (sAt l k).id) NE2.out (by rw [HR.out, HS.out]; exact he))
            clear he
            go_wp2
            go_region
            go_wp2
            go_roundw
            case rel => exact ⟨t + 1, by omega, by go_num, HN2.out, L2.out.drew⟩
            case measure => simp [intOf]; omega
        · have HN2 := hid (upto (p := fun j => dupB l j = false) ND1.out (dup_false (l := l) (i := k) (Nat.le_of_lt HKL.out) (fun j hj => NE2.out j (by omega))))
          go_wp2
          go_roundw
          case rel => exact ⟨k + 1, by omega, by go_num, HN2.out, L2.out⟩
          case measure => simp [intOf]; omega
    · obtain rfl : len = k := by omega
      have ND2 : Hid (∀ j, j < l.length → dupB l j = false) := by unfold Hid; rw [HQ.out]; exact ND1.out
      have L2 := hid L1.out
      clear ND1 L1
      go_wp2
      go_loopw [6] (fun i wr => ∃ k : Nat, k ≤ len ∧ i = .int .i64 (k : Int) ∧ (∀ j, j < k → noneB l j = false) ∧ Below w.heap.size w wr) (fun i _ => len - (intOf i).toNat)
      case atStart => exact ⟨0, by omega, rfl, fun _ h => by omega, L2.out⟩
      case round =>
        obtain ⟨k, hk, rfl, nn, be⟩ := hrel
        have NN1 := hid nn
        have L1 := hid be
        clear nn be L2
        by_cases hlt : k < len
        · have hkl : k < l.length := by rw [HQ.out]; exact hlt
          have hget := sAt_get hkl
          have hnr := none_ref l k
          obtain ⟨r, hr⟩ : ∃ r, sAt l k = r := ⟨_, rfl⟩
          rw [hr] at hget hnr
          have G1 := hid (HG.out.below L1.out)
          obtain ⟨b, o, rfl, hc⟩ := G1.out.at hget
          obtain ⟨kk, hkk⟩ : ∃ kk, r.kind = kk := ⟨_, rfl⟩
          have c1 := hc 1 _ (rfl : r.cells[1]? = some (.int .u8 r.kind))
          have c2 := hc 2 _ (rfl : r.cells[2]? = some (.int .i64 r.next))
          have c3 := hc 3 _ (rfl : r.cells[3]? = some (.int .i64 r.other))
          rw [hkk] at c1 hnr
          have HC := hid hc
          have HR := hid hr
          have HKL := hid hkl
          have HKK := hid hkk
          have HGET := hid hget
          obtain ⟨a1, ha1⟩ : ∃ a1, foundL l r.next = a1 := ⟨_, rfl⟩
          obtain ⟨b1, hb1⟩ : ∃ b1, foundL l r.other = b1 := ⟨_, rfl⟩
          obtain ⟨tb, htb⟩ : ∃ tb, twoB kk = tb := ⟨_, rfl⟩
          have HF1 := hid ha1
          have HF2 := hid hb1
          have HTW : Hid (twoB r.kind = tb) := by unfold Hid; rw [hkk]; exact htb
          have hnr2 : noneB l k = (kk != 90 && !a1 || tb && !b1) := by rw [hnr, ← ha1, ← hb1, ← htb]; rfl
          have HNR := hid hnr2
          have K1 : Hid True := trivial
          clear hnr hnr2 ha1 hb1 hc hr hkl hkk hget
          have yes : Hid (noneB l k = true → checkL l = ((k : Int), 32)) := fun h => check_none ND2.out HKL.out h NN1.out
          have no : Hid (noneB l k = false → ∀ j, j < k + 1 → noneB l j = false) := fun h => upto (p := fun j => noneB l j = false) NN1.out h
          by_cases h9 : kk = 90
          · have tf : tb = false := by rw [← htb, h9]; rfl
            subst tf
            subst h9
            have HA := hid (no.out (by rw [HNR.out]; simp))
            clear yes no HNR htb
            go_wp2_with (first | (go_at_call 20; have kill := L7.out; refine (two20 r _).mono ?_; rintro e w8 ⟨rfl, l8⟩; rw [HTW.out]; have L8 := hid (sq L7.out l8); clear l8 kill L7) | (have kill := R7.out; refine ldSw R7.out _ rfl (by kernel_rfl) rfl ?_) | (have kill := V6.out; refine st34 (r := findL l r.other) (w0 := w5) V6.out L6.out hb6 rfl _ _ rfl rfl rfl ?_; intro w7 v7 l7; have q4 := sq L5.out l7; have L7 := hid (sq L4.out q4); have d1 := celk q1 q4; have R7 := hid (rangek R4.out q4); clear v7 l7 q4 kill V6 L6 L5) | (have kill := V3.out; refine st34 (r := findL l r.next) (w0 := w2) V3.out L3.out hb3 rfl _ _ rfl rfl rfl ?_; intro w4 v4 l4; have q2 := sq L2.out l4; have L4 := hid (sq L1.out q2); have G4 := hid (G1.out.below q2); have q1 := celk c1 q2; have d3 := celk c3 q2; have R4 := hid (rangek HC.out q2); clear v4 l4 q2 kill V3 L3 L2 c1 c2 c3) | (have kill := L5.out; refine al34 rfl rfl ?_; intro b6 w6 hb6 v6 l6; have V6 := hid v6; have L6 := hid l6; clear v6 l6 kill) | (have kill := L2.out; refine al34 rfl rfl ?_; intro b3 w3 hb3 v3 l3; have V3 := hid v3; have L3 := hid l3; clear v3 l3 kill) | (go_at_call 12; have kill := K2.out; refine (find12 _ _ _ l r.other _ G4.out).mono ?_; rintro e w5 ⟨rfl, l5⟩; rw [HF2.out]; have L5 := hid l5; clear l5 kill K2) | (go_at_call 12; have kill := K1.out; refine (find12 _ _ _ l r.next _ G1.out).mono ?_; rintro e w2 ⟨rfl, l2⟩; rw [HF1.out]; have L2 := hid l2; clear l2 kill K1; have K2 : Hid True := trivial))
            go_roundw
            case rel => exact ⟨k + 1, by omega, by go_num, HA.out, L8.out⟩
            case measure => simp [intOf]; omega
          · have e1 : (kk == 90) = false := by simpa using h9
            have e2 : (kk != 90) = true := by simpa using h9
            clear h9
            cases a1
            · have X : Hid True := trivial
              have HA := hid (yes.out (by rw [HNR.out, e2]; simp))
              clear yes no HNR htb
              go_wp2_with (first | (have kill := V6.out; refine st34 (r := findL l r.other) (w0 := w5) V6.out L6.out hb6 rfl _ _ rfl rfl rfl ?_; intro w7 v7 l7; have q4 := sq L5.out l7; have L7 := hid (sq L4.out q4); have d1 := celk q1 q4; have R7 := hid (rangek R4.out q4); clear v7 l7 q4 kill V6 L6 L5) | (have kill := V3.out; refine st34 (r := findL l r.next) (w0 := w2) V3.out L3.out hb3 rfl _ _ rfl rfl rfl ?_; intro w4 v4 l4; have q2 := sq L2.out l4; have L4 := hid (sq L1.out q2); have G4 := hid (G1.out.below q2); have q1 := celk c1 q2; have d3 := celk c3 q2; have R4 := hid (rangek HC.out q2); clear v4 l4 q2 kill V3 L3 L2 c1 c2 c3) | (have kill := L5.out; refine al34 rfl rfl ?_; intro b6 w6 hb6 v6 l6; have V6 := hid v6; have L6 := hid l6; clear v6 l6 kill) | (have kill := L2.out; refine al34 rfl rfl ?_; intro b3 w3 hb3 v3 l3; have V3 := hid v3; have L3 := hid l3; clear v3 l3 kill) | (go_at_call 12; have kill := K2.out; refine (find12 _ _ _ l r.other _ G4.out).mono ?_; rintro e w5 ⟨rfl, l5⟩; rw [HF2.out]; have L5 := hid l5; clear l5 kill K2) | (go_at_call 12; have kill := K1.out; refine (find12 _ _ _ l r.next _ G1.out).mono ?_; rintro e w2 ⟨rfl, l2⟩; rw [HF1.out]; have L2 := hid l2; clear l2 kill K1; have K2 : Hid True := trivial))
              go_ret2
              exact ⟨ck_of HA.out, L7.out⟩
            · cases tb
              · have X : Hid True := trivial
                have HA := hid (no.out (by rw [HNR.out, e2]; simp))
                clear yes no HNR htb
                go_wp2_with (first | (go_at_call 20; have kill := L7.out; refine (two20 r _).mono ?_; rintro e w8 ⟨rfl, l8⟩; rw [HTW.out]; have L8 := hid (sq L7.out l8); clear l8 kill L7) | (have kill := R7.out; refine ldSw R7.out _ rfl (by kernel_rfl) rfl ?_) | (have kill := V6.out; refine st34 (r := findL l r.other) (w0 := w5) V6.out L6.out hb6 rfl _ _ rfl rfl rfl ?_; intro w7 v7 l7; have q4 := sq L5.out l7; have L7 := hid (sq L4.out q4); have d1 := celk q1 q4; have R7 := hid (rangek R4.out q4); clear v7 l7 q4 kill V6 L6 L5) | (have kill := V3.out; refine st34 (r := findL l r.next) (w0 := w2) V3.out L3.out hb3 rfl _ _ rfl rfl rfl ?_; intro w4 v4 l4; have q2 := sq L2.out l4; have L4 := hid (sq L1.out q2); have G4 := hid (G1.out.below q2); have q1 := celk c1 q2; have d3 := celk c3 q2; have R4 := hid (rangek HC.out q2); clear v4 l4 q2 kill V3 L3 L2 c1 c2 c3) | (have kill := L5.out; refine al34 rfl rfl ?_; intro b6 w6 hb6 v6 l6; have V6 := hid v6; have L6 := hid l6; clear v6 l6 kill) | (have kill := L2.out; refine al34 rfl rfl ?_; intro b3 w3 hb3 v3 l3; have V3 := hid v3; have L3 := hid l3; clear v3 l3 kill) | (go_at_call 12; have kill := K2.out; refine (find12 _ _ _ l r.other _ G4.out).mono ?_; rintro e w5 ⟨rfl, l5⟩; rw [HF2.out]; have L5 := hid l5; clear l5 kill K2) | (go_at_call 12; have kill := K1.out; refine (find12 _ _ _ l r.next _ G1.out).mono ?_; rintro e w2 ⟨rfl, l2⟩; rw [HF1.out]; have L2 := hid l2; clear l2 kill K1; have K2 : Hid True := trivial))
                go_roundw
                case rel => exact ⟨k + 1, by omega, by go_num, HA.out, L8.out⟩
                case measure => simp [intOf]; omega
              · cases b1
                · have X : Hid True := trivial
                  have HA := hid (yes.out (by rw [HNR.out, e2]; simp))
                  clear yes no HNR htb
                  go_wp2_with (first | (go_at_call 20; have kill := L7.out; refine (two20 r _).mono ?_; rintro e w8 ⟨rfl, l8⟩; rw [HTW.out]; have L8 := hid (sq L7.out l8); clear l8 kill L7) | (have kill := R7.out; refine ldSw R7.out _ rfl (by kernel_rfl) rfl ?_) | (have kill := V6.out; refine st34 (r := findL l r.other) (w0 := w5) V6.out L6.out hb6 rfl _ _ rfl rfl rfl ?_; intro w7 v7 l7; have q4 := sq L5.out l7; have L7 := hid (sq L4.out q4); have d1 := celk q1 q4; have R7 := hid (rangek R4.out q4); clear v7 l7 q4 kill V6 L6 L5) | (have kill := V3.out; refine st34 (r := findL l r.next) (w0 := w2) V3.out L3.out hb3 rfl _ _ rfl rfl rfl ?_; intro w4 v4 l4; have q2 := sq L2.out l4; have L4 := hid (sq L1.out q2); have G4 := hid (G1.out.below q2); have q1 := celk c1 q2; have d3 := celk c3 q2; have R4 := hid (rangek HC.out q2); clear v4 l4 q2 kill V3 L3 L2 c1 c2 c3) | (have kill := L5.out; refine al34 rfl rfl ?_; intro b6 w6 hb6 v6 l6; have V6 := hid v6; have L6 := hid l6; clear v6 l6 kill) | (have kill := L2.out; refine al34 rfl rfl ?_; intro b3 w3 hb3 v3 l3; have V3 := hid v3; have L3 := hid l3; clear v3 l3 kill) | (go_at_call 12; have kill := K2.out; refine (find12 _ _ _ l r.other _ G4.out).mono ?_; rintro e w5 ⟨rfl, l5⟩; rw [HF2.out]; have L5 := hid l5; clear l5 kill K2) | (go_at_call 12; have kill := K1.out; refine (find12 _ _ _ l r.next _ G1.out).mono ?_; rintro e w2 ⟨rfl, l2⟩; rw [HF1.out]; have L2 := hid l2; clear l2 kill K1; have K2 : Hid True := trivial))
                  go_ret2
                  exact ⟨ck_of HA.out, L8.out⟩
                · have X : Hid True := trivial
                  have HA := hid (no.out (by rw [HNR.out, e2]; simp))
                  clear yes no HNR htb
                  go_wp2_with (first | (go_at_call 20; have kill := L7.out; refine (two20 r _).mono ?_; rintro e w8 ⟨rfl, l8⟩; rw [HTW.out]; have L8 := hid (sq L7.out l8); clear l8 kill L7) | (have kill := R7.out; refine ldSw R7.out _ rfl (by kernel_rfl) rfl ?_) | (have kill := V6.out; refine st34 (r := findL l r.other) (w0 := w5) V6.out L6.out hb6 rfl _ _ rfl rfl rfl ?_; intro w7 v7 l7; have q4 := sq L5.out l7; have L7 := hid (sq L4.out q4); have d1 := celk q1 q4; have R7 := hid (rangek R4.out q4); clear v7 l7 q4 kill V6 L6 L5) | (have kill := V3.out; refine st34 (r := findL l r.next) (w0 := w2) V3.out L3.out hb3 rfl _ _ rfl rfl rfl ?_; intro w4 v4 l4; have q2 := sq L2.out l4; have L4 := hid (sq L1.out q2); have G4 := hid (G1.out.below q2); have q1 := celk c1 q2; have d3 := celk c3 q2; have R4 := hid (rangek HC.out q2); clear v4 l4 q2 kill V3 L3 L2 c1 c2 c3) | (have kill := L5.out; refine al34 rfl rfl ?_; intro b6 w6 hb6 v6 l6; have V6 := hid v6; have L6 := hid l6; clear v6 l6 kill) | (have kill := L2.out; refine al34 rfl rfl ?_; intro b3 w3 hb3 v3 l3; have V3 := hid v3; have L3 := hid l3; clear v3 l3 kill) | (go_at_call 12; have kill := K2.out; refine (find12 _ _ _ l r.other _ G4.out).mono ?_; rintro e w5 ⟨rfl, l5⟩; rw [HF2.out]; have L5 := hid l5; clear l5 kill K2) | (go_at_call 12; have kill := K1.out; refine (find12 _ _ _ l r.next _ G1.out).mono ?_; rintro e w2 ⟨rfl, l2⟩; rw [HF1.out]; have L2 := hid l2; clear l2 kill K1; have K2 : Hid True := trivial))
                  go_roundw
                  case rel => exact ⟨k + 1, by omega, by go_num, HA.out, L8.out⟩
                  case measure => simp [intOf]; omega
        · obtain rfl : len = k := by omega
          have NN2 : Hid (∀ j, j < l.length → noneB l j = false) := by unfold Hid; rw [HQ.out]; exact NN1.out
          have hmm := @run_makeMap Try.prog
          have M0 := hid (MB.made wr)
          have L0 := hid (sq L1.out (bel1 wr (.map #[] 0)))
          have hbm0 := L1.out.size
          go_wp2
          clear hmm
          obtain ⟨bm, hbm⟩ : ∃ b, wr.heap.size = b := ⟨_, rfl⟩
          have HBM : Hid (w.heap.size ≤ bm) := by unfold Hid; omega
          rw [hbm] at M0 ⊢
          generalize wr.alloc (.map #[] 0) = w0 at *
          clear hbm hbm0 NN1 L1
          go_loopw [12] (fun i wr => ∃ (u n : Nat), u ≤ len + 1 ∧ i = .int .i64 (u : Int) ∧ n ≤ u * 100 ∧ MB wr bm n (roundsE l u) ∧ Below w.heap.size w wr) (fun i _ => len + 1 - (intOf i).toNat)
          case atStart => exact ⟨0, 0, by omega, rfl, by omega, M0.out, L0.out⟩
          case round =>
            obtain ⟨u, n, hu, rfl, hn, mb, be⟩ := hrel
            have MB0 := hid mb
            have L2 := hid be
            clear mb be M0 L0
            by_cases hlt : u ≤ len
            · go_wp2
              go_loopw [13] (fun i wr => ∃ (t n : Nat), t ≤ len ∧ i = .int .i64 (t : Int) ∧ n ≤ u * 100 + t ∧ MB wr bm n (foldT l (roundsE l u) t) ∧ Below w.heap.size w wr) (fun i _ => len - (intOf i).toNat)
              case atStart => exact ⟨0, n, by omega, rfl, by omega, by rw [fold_zero]; exact MB0.out, L2.out⟩
              case round =>
                obtain ⟨t, n, ht, rfl, hn2, mb, be⟩ := hrel
                have MB1 := hid mb
                have L1 := hid be
                clear mb be MB0 L2
                by_cases hlt2 : t < len
                · have htl : t < l.length := by rw [HQ.out]; exact hlt2
                  have hget := sAt_get htl
                  have HFM := hid (fold_more (f := roundsE l u) htl)
                  obtain ⟨r, hr⟩ : ∃ r, sAt l t = r := ⟨_, rfl⟩
                  obtain ⟨g, hg⟩ : ∃ g, foldT l (roundsE l u) t = g := ⟨_, rfl⟩
                  have hok := HOK.out t
                  rw [hr] at hget HFM hok
                  rw [hg] at HFM MB1
                  have HI0 := hid hok.1
                  have HI2 := hid hok.2.1
                  have HI3 := hid hok.2.2.1
                  obtain ⟨b, o, rfl, hc⟩ := (HG.out.below L1.out).at hget
                  have HC := hid hc
                  obtain ⟨kk, hkk⟩ : ∃ kk, r.kind = kk := ⟨_, rfl⟩
                  have HKK := hid hkk
                  obtain ⟨gn, hgn⟩ : ∃ x, g r.next = x := ⟨_, rfl⟩
                  obtain ⟨go, hgo⟩ : ∃ x, g r.other = x := ⟨_, rfl⟩
                  obtain ⟨tb, htb⟩ : ∃ x, twoB kk = x := ⟨_, rfl⟩
                  have HGN := hid hgn
                  have HGO := hid hgo
                  have HTW : Hid (twoB r.kind = tb) := by unfold Hid; rw [hkk]; exact htb
                  have HCE : Hid (condE g r = (kk == 90 || gn || tb && go)) := by unfold Hid condE; rw [hkk, hgn, hgo, htb]
                  have yes : Hid (condE g r = true → foldT l (roundsE l u) (t + 1) = upd g r.id true) := fun h => HFM.out.trans (step_yes h)
                  have no : Hid (condE g r = false → foldT l (roundsE l u) (t + 1) = g) := fun h => HFM.out.trans (step_no h)
                  have hn6 : n < 1000000 := by omega
                  clear hok hget hr hg hc hkk hgn hgo htl htb
                  have K1 : Hid True := trivial
                  have KA : Hid True := trivial
                  by_cases h9 : kk = 90
                  · subst h9
                    have HA := hid (yes.out (by rw [HCE.out]; simp))
                    clear yes no HCE HFM
                    go_wp2_with (first | (at_mapUpdate; refine storeB _ _ _ rfl (wanted_none' rfl _) M4.out hn6 r.id true rfl rfl rfl HI0.out ?_; intro w9 m9 g9; have M9 := hid m9; have L9 := hid (L4.out.grown g9 L4.out.size (fun q hq => by cases hq; exact HBM.out)); clear m9 g9) | (have kill := V3.out; refine st34 (r := r) (w0 := wr) V3.out L3.out hb3 rfl _ _ rfl rfl rfl ?_; intro w4 v4 l4; have d0 := v4.cell 0 (v := .int .i64 r.id) rfl; have d1 := v4.cell 1 (v := .int .u8 r.kind) rfl; rw [HKK.out] at d1; have d2 := v4.cell 2 (v := .int .i64 r.next) rfl; have d3 := v4.cell 3 (v := .int .i64 r.other) rfl; have V4 := hid v4; have L4 := hid (sq L1.out l4); have M4 := hid (MB1.out.below l4); clear v4 l4 kill V3 L3) | (have kill := HC.out; refine ldS kill rfl _ rfl rfl ?_; clear kill HC) | (have kill := KA.out; refine al34 rfl rfl ?_; clear kill KA; intro b3 w3 hb3 v3 l3; have V3 := hid v3; have L3 := hid l3; clear v3 l3))
                    go_roundw
                    case rel => exact ⟨t + 1, n + 1, by omega, by go_num, by omega, by rw [HA.out]; exact M9.out, L9.out⟩
                    case measure => simp [intOf]; omega
                  · have e1 : (kk == 90) = false := by simpa using h9
                    clear h9
                    cases gn
                    · cases tb
                      · have X : Hid True := trivial
                        have HA := hid (no.out (by rw [HCE.out, e1]; rfl))
                        clear yes no HCE HFM
                        go_wp2_with (first | (go_at_call 20; have kill := K2.out; refine (two20 r _).mono ?_; rintro e w8 ⟨rfl, l8⟩; rw [HTW.out]; have L8 := hid (sq L4.out l8); have M8 := hid (M4.out.below l8); have V8 := hid (V4.out.below l8); have d4 := celk d3 l8; have d5 := celk d0 l8; have K3 : Hid True := trivial; clear l8 kill K2 V4 d3 d0) | (have kill := K2.out; refine ldw34 V4.out _ rfl (by kernel_rfl) rfl ?_) | (at_lookup; have kill := K1.out; refine lookB _ _ rfl (by kernel_rfl) M4.out r.next rfl rfl HI2.out ?_; rw [HGN.out]; clear kill K1; have K2 : Hid True := trivial) | (have kill := V3.out; refine st34 (r := r) (w0 := wr) V3.out L3.out hb3 rfl _ _ rfl rfl rfl ?_; intro w4 v4 l4; have d0 := v4.cell 0 (v := .int .i64 r.id) rfl; have d1 := v4.cell 1 (v := .int .u8 r.kind) rfl; rw [HKK.out] at d1; have d2 := v4.cell 2 (v := .int .i64 r.next) rfl; have d3 := v4.cell 3 (v := .int .i64 r.other) rfl; have V4 := hid v4; have L4 := hid (sq L1.out l4); have M4 := hid (MB1.out.below l4); clear v4 l4 kill V3 L3) | (have kill := HC.out; refine ldS kill rfl _ rfl rfl ?_; clear kill HC) | (have kill := KA.out; refine al34 rfl rfl ?_; clear kill KA; intro b3 w3 hb3 v3 l3; have V3 := hid v3; have L3 := hid l3; clear v3 l3))
                        go_roundw
                        case rel => exact ⟨t + 1, n, by omega, by go_num, by omega, by rw [HA.out]; exact M8.out, L8.out⟩
                        case measure => simp [intOf]; omega
                      · cases go
                        · have X : Hid True := trivial
                          have HA := hid (no.out (by rw [HCE.out, e1]; rfl))
                          clear yes no HCE HFM
                          go_wp2_with (first | (at_lookup; have kill := K3.out; refine lookB _ _ rfl (by kernel_rfl) M8.out r.other rfl rfl HI3.out ?_; rw [HGO.out]; clear kill K3) | (go_at_call 20; have kill := K2.out; refine (two20 r _).mono ?_; rintro e w8 ⟨rfl, l8⟩; rw [HTW.out]; have L8 := hid (sq L4.out l8); have M8 := hid (M4.out.below l8); have V8 := hid (V4.out.below l8); have d4 := celk d3 l8; have d5 := celk d0 l8; have K3 : Hid True := trivial; clear l8 kill K2 V4 d3 d0) | (have kill := K2.out; refine ldw34 V4.out _ rfl (by kernel_rfl) rfl ?_) | (at_lookup; have kill := K1.out; refine lookB _ _ rfl (by kernel_rfl) M4.out r.next rfl rfl HI2.out ?_; rw [HGN.out]; clear kill K1; have K2 : Hid True := trivial) | (have kill := V3.out; refine st34 (r := r) (w0 := wr) V3.out L3.out hb3 rfl _ _ rfl rfl rfl ?_; intro w4 v4 l4; have d0 := v4.cell 0 (v := .int .i64 r.id) rfl; have d1 := v4.cell 1 (v := .int .u8 r.kind) rfl; rw [HKK.out] at d1; have d2 := v4.cell 2 (v := .int .i64 r.next) rfl; have d3 := v4.cell 3 (v := .int .i64 r.other) rfl; have V4 := hid v4; have L4 := hid (sq L1.out l4); have M4 := hid (MB1.out.below l4); clear v4 l4 kill V3 L3) | (have kill := HC.out; refine ldS kill rfl _ rfl rfl ?_; clear kill HC) | (have kill := KA.out; refine al34 rfl rfl ?_; clear kill KA; intro b3 w3 hb3 v3 l3; have V3 := hid v3; have L3 := hid l3; clear v3 l3))
                          go_roundw
                          case rel => exact ⟨t + 1, n, by omega, by go_num, by omega, by rw [HA.out]; exact M8.out, L8.out⟩
                          case measure => simp [intOf]; omega
                        · have X : Hid True := trivial
                          have HA := hid (yes.out (by rw [HCE.out, e1]; simp))
                          clear yes no HCE HFM
                          go_wp2_with (first | (at_mapUpdate; refine storeB _ _ _ rfl (wanted_none' rfl _) M8.out hn6 r.id true rfl rfl rfl HI0.out ?_; intro w9 m9 g9; have M9 := hid m9; have L9 := hid (L8.out.grown g9 L8.out.size (fun q hq => by cases hq; exact HBM.out)); clear m9 g9) | (at_lookup; have kill := K3.out; refine lookB _ _ rfl (by kernel_rfl) M8.out r.other rfl rfl HI3.out ?_; rw [HGO.out]; clear kill K3) | (go_at_call 20; have kill := K2.out; refine (two20 r _).mono ?_; rintro e w8 ⟨rfl, l8⟩; rw [HTW.out]; have L8 := hid (sq L4.out l8); have M8 := hid (M4.out.below l8); have V8 := hid (V4.out.below l8); have d4 := celk d3 l8; have d5 := celk d0 l8; have K3 : Hid True := trivial; clear l8 kill K2 V4 d3 d0) | (have kill := K2.out; refine ldw34 V4.out _ rfl (by kernel_rfl) rfl ?_) | (at_lookup; have kill := K1.out; refine lookB _ _ rfl (by kernel_rfl) M4.out r.next rfl rfl HI2.out ?_; rw [HGN.out]; clear kill K1; have K2 : Hid True := trivial) | (have kill := V3.out; refine st34 (r := r) (w0 := wr) V3.out L3.out hb3 rfl _ _ rfl rfl rfl ?_; intro w4 v4 l4; have d0 := v4.cell 0 (v := .int .i64 r.id) rfl; have d1 := v4.cell 1 (v := .int .u8 r.kind) rfl; rw [HKK.out] at d1; have d2 := v4.cell 2 (v := .int .i64 r.next) rfl; have d3 := v4.cell 3 (v := .int .i64 r.other) rfl; have V4 := hid v4; have L4 := hid (sq L1.out l4); have M4 := hid (MB1.out.below l4); clear v4 l4 kill V3 L3) | (have kill := HC.out; refine ldS kill rfl _ rfl rfl ?_; clear kill HC) | (have kill := KA.out; refine al34 rfl rfl ?_; clear kill KA; intro b3 w3 hb3 v3 l3; have V3 := hid v3; have L3 := hid l3; clear v3 l3))
                          go_roundw
                          case rel => exact ⟨t + 1, n + 1, by omega, by go_num, by omega, by rw [HA.out]; exact M9.out, L9.out⟩
                          case measure => simp [intOf]; omega
                    · have X : Hid True := trivial
                      have HA := hid (yes.out (by rw [HCE.out, e1]; simp))
                      clear yes no HCE HFM
                      go_wp2_with (first | (at_mapUpdate; refine storeB _ _ _ rfl (wanted_none' rfl _) M4.out hn6 r.id true rfl rfl rfl HI0.out ?_; intro w9 m9 g9; have M9 := hid m9; have L9 := hid (L4.out.grown g9 L4.out.size (fun q hq => by cases hq; exact HBM.out)); clear m9 g9) | (at_lookup; have kill := K1.out; refine lookB _ _ rfl (by kernel_rfl) M4.out r.next rfl rfl HI2.out ?_; rw [HGN.out]; clear kill K1; have K2 : Hid True := trivial) | (have kill := V3.out; refine st34 (r := r) (w0 := wr) V3.out L3.out hb3 rfl _ _ rfl rfl rfl ?_; intro w4 v4 l4; have d0 := v4.cell 0 (v := .int .i64 r.id) rfl; have d1 := v4.cell 1 (v := .int .u8 r.kind) rfl; rw [HKK.out] at d1; have d2 := v4.cell 2 (v := .int .i64 r.next) rfl; have d3 := v4.cell 3 (v := .int .i64 r.other) rfl; have V4 := hid v4; have L4 := hid (sq L1.out l4); have M4 := hid (MB1.out.below l4); clear v4 l4 kill V3 L3) | (have kill := HC.out; refine ldS kill rfl _ rfl rfl ?_; clear kill HC) | (have kill := KA.out; refine al34 rfl rfl ?_; clear kill KA; intro b3 w3 hb3 v3 l3; have V3 := hid v3; have L3 := hid l3; clear v3 l3))
                      go_roundw
                      case rel => exact ⟨t + 1, n + 1, by omega, by go_num, by omega, by rw [HA.out]; exact M9.out, L9.out⟩
                      case measure => simp [intOf]; omega
                · obtain rfl : len = t := by omega
                  have hfa := fold_all (l := l) (u := u) HQ.out
                  rw [hfa] at MB1
                  clear hfa
                  go_wp2
                  go_roundw
                  case rel => exact ⟨u + 1, n, by omega, by go_num, by omega, MB1.out, L1.out⟩
                  case measure => simp [intOf]; omega
            · have hul : u = len + 1 := by omega
              have MB1 : Hid (MB wr bm n (endF l)) := by
                unfold Hid endF; rw [HQ.out, ← hul]; exact MB0.out
              have L1 := hid L2.out
              clear MB0 L2 hul
              go_wp2
              go_loop [15] (fun i => ∃ t : Nat, t ≤ len ∧ i = .int .i64 (t : Int) ∧ ∀ p, p < t → endF l (sAt l p).id = true) (fun i => len - (intOf i).toNat)
              case atStart => exact ⟨0, by omega, rfl, fun _ h => by omega⟩
              case round =>
                obtain ⟨t, ht, rfl, hh⟩ := hrel
                have HH := hid hh
                clear hh
                by_cases hlt2 : t < len
                · have htl : t < l.length := by rw [HQ.out]; exact hlt2
                  have hget := sAt_get htl
                  obtain ⟨r, hr⟩ : ∃ r, sAt l t = r := ⟨_, rfl⟩
                  have hok := HOK.out t
                  rw [hr] at hget hok
                  have HI0 := hid hok.1
                  obtain ⟨b, o, rfl, hc⟩ := (HG.out.below L1.out).at hget
                  have c0 := hc 0 _ (rfl : r.cells[0]? = some (.int .i64 r.id))
                  rw [Nat.add_zero] at c0
                  cases hd : endF l r.id
                  · have HD := hid hd
                    have HA := hid (check_state ND2.out NN2.out htl (by rw [hr]; exact hd) HH.out)
                    clear hd htl hget hr hok hc
                    go_wp2_with (at_lookup; refine lookB _ _ rfl (wanted_none' rfl _) MB1.out r.id rfl rfl HI0.out ?_; rw [HD.out])
                    go_ret2
                    exact ⟨ck_of HA.out, L1.out⟩
                  · have HD := hid hd
                    have HH2 := hid (upto (p := fun p => endF l (sAt l p).id = true) HH.out (by rw [hr]; exact hd))
                    clear hd htl hget hr hok hc
                    go_wp2_with (at_lookup; refine lookB _ _ rfl (wanted_none' rfl _) MB1.out r.id rfl rfl HI0.out ?_; rw [HD.out])
                    go_round
                    case rel => exact ⟨t + 1, by omega, by go_num, HH2.out⟩
                    case measure => simp [intOf]; omega
                · have HA := hid (check_ok ND2.out NN2.out (fun p hp => HH.out p (by rw [HQ.out] at hp; omega)))
                  go_wp2
                  go_ret2
                  exact ⟨ck_of HA.out, L1.out⟩
end Go.Proofs.Ythhgochnlbiaaaa
