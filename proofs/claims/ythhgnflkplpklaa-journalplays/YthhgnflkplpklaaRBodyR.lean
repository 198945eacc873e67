/- The document's body of a record. -/
import Derived.Test.YthhgnflkplpklaaRFace
import Derived.Deep.CutRange
namespace Go.Proofs.Ythhgnflkplpklaa.Frm
set_option maxRecDepth 20000
open Go.ChangeShapes Go.WideShapes Go.ChangeAt Go.RowKit

theorem Mk.wide {w0 w w' : World} {v : Value} {n : Nat} {l : List Int} (hb : Below w0.heap.size w0 w) (h : Mk w w' v n l) : Mk w0 w' v n l := ⟨h.1.mono hb.size, sq hb h.2⟩
theorem kept27 {B : Nat} {w w' : World} {v : Value} {n q : Nat} {l : List Int} {C : Array Value} (h : Row B w v n l) (hq : w.heap[q]? = some (.cells C 48 (0, 0))) (ht : Turned (fun k => v.ownBlock = some k) w w') : w'.heap[q]? = some (.cells C 48 (0, 0)) := by
  have hlt : q < w.heap.size := (Array.getElem?_eq_some_iff.1 hq).1
  rw [ht.block q hlt (fun e => by
    rcases h.2 with ⟨rfl, _⟩ | ⟨g, _, cur, rfl, _, hc, _⟩
    · cases e
    · cases e; rw [hq] at hc; cases hc)]
  exact hq
theorem kept27b {w w' : World} {q : Nat} {C : Array Value} (hq : w.heap[q]? = some (.cells C 48 (0, 0))) (hb : Below w.heap.size w w') : w'.heap[q]? = some (.cells C 48 (0, 0)) := by
  rw [hb.block q (Array.getElem?_eq_some_iff.1 hq).1]; exact hq
theorem cell27 {w : World} {q : Nat} {C : Array Value} (hq : w.heap[q]? = some (.cells C 48 (0, 0))) (i : Nat) {x : Value} (h : C[i]? = some x) : w.cell? ⟨q, i, none⟩ = some x := by rw [cell_of_head hq]; exact h
def cA (r : Rc) : Nat → List Int
  | 0 => []
  | 1 => cntL r.n0 r.n1 r.n2 r.n3
  | 2 => cntL r.n0 r.n1 r.n2 r.n3 ++ cntL r.j0 r.j1 r.j2 r.j3
  | _ => cntL r.n0 r.n1 r.n2 r.n3 ++ cntL r.j0 r.j1 r.j2 r.j3 ++ cntL r.l0 r.l1 r.l2 r.l3
def c12 (r : Rc) : Array Value := #[.int .i64 r.n0, .int .i64 r.n1, .int .i64 r.n2, .int .i64 r.n3, .int .i64 r.j0, .int .i64 r.j1, .int .i64 r.j2, .int .i64 r.j3, .int .i64 r.l0, .int .i64 r.l1, .int .i64 r.l2, .int .i64 r.l3]
def bsL (r : Rc) : List Int := bytesL r.kind 1 ++ bytesL r.term 2 ++ bytesL r.stan 4 ++ bytesL r.amt 4
theorem bytesL1 {v : Int} (h : 0 ≤ v ∧ v < 256) : bytesL v 1 = [v] := by rw [cons_bytes1]; congr 1; omega
set_option maxRecDepth 10000 in
set_option maxHeartbeats 4000000 in
theorem bodyR_to (r : Rc) (w : World) (N : Nat) (hN : 36 + r.pan.size = N) (hr : Rt r) (ho : r.Ok) :
    Calls Try.prog 49 #[r.val] w fun e w' => ∃ ao cap, e = .returned (.slice ao N cap) ∧ Mk w w' (.slice ao N cap) N (bodyL r) := by
  obtain ⟨h1a, h1b⟩ := hr.kind
  have h2 := hr.size
  obtain ⟨h3a, h3b⟩ := hr.amt
  obtain ⟨⟨h4a, h4b⟩, ⟨h5a, h5b⟩⟩ := ho
  have HN3 := hid hr.n
  have HJ3 := hid hr.j
  have HL3 := hid hr.l
  have HNN := hid hN
  have hk1 : IntKind.u8.wrap r.kind = r.kind := by rw [IntKind.wrap_u8]; omega
  have hk2 : IntKind.u64.wrap r.term = r.term := by rw [IntKind.wrap_u64]; omega
  have HB1 := hid (bytesL1 (v := r.kind) (by omega))
  clear hr hN
  go_enter Try.func49, Try.ntmps49
  go_wp2_with (refine bx29 (r := r) rfl _ rfl rfl ?_; intro b1 w0 hb1 rv0 bl0; have RV0 := hid rv0; have BL0 := hid bl0; clear rv0 bl0 hb1)
  have c0 := RV0.out.recAt.c0
  have c1 := RV0.out.recAt.c1
  go_cut [3] from 7 to 16 (fun v wx => ∃ ao cap, v = .slice ao 3 cap ∧ Mk w0 wx (.slice ao 3 cap) 3 (bytesL r.kind 1 ++ bytesL r.term 2))
  case first =>
    refine wp_region_noPanic ?_
    refine wp_region_held_drew (S := (fun w' => w'.cell? ⟨b1, 0, none⟩ = some (.int .i64 r.kind) ∧ w'.cell? ⟨b1, 1, none⟩ = some (.int .u16 r.term))) (by kernel_rfl) (⟨c0, c1⟩) (fun hHeld => ?_)
    (refine tk_yes (v := ?_) 0 (some 7) rfl rfl (by kernel_rfl) (by kernel_rfl) (by kernel_rfl) (fun _ _ _ h => h) (by rfl) ?_ hHeld ?_; rotate_left; focus (intro w hSw; go_simp; try with_reducible rfl))
    simp only [Act.put, List.setIfInBounds_toArray, List.set_cons_zero, List.set_cons_succ]
    (refine tk_yes (v := ?_) 1 (some 8) rfl rfl (by kernel_rfl) (by kernel_rfl) (by kernel_rfl) (fun _ _ _ h => h) (by rfl) ?_ hHeld ?_; rotate_left; focus (intro w hSw; go_simp; try with_reducible rfl))
    simp only [Act.put, List.setIfInBounds_toArray, List.set_cons_zero, List.set_cons_succ]
    (refine tk_yes (v := ?_) 2 (some 9) rfl rfl (by kernel_rfl) (by kernel_rfl) (by kernel_rfl) (fun _ _ _ h => h) (by rfl) ?_ hHeld ?_; rotate_left; focus (intro w hSw; go_simp; try with_reducible rfl))
    simp only [Act.put, List.setIfInBounds_toArray, List.set_cons_zero, List.set_cons_succ]
    (refine tk_yes (v := ?_) 4 (some 11) rfl rfl (by kernel_rfl) (by kernel_rfl) (by kernel_rfl) (fun _ _ _ h => h) (by rfl) ?_ hHeld ?_; rotate_left; focus (intro w hSw; go_simp; try with_reducible rfl))
    simp only [Act.put, List.setIfInBounds_toArray, List.set_cons_zero, List.set_cons_succ]
    (refine tk_yes (v := ?_) 5 (some 12) rfl rfl (by kernel_rfl) (by kernel_rfl) (by kernel_rfl) (fun _ _ _ h => h) (by rfl) ?_ hHeld ?_; rotate_left; focus (intro w hSw; go_simp; try with_reducible rfl))
    simp only [Act.put, List.setIfInBounds_toArray, List.set_cons_zero, List.set_cons_succ]
    (refine tk_yes (v := ?_) 6 (some 13) rfl rfl (by kernel_rfl) (by kernel_rfl) (by kernel_rfl) (fun _ _ _ h => h) (by rfl) ?_ hHeld ?_; rotate_left; focus (intro w hSw; go_simp; try with_reducible rfl))
    simp only [Act.put, List.setIfInBounds_toArray, List.set_cons_zero, List.set_cons_succ]
    (refine tk_yes (v := ?_) 7 (some 14) rfl rfl (by kernel_rfl) (by kernel_rfl) (by kernel_rfl) (fun _ _ _ h => h) (by rfl) ?_ hHeld ?_; rotate_left; focus (intro w hSw; go_simp; try with_reducible rfl))
    simp only [Act.put, List.setIfInBounds_toArray, List.set_cons_zero, List.set_cons_succ]
    refine wpAnyH_ready (rs := [3, 8]) (by kernel_rfl) (by simp) ?_
    refine AllReadyH.cons rfl (fun K hK => ?_) (AllReadyH.cons rfl (fun K hK => ?_) AllReadyH.nil)
    · -- the slice is made first
      go_simp
      have MB := hid ((Mk.new w0 [r.kind] 1 rfl (by omega)).more (Below.refl _ _).drew)
      have e1 : w0.alloc (Obj.cells #[Value.int IntKind.u8 r.kind] 5) = w0.alloc (.cells (cellsOf [r.kind]) 5) := rfl
      rw [← e1] at MB
      clear e1
      generalize (w0.alloc (Obj.cells #[Value.int IntKind.u8 r.kind] 5)).drew = w1 at *
      refine hK.out _ _ (⟨(RV0.out.below MB.out.2).recAt.c0, (RV0.out.below MB.out.2).recAt.c1⟩) (fun hHeld => ?_)
      clear hK K
      try simp only [Act.put, List.setIfInBounds_toArray, List.set_cons_zero, List.set_cons_succ]
      refine wpAnyH_ready (rs := [8]) (by kernel_rfl) (by simp) ?_
      refine AllReadyH.cons rfl (fun K hK => ?_) AllReadyH.nil
      go_simp
      go_at_call 50
      refine (put_at r.term 2 _ (by omega) (by omega) h4a (by omega)).mono ?_
      rintro e w2 ⟨b2, rfl, r2, l2⟩
      have MB2 := hid (MB.out.more l2)
      have PR := hid r2
      clear l2 r2
      go_wp2_with fail
      refine hK.out _ _ (⟨(RV0.out.below MB2.out.2).recAt.c0, (RV0.out.below MB2.out.2).recAt.c1⟩) (fun hHeld => ?_)
      clear hK K
      try simp only [Act.put, List.setIfInBounds_toArray, List.set_cons_zero, List.set_cons_succ]
      refine wpAnyH_ready (rs := [9]) (by kernel_rfl) (by simp) ?_
      refine AllReadyH.cons (o := { dst := some 16, op := _, type := _, pos := _, after := _, guard := none }) rfl (fun K hK => ?_) AllReadyH.nil
      refine app_row_step MB2.out.1 PR.out (bytesL_length _ _) MB2.out.2.size (by omega) rfl _ _ rfl rfl rfl ?_
      intro ao4 cap4 w4 r4 t4
      have D4 := hid (MB2.out.next r4 t4)
      clear r4 t4
      refine hK.out _ _ (⟨(RV0.out.below D4.out.2).recAt.c0, (RV0.out.below D4.out.2).recAt.c1⟩) (fun hHeld => ?_)
      clear hK K
      try simp only [Act.put, List.setIfInBounds_toArray, List.set_cons_zero, List.set_cons_succ]
      (refine tk_yes (v := ?_) 10 (some 3) rfl rfl (by kernel_rfl) (by kernel_rfl) (by kernel_rfl) (fun _ _ _ h => h) (by rfl) ?_ hHeld ?_; rotate_left; focus (intro w hSw; go_simp; try with_reducible rfl))
      simp only [Act.put, List.setIfInBounds_toArray, List.set_cons_zero, List.set_cons_succ]
      refine wpAnyH_done (by kernel_rfl) ?_ _
      refine NoPanic.normal ?_
      go_wp2
      go_meet
      exact ⟨ao4, cap4, rfl, by have := D4.out; rwa [HB1.out]⟩
    · -- the bytes are made first
      go_simp
      go_at_call 50
      refine (put_at r.term 2 _ (by omega) (by omega) h4a (by omega)).mono ?_
      rintro e w2 ⟨b2, rfl, r2, l2⟩
      have LB := hid (sq (Below.refl _ w0).drew l2)
      have PR0 := hid r2
      clear l2 r2
      go_wp2_with fail
      refine hK.out _ _ (⟨(RV0.out.below LB.out).recAt.c0, (RV0.out.below LB.out).recAt.c1⟩) (fun hHeld => ?_)
      clear hK K
      try simp only [Act.put, List.setIfInBounds_toArray, List.set_cons_zero, List.set_cons_succ]
      refine wpAnyH_ready (rs := [3]) (by kernel_rfl) (by simp) ?_
      refine AllReadyH.cons rfl (fun K hK => ?_) AllReadyH.nil
      go_simp
      have mb : Mk w2 (w2.alloc (Obj.cells #[Value.int IntKind.u8 r.kind] 5)) (.slice (some ⟨w2.heap.size, 0, none⟩) 1 1) 1 [r.kind] := Mk.new w2 [r.kind] 1 rfl (by omega)
      have MB2 := hid (Mk.wide LB.out mb)
      clear mb
      have PR := hid (row_mono (bel1 w2 (Obj.cells #[Value.int IntKind.u8 r.kind] 5)) PR0.out)
      generalize w2.alloc (Obj.cells #[Value.int IntKind.u8 r.kind] 5) = w3 at *
      refine hK.out _ _ (⟨(RV0.out.below MB2.out.2).recAt.c0, (RV0.out.below MB2.out.2).recAt.c1⟩) (fun hHeld => ?_)
      clear hK K
      try simp only [Act.put, List.setIfInBounds_toArray, List.set_cons_zero, List.set_cons_succ]
      refine wpAnyH_ready (rs := [9]) (by kernel_rfl) (by simp) ?_
      refine AllReadyH.cons (o := { dst := some 16, op := _, type := _, pos := _, after := _, guard := none }) rfl (fun K hK => ?_) AllReadyH.nil
      refine app_row_step MB2.out.1 PR.out (bytesL_length _ _) MB2.out.2.size (by omega) rfl _ _ rfl rfl rfl ?_
      intro ao4 cap4 w4 r4 t4
      have D4 := hid (MB2.out.next r4 t4)
      clear r4 t4
      refine hK.out _ _ (⟨(RV0.out.below D4.out.2).recAt.c0, (RV0.out.below D4.out.2).recAt.c1⟩) (fun hHeld => ?_)
      clear hK K
      try simp only [Act.put, List.setIfInBounds_toArray, List.set_cons_zero, List.set_cons_succ]
      (refine tk_yes (v := ?_) 10 (some 3) rfl rfl (by kernel_rfl) (by kernel_rfl) (by kernel_rfl) (fun _ _ _ h => h) (by rfl) ?_ hHeld ?_; rotate_left; focus (intro w hSw; go_simp; try with_reducible rfl))
      simp only [Act.put, List.setIfInBounds_toArray, List.set_cons_zero, List.set_cons_succ]
      refine wpAnyH_done (by kernel_rfl) ?_ _
      refine NoPanic.normal ?_
      go_wp2
      go_meet
      exact ⟨ao4, cap4, rfl, by have := D4.out; rwa [HB1.out]⟩
  case rest =>
    obtain ⟨ao1, cap1, rfl, d1⟩ := hcut
    have D1 := hid d1
    have c2 := (RV0.out.below d1.2).recAt.c2
    clear d1 c0 c1
    go_wp2_with (first | (at_builtin; refine app_row D5.out.1 P5.out (bytesL_length _ _) (fun e => by cases e) D5.out.2.size (by omega) rfl _ _ rfl rfl rfl ?_; intro ao6 cap6 w6 r6 t6; have D6 := hid (D5.out.next r6 t6); obtain ⟨_, _, _, _, _, x5, x6, x7, x8, x9, x10, x11, x12, x13, x14, x15, x16⟩ := (RV0.out.below D6.out.2).recAt; clear r6 t6) | (at_builtin; refine app_row D3.out.1 P3.out (bytesL_length _ _) (fun e => by cases e) D3.out.2.size (by omega) rfl _ _ rfl rfl rfl ?_; intro ao4 cap4 w4 r4 t4; have D4 := hid (D3.out.next r4 t4); have c4 := (RV0.out.below D4.out.2).recAt.c4; clear r4 t4) | (go_at_call 50; refine (put_at r.amt 4 w4 (by omega) (by omega) h3a (by omega)).mono ?_; rintro e w5 ⟨b5, rfl, r5, l5⟩; have D5 := hid (D4.out.more l5); have P5 := hid r5; clear r5 l5) | (go_at_call 50; refine (put_at r.stan 4 wc (by omega) (by omega) h5a (by omega)).mono ?_; rintro e w3 ⟨b3, rfl, r3, l3⟩; have D3 := hid (D1.out.more l3); have P3 := hid r3; clear r3 l3))
    obtain ⟨q, hq⟩ : ∃ q, w6.heap.size = q := ⟨_, rfl⟩
    have Q7 : Hid ((w6.alloc (.cells (c12 r) 48)).heap[q]? = some (.cells (c12 r) 48 (0, 0))) := by rw [← hq]; exact hid (heap_alloc_new w6 _)
    have D7 := hid (D6.out.more (bel1 w6 (.cells (c12 r) 48)))
    have e7 : w6.alloc (Obj.cells #[.int .i64 r.n0, .int .i64 r.n1, .int .i64 r.n2, .int .i64 r.n3, .int .i64 r.j0, .int .i64 r.j1, .int .i64 r.j2, .int .i64 r.j3, .int .i64 r.l0, .int .i64 r.l1, .int .i64 r.l2, .int .i64 r.l3] 48) = w6.alloc (.cells (c12 r) 48) := rfl
    rw [e7, hq]
    clear e7 x5 x6 x7 x8 x9 x10 x11 x12 x13 x14 x15 x16 hq c2 c4
    generalize w6.alloc (.cells (c12 r) 48) = w7 at *
    go_loopw [3, 5] (fun out i wr => ∃ (t : Nat) (ao : Option Addr) (cap : Nat), t ≤ 3 ∧ i = .int .i64 (t : Int) ∧ out = .slice ao (11 + 8 * t) cap ∧ Mk w0 wr (.slice ao (11 + 8 * t) cap) (11 + 8 * t) (bsL r ++ cA r t) ∧ wr.heap[q]? = some (.cells (c12 r) 48 (0, 0))) (fun _ i _ => 3 - (intOf i).toNat)
    case atStart => exact ⟨0, ao6, cap6, by omega, rfl, rfl, by have := D7.out; rw [cA, List.append_nil]; exact this, Q7.out⟩
    case round =>
      obtain ⟨t, ao, cap, ht, rfl, rfl, hD, hQ⟩ := hrel
      have D := hid hD
      have QQ := hid hQ
      clear hD hQ D7 Q7
      by_cases hlt : t < 3
      · have h3 : t = 0 ∨ t = 1 ∨ t = 2 := by omega
        rcases h3 with rfl | rfl | rfl
        · obtain ⟨⟨y0, y0'⟩, ⟨y1, y1'⟩, ⟨y2, y2'⟩, ⟨y3, y3'⟩⟩ := HN3.out
          have D0 : Hid (Mk w0 wr (.slice ao 11 cap) 11 (bsL r ++ cA r 0)) := D
          rw [show ((0 : Nat) : Int) = 0 from rfl]
          go_wp2
          generalize wr = wo at *
          go_loopw [3, 6] (fun out i wr => ∃ (s : Nat) (ao : Option Addr) (cap : Nat), s ≤ 4 ∧ i = .int .i64 (s : Int) ∧ out = .slice ao (11 + 2 * s) cap ∧ Mk w0 wr (.slice ao (11 + 2 * s) cap) (11 + 2 * s) ((bsL r ++ cA r 0) ++ cntK r.n0 r.n1 r.n2 r.n3 s) ∧ wr.heap[q]? = some (.cells (c12 r) 48 (0, 0))) (fun _ i _ => 4 - (intOf i).toNat)
          case atStart => exact ⟨0, ao, cap, by omega, rfl, rfl, by have := D0.out; rw [cntK, List.append_nil]; exact this, QQ.out⟩
          case round =>
            obtain ⟨s, ao', cap', hs, rfl, rfl, hE, hR⟩ := hrel
            have E := hid hE
            have RR := hid hR
            clear hE hR D D0 QQ
            by_cases hlt2 : s < 4
            · have h4 : s = 0 ∨ s = 1 ∨ s = 2 ∨ s = 3 := by omega
              rcases h4 with rfl | rfl | rfl | rfl
              · have E0 : Hid (Mk w0 wr (.slice ao' 11 cap') 11 ((bsL r ++ cA r 0) ++ cntK r.n0 r.n1 r.n2 r.n3 0)) := E
                have cx := cell27 RR.out 0 (x := .int .i64 r.n0) rfl
                go_wp2_with (first | (at_builtin; refine app_row E1.out.1 P1.out (bytesL_length _ _) (fun e => by cases e) E1.out.2.size (by omega) rfl _ _ rfl rfl rfl ?_; intro ao3 cap3 w3 r3 t3; have E3 := hid (E1.out.next r3 t3); have R3 := hid (kept27 E1.out.1 R1.out t3); clear r3 t3) | (go_at_call 50; refine (put_at r.n0 2 _ (by omega) (by omega) y0 (by omega)).mono ?_; rintro e w2 ⟨b2, rfl, r2, l2⟩; have E1 := hid (E0.out.more l2); have P1 := hid r2; have R1 := hid (kept27b RR.out l2); clear r2 l2))
                go_roundw
                case rel => exact ⟨1, ao3, cap3, by omega, by go_num, rfl, by have := E3.out; rwa [List.append_assoc] at this, R3.out⟩
                case measure => simp [intOf]
              · have E0 : Hid (Mk w0 wr (.slice ao' 13 cap') 13 ((bsL r ++ cA r 0) ++ cntK r.n0 r.n1 r.n2 r.n3 1)) := E
                have cx := cell27 RR.out 1 (x := .int .i64 r.n1) rfl
                go_wp2_with (first | (at_builtin; refine app_row E1.out.1 P1.out (bytesL_length _ _) (fun e => by cases e) E1.out.2.size (by omega) rfl _ _ rfl rfl rfl ?_; intro ao3 cap3 w3 r3 t3; have E3 := hid (E1.out.next r3 t3); have R3 := hid (kept27 E1.out.1 R1.out t3); clear r3 t3) | (go_at_call 50; refine (put_at r.n1 2 _ (by omega) (by omega) y1 (by omega)).mono ?_; rintro e w2 ⟨b2, rfl, r2, l2⟩; have E1 := hid (E0.out.more l2); have P1 := hid r2; have R1 := hid (kept27b RR.out l2); clear r2 l2))
                go_roundw
                case rel => exact ⟨2, ao3, cap3, by omega, by go_num, rfl, by have := E3.out; rwa [List.append_assoc] at this, R3.out⟩
                case measure => simp [intOf]
              · have E0 : Hid (Mk w0 wr (.slice ao' 15 cap') 15 ((bsL r ++ cA r 0) ++ cntK r.n0 r.n1 r.n2 r.n3 2)) := E
                have cx := cell27 RR.out 2 (x := .int .i64 r.n2) rfl
                go_wp2_with (first | (at_builtin; refine app_row E1.out.1 P1.out (bytesL_length _ _) (fun e => by cases e) E1.out.2.size (by omega) rfl _ _ rfl rfl rfl ?_; intro ao3 cap3 w3 r3 t3; have E3 := hid (E1.out.next r3 t3); have R3 := hid (kept27 E1.out.1 R1.out t3); clear r3 t3) | (go_at_call 50; refine (put_at r.n2 2 _ (by omega) (by omega) y2 (by omega)).mono ?_; rintro e w2 ⟨b2, rfl, r2, l2⟩; have E1 := hid (E0.out.more l2); have P1 := hid r2; have R1 := hid (kept27b RR.out l2); clear r2 l2))
                go_roundw
                case rel => exact ⟨3, ao3, cap3, by omega, by go_num, rfl, by have := E3.out; rwa [List.append_assoc] at this, R3.out⟩
                case measure => simp [intOf]
              · have E0 : Hid (Mk w0 wr (.slice ao' 17 cap') 17 ((bsL r ++ cA r 0) ++ cntK r.n0 r.n1 r.n2 r.n3 3)) := E
                have cx := cell27 RR.out 3 (x := .int .i64 r.n3) rfl
                go_wp2_with (first | (at_builtin; refine app_row E1.out.1 P1.out (bytesL_length _ _) (fun e => by cases e) E1.out.2.size (by omega) rfl _ _ rfl rfl rfl ?_; intro ao3 cap3 w3 r3 t3; have E3 := hid (E1.out.next r3 t3); have R3 := hid (kept27 E1.out.1 R1.out t3); clear r3 t3) | (go_at_call 50; refine (put_at r.n3 2 _ (by omega) (by omega) y3 (by omega)).mono ?_; rintro e w2 ⟨b2, rfl, r2, l2⟩; have E1 := hid (E0.out.more l2); have P1 := hid r2; have R1 := hid (kept27b RR.out l2); clear r2 l2))
                go_roundw
                case rel => exact ⟨4, ao3, cap3, by omega, by go_num, rfl, by have := E3.out; rwa [List.append_assoc] at this, R3.out⟩
                case measure => simp [intOf]
            · have es : s = 4 := by omega
              subst es
              go_wp2
              go_roundw
              case rel => exact ⟨1, ao', cap', by omega, by go_num, rfl, by have := E.out; rwa [List.append_assoc] at this, RR.out⟩
              case measure => simp [intOf]
        · obtain ⟨⟨y0, y0'⟩, ⟨y1, y1'⟩, ⟨y2, y2'⟩, ⟨y3, y3'⟩⟩ := HJ3.out
          have D0 : Hid (Mk w0 wr (.slice ao 19 cap) 19 (bsL r ++ cA r 1)) := D
          rw [show ((1 : Nat) : Int) = 1 from rfl]
          go_wp2
          generalize wr = wo at *
          go_loopw [3, 6] (fun out i wr => ∃ (s : Nat) (ao : Option Addr) (cap : Nat), s ≤ 4 ∧ i = .int .i64 (s : Int) ∧ out = .slice ao (19 + 2 * s) cap ∧ Mk w0 wr (.slice ao (19 + 2 * s) cap) (19 + 2 * s) ((bsL r ++ cA r 1) ++ cntK r.j0 r.j1 r.j2 r.j3 s) ∧ wr.heap[q]? = some (.cells (c12 r) 48 (0, 0))) (fun _ i _ => 4 - (intOf i).toNat)
          case atStart => exact ⟨0, ao, cap, by omega, rfl, rfl, by have := D0.out; rw [cntK, List.append_nil]; exact this, QQ.out⟩
          case round =>
            obtain ⟨s, ao', cap', hs, rfl, rfl, hE, hR⟩ := hrel
            have E := hid hE
            have RR := hid hR
            clear hE hR D D0 QQ
            by_cases hlt2 : s < 4
            · have h4 : s = 0 ∨ s = 1 ∨ s = 2 ∨ s = 3 := by omega
              rcases h4 with rfl | rfl | rfl | rfl
              · have E0 : Hid (Mk w0 wr (.slice ao' 19 cap') 19 ((bsL r ++ cA r 1) ++ cntK r.j0 r.j1 r.j2 r.j3 0)) := E
                have cx := cell27 RR.out 4 (x := .int .i64 r.j0) rfl
                go_wp2_with (first | (at_builtin; refine app_row E1.out.1 P1.out (bytesL_length _ _) (fun e => by cases e) E1.out.2.size (by omega) rfl _ _ rfl rfl rfl ?_; intro ao3 cap3 w3 r3 t3; have E3 := hid (E1.out.next r3 t3); have R3 := hid (kept27 E1.out.1 R1.out t3); clear r3 t3) | (go_at_call 50; refine (put_at r.j0 2 _ (by omega) (by omega) y0 (by omega)).mono ?_; rintro e w2 ⟨b2, rfl, r2, l2⟩; have E1 := hid (E0.out.more l2); have P1 := hid r2; have R1 := hid (kept27b RR.out l2); clear r2 l2))
                go_roundw
                case rel => exact ⟨1, ao3, cap3, by omega, by go_num, rfl, by have := E3.out; rwa [List.append_assoc] at this, R3.out⟩
                case measure => simp [intOf]
              · have E0 : Hid (Mk w0 wr (.slice ao' 21 cap') 21 ((bsL r ++ cA r 1) ++ cntK r.j0 r.j1 r.j2 r.j3 1)) := E
                have cx := cell27 RR.out 5 (x := .int .i64 r.j1) rfl
                go_wp2_with (first | (at_builtin; refine app_row E1.out.1 P1.out (bytesL_length _ _) (fun e => by cases e) E1.out.2.size (by omega) rfl _ _ rfl rfl rfl ?_; intro ao3 cap3 w3 r3 t3; have E3 := hid (E1.out.next r3 t3); have R3 := hid (kept27 E1.out.1 R1.out t3); clear r3 t3) | (go_at_call 50; refine (put_at r.j1 2 _ (by omega) (by omega) y1 (by omega)).mono ?_; rintro e w2 ⟨b2, rfl, r2, l2⟩; have E1 := hid (E0.out.more l2); have P1 := hid r2; have R1 := hid (kept27b RR.out l2); clear r2 l2))
                go_roundw
                case rel => exact ⟨2, ao3, cap3, by omega, by go_num, rfl, by have := E3.out; rwa [List.append_assoc] at this, R3.out⟩
                case measure => simp [intOf]
              · have E0 : Hid (Mk w0 wr (.slice ao' 23 cap') 23 ((bsL r ++ cA r 1) ++ cntK r.j0 r.j1 r.j2 r.j3 2)) := E
                have cx := cell27 RR.out 6 (x := .int .i64 r.j2) rfl
                go_wp2_with (first | (at_builtin; refine app_row E1.out.1 P1.out (bytesL_length _ _) (fun e => by cases e) E1.out.2.size (by omega) rfl _ _ rfl rfl rfl ?_; intro ao3 cap3 w3 r3 t3; have E3 := hid (E1.out.next r3 t3); have R3 := hid (kept27 E1.out.1 R1.out t3); clear r3 t3) | (go_at_call 50; refine (put_at r.j2 2 _ (by omega) (by omega) y2 (by omega)).mono ?_; rintro e w2 ⟨b2, rfl, r2, l2⟩; have E1 := hid (E0.out.more l2); have P1 := hid r2; have R1 := hid (kept27b RR.out l2); clear r2 l2))
                go_roundw
                case rel => exact ⟨3, ao3, cap3, by omega, by go_num, rfl, by have := E3.out; rwa [List.append_assoc] at this, R3.out⟩
                case measure => simp [intOf]
              · have E0 : Hid (Mk w0 wr (.slice ao' 25 cap') 25 ((bsL r ++ cA r 1) ++ cntK r.j0 r.j1 r.j2 r.j3 3)) := E
                have cx := cell27 RR.out 7 (x := .int .i64 r.j3) rfl
                go_wp2_with (first | (at_builtin; refine app_row E1.out.1 P1.out (bytesL_length _ _) (fun e => by cases e) E1.out.2.size (by omega) rfl _ _ rfl rfl rfl ?_; intro ao3 cap3 w3 r3 t3; have E3 := hid (E1.out.next r3 t3); have R3 := hid (kept27 E1.out.1 R1.out t3); clear r3 t3) | (go_at_call 50; refine (put_at r.j3 2 _ (by omega) (by omega) y3 (by omega)).mono ?_; rintro e w2 ⟨b2, rfl, r2, l2⟩; have E1 := hid (E0.out.more l2); have P1 := hid r2; have R1 := hid (kept27b RR.out l2); clear r2 l2))
                go_roundw
                case rel => exact ⟨4, ao3, cap3, by omega, by go_num, rfl, by have := E3.out; rwa [List.append_assoc] at this, R3.out⟩
                case measure => simp [intOf]
            · have es : s = 4 := by omega
              subst es
              go_wp2
              go_roundw
              case rel => exact ⟨2, ao', cap', by omega, by go_num, rfl, by have := E.out; rwa [List.append_assoc] at this, RR.out⟩
              case measure => simp [intOf]
        · obtain ⟨⟨y0, y0'⟩, ⟨y1, y1'⟩, ⟨y2, y2'⟩, ⟨y3, y3'⟩⟩ := HL3.out
          have D0 : Hid (Mk w0 wr (.slice ao 27 cap) 27 (bsL r ++ cA r 2)) := D
          rw [show ((2 : Nat) : Int) = 2 from rfl]
          go_wp2
          generalize wr = wo at *
          go_loopw [3, 6] (fun out i wr => ∃ (s : Nat) (ao : Option Addr) (cap : Nat), s ≤ 4 ∧ i = .int .i64 (s : Int) ∧ out = .slice ao (27 + 2 * s) cap ∧ Mk w0 wr (.slice ao (27 + 2 * s) cap) (27 + 2 * s) ((bsL r ++ cA r 2) ++ cntK r.l0 r.l1 r.l2 r.l3 s) ∧ wr.heap[q]? = some (.cells (c12 r) 48 (0, 0))) (fun _ i _ => 4 - (intOf i).toNat)
          case atStart => exact ⟨0, ao, cap, by omega, rfl, rfl, by have := D0.out; rw [cntK, List.append_nil]; exact this, QQ.out⟩
          case round =>
            obtain ⟨s, ao', cap', hs, rfl, rfl, hE, hR⟩ := hrel
            have E := hid hE
            have RR := hid hR
            clear hE hR D D0 QQ
            by_cases hlt2 : s < 4
            · have h4 : s = 0 ∨ s = 1 ∨ s = 2 ∨ s = 3 := by omega
              rcases h4 with rfl | rfl | rfl | rfl
              · have E0 : Hid (Mk w0 wr (.slice ao' 27 cap') 27 ((bsL r ++ cA r 2) ++ cntK r.l0 r.l1 r.l2 r.l3 0)) := E
                have cx := cell27 RR.out 8 (x := .int .i64 r.l0) rfl
                go_wp2_with (first | (at_builtin; refine app_row E1.out.1 P1.out (bytesL_length _ _) (fun e => by cases e) E1.out.2.size (by omega) rfl _ _ rfl rfl rfl ?_; intro ao3 cap3 w3 r3 t3; have E3 := hid (E1.out.next r3 t3); have R3 := hid (kept27 E1.out.1 R1.out t3); clear r3 t3) | (go_at_call 50; refine (put_at r.l0 2 _ (by omega) (by omega) y0 (by omega)).mono ?_; rintro e w2 ⟨b2, rfl, r2, l2⟩; have E1 := hid (E0.out.more l2); have P1 := hid r2; have R1 := hid (kept27b RR.out l2); clear r2 l2))
                go_roundw
                case rel => exact ⟨1, ao3, cap3, by omega, by go_num, rfl, by have := E3.out; rwa [List.append_assoc] at this, R3.out⟩
                case measure => simp [intOf]
              · have E0 : Hid (Mk w0 wr (.slice ao' 29 cap') 29 ((bsL r ++ cA r 2) ++ cntK r.l0 r.l1 r.l2 r.l3 1)) := E
                have cx := cell27 RR.out 9 (x := .int .i64 r.l1) rfl
                go_wp2_with (first | (at_builtin; refine app_row E1.out.1 P1.out (bytesL_length _ _) (fun e => by cases e) E1.out.2.size (by omega) rfl _ _ rfl rfl rfl ?_; intro ao3 cap3 w3 r3 t3; have E3 := hid (E1.out.next r3 t3); have R3 := hid (kept27 E1.out.1 R1.out t3); clear r3 t3) | (go_at_call 50; refine (put_at r.l1 2 _ (by omega) (by omega) y1 (by omega)).mono ?_; rintro e w2 ⟨b2, rfl, r2, l2⟩; have E1 := hid (E0.out.more l2); have P1 := hid r2; have R1 := hid (kept27b RR.out l2); clear r2 l2))
                go_roundw
                case rel => exact ⟨2, ao3, cap3, by omega, by go_num, rfl, by have := E3.out; rwa [List.append_assoc] at this, R3.out⟩
                case measure => simp [intOf]
              · have E0 : Hid (Mk w0 wr (.slice ao' 31 cap') 31 ((bsL r ++ cA r 2) ++ cntK r.l0 r.l1 r.l2 r.l3 2)) := E
                have cx := cell27 RR.out 10 (x := .int .i64 r.l2) rfl
                go_wp2_with (first | (at_builtin; refine app_row E1.out.1 P1.out (bytesL_length _ _) (fun e => by cases e) E1.out.2.size (by omega) rfl _ _ rfl rfl rfl ?_; intro ao3 cap3 w3 r3 t3; have E3 := hid (E1.out.next r3 t3); have R3 := hid (kept27 E1.out.1 R1.out t3); clear r3 t3) | (go_at_call 50; refine (put_at r.l2 2 _ (by omega) (by omega) y2 (by omega)).mono ?_; rintro e w2 ⟨b2, rfl, r2, l2⟩; have E1 := hid (E0.out.more l2); have P1 := hid r2; have R1 := hid (kept27b RR.out l2); clear r2 l2))
                go_roundw
                case rel => exact ⟨3, ao3, cap3, by omega, by go_num, rfl, by have := E3.out; rwa [List.append_assoc] at this, R3.out⟩
                case measure => simp [intOf]
              · have E0 : Hid (Mk w0 wr (.slice ao' 33 cap') 33 ((bsL r ++ cA r 2) ++ cntK r.l0 r.l1 r.l2 r.l3 3)) := E
                have cx := cell27 RR.out 11 (x := .int .i64 r.l3) rfl
                go_wp2_with (first | (at_builtin; refine app_row E1.out.1 P1.out (bytesL_length _ _) (fun e => by cases e) E1.out.2.size (by omega) rfl _ _ rfl rfl rfl ?_; intro ao3 cap3 w3 r3 t3; have E3 := hid (E1.out.next r3 t3); have R3 := hid (kept27 E1.out.1 R1.out t3); clear r3 t3) | (go_at_call 50; refine (put_at r.l3 2 _ (by omega) (by omega) y3 (by omega)).mono ?_; rintro e w2 ⟨b2, rfl, r2, l2⟩; have E1 := hid (E0.out.more l2); have P1 := hid r2; have R1 := hid (kept27b RR.out l2); clear r2 l2))
                go_roundw
                case rel => exact ⟨4, ao3, cap3, by omega, by go_num, rfl, by have := E3.out; rwa [List.append_assoc] at this, R3.out⟩
                case measure => simp [intOf]
            · have es : s = 4 := by omega
              subst es
              go_wp2
              go_roundw
              case rel => exact ⟨3, ao', cap', by omega, by go_num, rfl, by have := E.out; rwa [List.append_assoc] at this, RR.out⟩
              case measure => simp [intOf]
      · have et : t = 3 := by omega
        subst et
        have D0 : Hid (Mk w0 wr (.slice ao 35 cap) 35 (bsL r ++ cA r 3)) := D
        have c3 := (RV0.out.below D0.out.2).recAt.c3
        have hk3 : IntKind.u8.wrap (r.pan.size : Int) = (r.pan.size : Int) := by rw [IntKind.wrap_u8]; omega
        have HB2 := hid (bytesL1 (v := (r.pan.size : Int)) (by omega))
        rw [show 11 + 8 * 3 = 35 from rfl, show ((3 : Nat) : Int) = 3 from rfl]
        go_wp2
        refine wp_region_noPanic ?_
        refine wp_region_held_drew (S := (fun w' => w'.cell? ⟨b1, 3, none⟩ = some (.string r.pan))) (by kernel_rfl) (c3) (fun hHeld => ?_)
        (refine tk_yes (v := ?_) 0 (some 57) rfl rfl (by kernel_rfl) (by kernel_rfl) (by kernel_rfl) (fun _ _ _ h => h) (by rfl) ?_ hHeld ?_; rotate_left; focus (intro w hSw; go_simp; try with_reducible rfl))
        simp only [Act.put, List.setIfInBounds_toArray, List.set_cons_zero, List.set_cons_succ]
        (refine tk_yes (v := ?_) 1 (some 58) rfl rfl (by kernel_rfl) (by kernel_rfl) (by kernel_rfl) (fun _ _ _ h => h) (by rfl) ?_ hHeld ?_; rotate_left; focus (intro w hSw; go_simp; try with_reducible rfl))
        simp only [Act.put, List.setIfInBounds_toArray, List.set_cons_zero, List.set_cons_succ]
        (refine tk_yes (v := ?_) 2 (some 59) rfl rfl (by kernel_rfl) (by kernel_rfl) (by kernel_rfl) (fun _ _ _ h => h) (by rfl) ?_ hHeld ?_; rotate_left; focus (intro w hSw; go_simp; try with_reducible rfl))
        simp only [Act.put, List.setIfInBounds_toArray, List.set_cons_zero, List.set_cons_succ]
        (refine tk_yes (v := ?_) 3 (some 60) rfl rfl (by kernel_rfl) (by kernel_rfl) (by kernel_rfl) (fun _ _ _ h => h) (by rfl) ?_ hHeld ?_; rotate_left; focus (intro w hSw; go_simp; try with_reducible rfl))
        simp only [Act.put, List.setIfInBounds_toArray, List.set_cons_zero, List.set_cons_succ]
        (refine tk_yes (v := ?_) 4 (some 61) rfl rfl (by kernel_rfl) (by kernel_rfl) (by kernel_rfl) (fun _ _ _ h => h) (by rfl) ?_ hHeld ?_; rotate_left; focus (intro w hSw; go_simp; try with_reducible rfl))
        simp only [Act.put, List.setIfInBounds_toArray, List.set_cons_zero, List.set_cons_succ]
        (refine tk_yes (v := ?_) 7 (some 64) rfl rfl (by kernel_rfl) (by kernel_rfl) (by kernel_rfl) (fun _ _ _ h => h) (by rfl) ?_ hHeld ?_; rotate_left; focus (intro w hSw; go_simp; try with_reducible rfl))
        simp only [Act.put, List.setIfInBounds_toArray, List.set_cons_zero, List.set_cons_succ]
        (refine tk_yes (v := ?_) 8 (some 65) rfl rfl (by kernel_rfl) (by kernel_rfl) (by kernel_rfl) (fun _ _ _ h => h) (by rfl) ?_ hHeld ?_; rotate_left; focus (intro w hSw; go_simp; try with_reducible rfl))
        simp only [Act.put, List.setIfInBounds_toArray, List.set_cons_zero, List.set_cons_succ]
        refine wpAnyH_ready (rs := [5]) (by kernel_rfl) (by simp) ?_
        refine AllReadyH.cons rfl (fun K hK => ?_) AllReadyH.nil
        go_simp
        have MB := hid (((D0.out.more (bel1 wr (.cells (cellsOf [(r.pan.size : Int)]) 5))).more (Below.refl _ _).drew))
        have PR := hid (row_mono (Below.refl _ _).drew (row_new wr [(r.pan.size : Int)] 1 rfl (by omega)).at)
        have e1 : wr.alloc (Obj.cells #[Value.int IntKind.u8 (r.pan.size : Int)] 5) = wr.alloc (.cells (cellsOf [(r.pan.size : Int)]) 5) := rfl
        rw [← e1] at MB PR
        clear e1
        generalize (wr.alloc (Obj.cells #[Value.int IntKind.u8 (r.pan.size : Int)] 5)).drew = w1 at *
        refine hK.out _ _ ((RV0.out.below MB.out.2).recAt.c3) (fun hHeld => ?_)
        clear hK K
        try simp only [Act.put, List.setIfInBounds_toArray, List.set_cons_zero, List.set_cons_succ]
        refine wpAnyH_ready (rs := [6]) (by kernel_rfl) (by simp) ?_
        refine AllReadyH.cons (o := { dst := some 63, op := _, type := _, pos := _, after := _, guard := none }) rfl (fun K hK => ?_) AllReadyH.nil
        refine app_row_step (n2 := 1) MB.out.1 PR.out rfl MB.out.2.size (by omega) rfl _ _ rfl rfl rfl ?_
        intro ao4 cap4 w4 r4 t4
        have D4 := hid (MB.out.next r4 t4)
        clear r4 t4
        refine hK.out _ _ ((RV0.out.below D4.out.2).recAt.c3) (fun hHeld => ?_)
        clear hK K
        try simp only [Act.put, List.setIfInBounds_toArray, List.set_cons_zero, List.set_cons_succ]
        refine wpAnyH_ready (rs := [9]) (by kernel_rfl) (by simp) ?_
        refine AllReadyH.cons (o := { dst := some 66, op := _, type := _, pos := _, after := _, guard := none }) rfl (fun K hK => ?_) AllReadyH.nil
        refine app_text_step (t := r.pan) D4.out.1 D4.out.2.size (by omega) rfl _ _ rfl rfl rfl ?_
        intro ao5 cap5 w5 r5 t5
        have D5 := hid (D4.out.next r5 t5)
        clear r5 t5
        refine hK.out _ _ ((RV0.out.below D5.out.2).recAt.c3) (fun hHeld => ?_)
        clear hK K
        try simp only [Act.put, List.setIfInBounds_toArray, List.set_cons_zero, List.set_cons_succ]
        (refine tk_yes (v := ?_) 10 (some 2) rfl rfl (by kernel_rfl) (by kernel_rfl) (by kernel_rfl) (fun _ _ _ h => h) (by rfl) ?_ hHeld ?_; rotate_left; focus (intro w hSw; go_simp; try with_reducible rfl))
        simp only [Act.put, List.setIfInBounds_toArray, List.set_cons_zero, List.set_cons_succ]
        refine wpAnyH_done (by kernel_rfl) ?_ _
        refine NoPanic.normal ?_
        go_wp2
        go_ret
        have hbel : Below w.heap.size w w0 := BL0.out
        have hNN := HNN.out
        have ee : 35 + 1 + r.pan.size = N := by omega
        subst ee
        refine ⟨ao5, cap5, rfl, ?_⟩
        have := Mk.wide hbel D5.out
        have e2 : bodyL r = (bsL r ++ cA r 3 ++ [(r.pan.size : Int)]) ++ panL r.pan := by
          rw [← HB2.out]; simp [bodyL, bsL, cA, List.append_assoc]
        rw [e2]; exact this

end Go.Proofs.Ythhgnflkplpklaa.Frm
