/- A disk's calls, for callers; the size of records; the statements' known case. -/
import Derived.Test.YthhgnflkplpklabJHelp
import Derived.Test.YthhgnflkplpklabDFace
namespace Go.Proofs.Ythhgnflkplpklab
set_option maxRecDepth 20000
open Go.ChangeShapes Go.WideShapes Go.ChangeAt Go.RowKit
open Dsc (Dk Sec Dat Feet tc hid sq bel1 newD reopD cutD)
open Frm (Rc putL rightB bytesL num Given Mk Row RowAt RV al29 st29 ld29 seatR)
section
variable {w0 w : World} {p q : Nat} {d : Dk} {h : Hd} {l nw : List Rc}
theorem new_jd (n : Int) (m : Nat) (hm : (min (max n 0) 4096).toNat = m) (hb : Below w0.heap.size w0 w) : Calls Try.prog 5 #[.int .i64 n] w fun e w' => ∃ p, e = .returned (.pointer (some ⟨p, 0, none⟩)) ∧ JD w0 w' p (newD m) ∧ Below w.heap.size w w' := by
  subst hm
  refine (Dsc.new_any n w).mono ?_
  rintro e w' ⟨p, rfl, b, ⟨sv, wv, hd, hf, _⟩⟩
  exact ⟨p, rfl, ⟨sv, wv, hd, fun k hk => Nat.le_trans hb.size (hf k hk).1, sq hb b⟩, b⟩
theorem cut_jd (j : JD w0 w p d) (n z : Int) (hz : n = z) (hn : n ≤ 9223372036854775807) : Calls Try.prog 8 #[.pointer (some ⟨p, 0, none⟩), .int .i64 z] w fun e w' => e = .returned (.tuple #[]) ∧ Left w0 w w' p (cutD d n) := by
  subst hz
  obtain ⟨sv, wv, hD, hf, hb⟩ := j
  refine (Dsc.cut_dsk n hn (dsk_feet hD)).mono ?_
  rintro e w' ⟨rfl, hT, hD'⟩
  exact ⟨rfl, JD.after hf hb hT hD', kin_of hD hT, fun q h n k => k.turned hD hT⟩
/-- A disk that was cut goes on from there, in what it holds. -/
theorem JS.cut {w' : World} {n : Int} (j : JS w0 w p q d h l) (k : Left w0 w w' p (cutD d n)) (hn : 0 < n) : JS w0 w' p q (cutD d n) h l ∧ (cutD d n).secs.length = d.secs.length := by
  have e : cutD d n = { d with left := max n 0, down := decide (n ≤ 0) } := by unfold cutD; rw [j.up]; rfl
  have e2 : decide (n ≤ 0) = false := by simp; omega
  rw [e2] at e
  refine ⟨⟨k.jl j.log, j.ok, by rw [e], by rw [e]; exact j.rest, by rw [e]; exact j.held⟩, by rw [e]⟩
theorem JS.cut2 (j : JS w0 w p q d h l) : Cut2 d l l := fun s' f => .inl ⟨_, _, _, hold1 j.held (ws := []) ⟨fun x hx => (by cases hx), fun t _ x hx => (by cases hx)⟩ (by rw [j.rest] at f; exact f)⟩
theorem JS.cutN (j : JS w0 w p q d h l) (nw : List Rc) : Cut2 d l nw := fun s' f => (j.cut2 s' f).elim .inl .inl
/-- Power is back: the old ones are there, or the new ones. -/
theorem reopen_jd (j : JD w0 w p d) (C : Cut2 d l nw) {ao : Option Addr} {len cap : Nat} {bs : List Bool} (I : Dsc.InF w0 ao len bs) (torn : Int) :
    Calls Try.prog 10 #[.pointer (some ⟨p, 0, none⟩), .slice ao len cap, .int .i64 torn] w fun e w' => e = .returned (.tuple #[]) ∧ Kin w w' ∧ ∃ d' l', JD w0 w' p d' ∧ d'.down = false ∧ d'.waits = [] ∧ d'.left = 0 ∧ d'.secs.length = d.secs.length ∧ (l' = l ∨ l' = nw) ∧ ∃ c a b, Holds d'.secs c a b l' := by
  obtain ⟨sv, wv, hD, hf, hb⟩ := j
  obtain ⟨rfl, hr, hfar⟩ := I
  refine (Dsc.reopen_any p _ d w ao cap bs torn (dsk_feet hD) (hr.keep hfar hb) (fun hl0 a e => ⟨Nat.lt_of_lt_of_le (hfar hl0 a e) hb.size, fun f => by have := hf _ f; have := hfar hl0 a e; omega⟩)).mono ?_
  rintro e w' ⟨rfl, hT, hD'⟩
  have F := From.reop hD.ok bs torn
  have J' := JD.after hf hb hT hD'
  have hl : (reopD d bs torn).secs.length = d.secs.length := F.1
  rcases C _ F with ⟨c, a, b, k⟩ | ⟨c, a, b, k⟩
  · exact ⟨rfl, kin_of hD hT, reopD d bs torn, l, J', rfl, rfl, rfl, hl, .inl rfl, c, a, b, k⟩
  · exact ⟨rfl, kin_of hD hT, reopD d bs torn, nw, J', rfl, rfl, rfl, hl, .inr rfl, c, a, b, k⟩
end
/-! ### Laws behind a guard -/
section
variable {ops : Array Oper} {rest : List Oper} {op : Oper} {a : Act} {w : World} {Q : Exit → Act → World → Prop}
theorem bsRw {r : Rc} (x : Operand) (ho : op.op = .buildSlice 28 1 #[(0, x)]) (hw : Region.wanted op (yielded ops a.tmps) = true) (hx : a.eval x = r.val)
    (h : ∀ ao w', RG w' ao 1 1 [r] → Below w.heap.size w w' → wpList Try.prog ops Q rest (a.put op.dst (.slice ao 1 1)) w') : wpList Try.prog ops Q (op :: rest) a w :=
  Frm.wpList_want hw fun K hK => by
    obtain ⟨i, hi, hz0, hz1, hz2⟩ := info_parts info50
    refine wp_buildSlice 28 39 1 _ ho (flR [r]).toArray i _ Try.underlying28 hi hz0 (by rw [hz1]; decide) (by rw [hz1]; decide) ?_ (hK _ _ (h _ _ (new_rg w [r] 1 rfl (by omega)) (bel1 _ _)))
    have := Great.fill_whole (s := 17) (by decide) [r.val] ((Array.range (1 * i.size)).map (Rc.zero.val.cells[· % Rc.zero.val.cells.size]!))
      (by intro v hv; simp at hv; subst hv; simp [Rc.val, Value.cells, Rc.len]) (by simp [hz1])
    rw [hz1] at this ⊢
    simpa [hx, Value.cells, Rc.val, flR] using this
end
theorem size_succ {l : List Rc} {k : Nat} {r : Rc} (h : l[k]? = some r) : (frs (l.take (k + 1))).length = (frs (l.take k)).length + (putL r).length := by rw [frs_take h, List.length_append]
theorem frs_many {l : List Rc} (h : Good l) : (frs l).length ≤ 61 * l.length := by
  induction l with
  | nil => simp [frs]
  | cons r l ih =>
    have h1 := (Frm.rt_of (h r (by simp)).1).size
    have h2 := ih (fun x hx => h x (by simp [hx]))
    rw [frs_cons, List.length_append, Frm.putL_len, List.length_cons]; omega
section
variable {w0 w : World} {p q : Nat} {d : Dk} {h : Hd} {l : List Rc}
theorem JS.more {w' : World} (j : JS w0 w p q d h l) (k : Below w.heap.size w w') : JS w0 w' p q d h l := ⟨j.log.more k, j.ok, j.up, j.rest, j.held⟩
theorem recs_eq {ao1 ao2 : Option Addr} {n1 c1 n2 c2 : Nat} (h1 : RG w ao1 n1 c1 l) (h2 : RG w ao2 n2 c2 l) : Calls Try.prog 11 #[.slice ao1 n1 c1, .slice ao2 n2 c2] w fun e w' => e = .returned (.bool true) ∧ Below w.heap.size w w' := by
  refine (recs_same h1 h2).mono ?_
  rintro e w' ⟨rfl, k⟩
  exact ⟨by simp, k⟩
theorem open_new {m : Nat} (j : JD w0 w p (newD m)) (hm : 8 ≤ m) :
    Calls Try.prog 6 #[.pointer (some ⟨p, 0, none⟩)] w fun e w' => ∃ q ao cap h, e = .returned (.tuple #[.pointer (some ⟨q, 0, none⟩), .slice ao 0 cap, .int .i64 0]) ∧ JS w0 w' p q (newD m) h [] ∧ RG w' ao 0 cap [] ∧ Below w.heap.size w w' :=
  open_any j rfl rfl (held_new m hm)
theorem open_js (j : JS w0 w p q d h l) (n : Nat) (hn : l.length = n) :
    Calls Try.prog 6 #[.pointer (some ⟨p, 0, none⟩)] w fun e w' => ∃ q ao cap h, e = .returned (.tuple #[.pointer (some ⟨q, 0, none⟩), .slice ao n cap, .int .i64 0]) ∧ JS w0 w' p q d h l ∧ RG w' ao n cap l ∧ Below w.heap.size w w' := by
  subst hn
  exact open_any j.log.disk j.up j.rest j.held
theorem len_js (j : JS w0 w p q d h l) (n : Nat) (hn : l.length = n) : Calls Try.prog 12 #[.pointer (some ⟨q, 0, none⟩)] w fun e w' => e = .returned (.int .i64 (n : Int)) ∧ w = w' := by
  subst hn; exact len_any j.log.log
theorem free_js (j : JS w0 w p q d h l) (N F : Nat) (hN : d.secs.length = N) (hF : (frs l).length = F) : Calls Try.prog 13 #[.pointer (some ⟨q, 0, none⟩)] w fun e w' => e = .returned (.int .i64 (((N - 1) / 2 * 64 : Nat) - (F : Int))) ∧ Below w.heap.size w w' := by
  subst hN hF
  rw [← j.held.len]
  exact free_any j.log j.ok j.held.n8
theorem add_yes (j : JS w0 w p q d h l) {ao : Option Addr} {len cap : Nat} {rs : List Rc} (R : RG w ao len cap rs) (hg : Good rs) (hs : l.length + len ≤ 100000000) (h0 : d.left = 0) (N : Nat) (hN : d.secs.length = N) (hfit : (frs (l ++ rs)).length ≤ (N - 1) / 2 * 64) :
    Calls Try.prog 9 #[.pointer (some ⟨q, 0, none⟩), .slice ao len cap] w fun e w' => e = .returned (.int .i64 0) ∧ Kin w w' ∧ ∃ d' h', JS w0 w' p q d' h' (l ++ rs) ∧ d'.secs.length = N ∧ d'.left = 0 := by
  subst hN
  refine (add_any j R hg hs).mono ?_
  rintro e w' ⟨z, rfl, k, ⟨rfl, _, d', h', j', e1, e2⟩ | ⟨rfl, f, _⟩ | ⟨rfl, f, _⟩⟩
  · exact ⟨rfl, k, d', h', j', e1, e2 h0⟩
  · unfold arS at f; omega
  · omega
end
/-! ### A record in a block of its own -/
def RB (w : World) (b : Nat) (r : Rc) : Prop := w.heap[b]? = some (.cells r.cells.toArray 39 (0, 0))
theorem RB.kin {w w' : World} {b : Nat} {r : Rc} (k : RB w b r) (e : Kin w w') : RB w' b r := (e.block b _ 39 (0, 0) k (by decide) (by decide) (by decide) (by decide)).trans k
theorem RB.below {w w' : World} {b : Nat} {r : Rc} (k : RB w b r) (e : Below w.heap.size w w') : RB w' b r := k.kin (Kin.of e)
theorem RB.rv {w : World} {b : Nat} {r : Rc} (k : RB w b r) : RV w b r :=
  ⟨fun j v hv => by rw [Nat.zero_add, Dsc.cell_of_head k]; simpa using hv, there_of k 0 17 (by simp [Rc.len])⟩
theorem RB.lt {w : World} {b : Nat} {r : Rc} (k : RB w b r) : b < w.heap.size := (Array.getElem?_eq_some_iff.1 k).1
section
variable {ops : Array Oper} {rest : List Oper} {op : Oper} {a : Act} {w : World} {Q : Exit → Act → World → Prop}
theorem alB (hgd : op.guard = none) (ho : op.op = .alloc 39)
    (h : ∀ b w', w.heap.size ≤ b → RB w' b Rc.zero → Below w.heap.size w w' → wpList Try.prog ops Q rest (a.put op.dst (.pointer (some ⟨b, 0, none⟩))) w') : wpList Try.prog ops Q (op :: rest) a w :=
  wpList_plain hgd fun K hK => by
    have hz := Frm.zero29 w
    unfold Oper.wp execOp
    simp [ho, Instr.alloc, hz, newVar, newRow, go_sem, Rc.val, Value.cells]
    exact hK _ _ (h _ _ (Nat.le_refl _) (heap_alloc_new w (.cells Rc.zero.cells.toArray 39)) (bel1 _ _))
theorem stB {b : Nat} {r0 r : Rc} {w0 : World} (k : RB w b r0) (hB : Below w0.heap.size w0 w) (hb : w0.heap.size ≤ b) (hgd : op.guard = none) (y z : Operand) (ho : op.op = .store 39 y z) (hx : a.eval y = .pointer (some ⟨b, 0, none⟩)) (hy : a.eval z = r.val)
    (h : ∀ w', RB w' b r → Below w0.heap.size w0 w' → wpList Try.prog ops Q rest (a.put op.dst undef) w') : wpList Try.prog ops Q (op :: rest) a w := by
  refine wpList_store_mid hgd 39 y z ho b 0 r.cells.toArray hx hy (by simpa [Rc.len] using k.rv.th) (by rw [Frm.n29]; simp [Rc.len]) (all_oneCell_toArray r.one) ?_
  refine h _ ?_ (by simpa using Frm.setCells_in hB hb 0)
  have := heap_setCells k 0 r.cells (by simp [Rc.len]) r.one
  unfold RB
  simp only at this ⊢
  rw [this]
  simp [Rc.len]
end
set_option maxHeartbeats 4000000 in
theorem known_any (w : World) : Calls Try.prog 4 #[] w fun e w' => e = .returned (.bool true) ∧ Below w.heap.size w w' := by
  have hG : Hid (Good [seatR 0 1 2 300]) := by
    unfold Hid; intro r hr; simp at hr; subst hr
    exact ⟨Frm.seat_right (by omega) (by omega) (by omega) (by omega), Frm.seat_ok⟩
  have hF1 : (frs [seatR 0 1 2 300]).length ≤ 61 := by have := frs_many hG.out; simpa using this
  obtain ⟨F, hF⟩ : ∃ F, (frs [seatR 0 1 2 300]).length = F := ⟨_, rfl⟩
  rw [hF] at hF1
  have HF := hid hF
  clear hF
  obtain ⟨R, hR⟩ : ∃ R, seatR 0 1 2 300 = R := ⟨_, rfl⟩
  rw [hR] at hG HF
  have HR := hid hR
  clear hR
  go_enter Try.func4, Try.ntmps4
  go_wp2_with (first | (go_at_call 13; have X := K13.out; refine (free_js (J5.out.more (sq (sq (sq K8.out K9.out) K11.out) K13.out)) 100 F N5.out HF.out).mono ?_; rintro e w12 ⟨rfl, k12⟩; have K12 := hid k12; clear k12) | (go_at_call 11; refine (recs_eq (G8.out.below (sq K9.out K11.out)) R11.out).mono ?_; rintro e w13 ⟨rfl, k13⟩; have K13 := hid k13; clear k13) | (have X := J9.out; refine bsRw (r := R) _ rfl (by kernel_rfl) rfl ?_; intro ao11 w11 r11 k11; have R11 := hid r11; have K11 := hid k11; clear r11 k11 X) | (refine Frm.ldw29 (B5.out.below (sq K8.out K9.out)).rv _ rfl (by kernel_rfl) rfl ?_) | (go_at_call 6; refine (open_few J9.out (by decide)).mono ?_; rintro e w10 ⟨rfl, rfl⟩) | (go_at_call 5; have X := G8.out; refine (new_jd 7 7 rfl (Below.refl _ _)).mono ?_; rintro e w9 ⟨p9, rfl, j9, k9⟩; have J9 := hid j9; have K9 := hid k9; clear j9 k9 X) | (go_at_call 6; refine (open_js J5.out 1 rfl).mono ?_; rintro e w8 ⟨q8, ao8, cap8, h8, rfl, j8, g8, k8⟩; have G8 := hid g8; have K8 := hid k8; clear j8 g8 k8) | (go_at_call 12; refine (len_js J5.out 1 rfl).mono ?_; rintro e w6 ⟨rfl, rfl⟩) | (go_at_call 9; refine (add_yes J4.out R4.out hG.out (by simp) rfl 100 (by simp [newD]) (by rw [List.nil_append, HF.out]; omega)).mono ?_; rintro e w5 ⟨rfl, k5, d5, h5, j5, n5, l5⟩; have J5 := hid j5; have N5 := hid n5; have B5 := hid (B4.out.kin k5); clear k5 j5 n5 l5) | (refine bsR (r := R) rfl _ rfl rfl ?_; intro ao4 w4 r4 k4; have R4 := hid r4; have J4 := hid (J2.out.more (sq L3.out k4)); have B4 := hid (B3.out.below k4); clear r4 k4) | (refine ld29 B3.out.rv rfl _ rfl rfl ?_) | (refine stB (r := R) (w0 := w2) Z3.out (sq KX.out Y3.out) (by have := KX.out.size; omega) rfl _ _ rfl rfl rfl ?_; intro w3 b3 l3; have B3 := hid b3; have L3 := hid l3; clear b3 l3) | (refine alB rfl rfl ?_; intro bb wz hbb z3 y3; have Z3 := hid z3; have Y3 := hid y3; clear z3 y3) | (go_at_call 7; refine (Frm.rec9 0 1 2 300 _ (by omega) (by omega) (by omega) (by omega) (by omega) (by omega) (by omega) (by omega)).mono ?_; rintro e wx ⟨rfl, kx⟩; rw [HR.out]; have KX := hid kx; clear kx) | (go_at_call 6; refine (open_new J1.out (by omega)).mono ?_; rintro e w2 ⟨q2, ao2, cap2, h2, rfl, j2, g2, k2⟩; have J2 := hid j2; clear j2 g2 k2) | (go_at_call 5; refine (new_jd 100 100 rfl (Below.refl _ _)).mono ?_; rintro e w1 ⟨p1, rfl, j1, k1⟩; have J1 := hid j1; clear j1 k1))
  go_ret
  exact ⟨by first | rfl | (simp; omega), sq (sq J5.out.log.disk.bel (sq (sq (sq K8.out K9.out) K11.out) K13.out)) K12.out⟩
theorem tmod_nat {a : Int} (h : 0 ≤ a) (m : Int) (hm : 0 < m) : a.tmod m = ((a % m).toNat : Int) := by
  rw [Int.tmod_eq_emod_of_nonneg h]
  have := Int.emod_nonneg a (show m ≠ 0 by omega)
  omega
theorem made_fit {k : Int} {n : Nat} (k0 : 0 ≤ k) (k1 : k < 256) (hn : n ≤ 256) : (frs (madeL k n)).length ≤ 61 * n := by
  have := frs_many (made_good k0 k1 hn)
  rwa [made_len] at this
theorem RG.take' {w : World} {ao : Option Addr} {len cap : Nat} {l : List Rc} (h : RG w ao len cap l) (m : Nat) (hm : len = m) : RG w ao m m l := by
  subst hm
  have := h.take len len (Nat.le_refl _) (Nat.le_refl _) h.cap1
  rwa [List.take_of_length_le (by rw [h.leq]; exact Nat.le_refl _)] at this
theorem app_full_run {w : World} {n n2 c2 m : Nat} {ao1 ao2 : Option Addr} {l1 l2 : List Rc} (ty : TypeId) (h1 : RG w ao1 n n l1) (h2 : RG w ao2 n2 c2 l2) (hm : n + n2 = m) (hsmall : m ≤ 1000000) :
    ∃ ao cap w', (Builtin.append_ #[28, 28] ty #[.slice ao1 n n, .slice ao2 n2 c2]).run Try.prog w = .ok (.slice ao m cap) w' ∧ RG w' ao m cap (l1 ++ l2) ∧ Below w.heap.size w w' := by
  subst hm
  obtain ⟨i0, hi, hz0, hz1, hz2⟩ := info_parts info50
  by_cases h0 : n2 = 0
  · subst h0
    have e2 : l2 = [] := List.length_eq_zero_iff.1 h2.leq
    subst e2
    refine ⟨ao1, n, w, ?_, by rw [List.append_nil]; exact h1, Below.refl _ _⟩
    cases ao1 <;> cases ao2 <;> simp [Builtin.append_, run_underlying Try.underlying28, sizeOf, typeInfo, hi, Builtin.lenOf, Builtin.firstCells, storeCells, loadCells, loadCellsFrom]
  · cases ao2 with
    | none => exact absurd (h2.nil rfl).1 h0
    | some ad =>
      cases ao1 with
      | some b =>
        obtain ⟨v', w', hrun, r1, r2⟩ := run_append_arg_grows (P := Try.prog) w 28 ty 39 i0 Rc.zero.val 17 136 Try.underlying28 hi hz0 hz1 hz2 rfl (by decide) b n n (flR l1) (by rw [flR_len, h1.leq]) (news_at h1) ad n2 c2 (flR l2) (by rw [flR_len, h2.leq]) (news_at h2) (by omega) (by unfold maxLen; omega) (by omega)
        have hR : RowR w.heap.size w' v' (n + n2) (l1 ++ l2) := by unfold RowR; rw [flR_app]; exact r1
        obtain ⟨ao, cap, rfl, _⟩ := hR.form
        exact ⟨ao, cap, w', hrun, hR.given, (Below.refl _ _).grown r2 (Nat.le_refl _) (fun k e => by cases e)⟩
      | none =>
        obtain ⟨rfl, _⟩ := h1.nil rfl
        have e1 : l1 = [] := List.length_eq_zero_iff.1 h1.leq
        subst e1
        obtain ⟨v', w', hrun, r1, r2, _⟩ := run_append_own (P := Try.prog) w w.heap.size 28 ty 39 i0 Rc.zero.val 17 136 Try.underlying28 hi hz0 hz1 hz2 rfl (by decide) (.slice none 0 0) 0 [] (World.ownsRow_nil w _ 39 17) ad n2 c2 (flR l2) (by rw [flR_len, h2.leq]) (news_at h2) (oneR l2) (by unfold maxLen; omega) (by omega) (Nat.le_refl _)
        have hR : RowR w.heap.size w' v' (0 + n2) ([] ++ l2) := by unfold RowR; rw [flR_app]; exact r1
        obtain ⟨ao, cap, rfl, _⟩ := hR.form
        exact ⟨ao, cap, w', hrun, hR.given, (Below.refl _ _).grown r2 (Nat.le_refl _) (fun k e => by cases e)⟩
theorem app_fullw {ops : Array Oper} {rest : List Oper} {op : Oper} {a : Act} {w : World} {Q : Exit → Act → World → Prop} {n n2 c2 m : Nat} {ao1 ao2 : Option Addr} {l1 l2 : List Rc}
    (h1 : RG w ao1 n n l1) (h2 : RG w ao2 n2 c2 l2) (hm : n + n2 = m) (hsmall : m ≤ 1000000) (s y : Operand) (ho : op.op = .call { callee := .builtin .append, args := #[s, y], argTypes := #[28, 28] }) (hw : Region.wanted op (yielded ops a.tmps) = true)
    (hs : a.eval s = .slice ao1 n n) (hx : a.eval y = .slice ao2 n2 c2)
    (h : ∀ ao cap w', RG w' ao m cap (l1 ++ l2) → Below w.heap.size w w' → wpList Try.prog ops Q rest (a.put op.dst (.slice ao m cap)) w') :
    wpList Try.prog ops Q (op :: rest) a w := by
  obtain ⟨ao, cap, w', hrun, hR, hB⟩ := app_full_run op.type h1 h2 hm hsmall
  refine Frm.wpList_want hw fun K hK => ?_
  unfold Oper.wp
  simp [execOp, ho, resolve, invoke, builtin, hs, hx, hrun, Result.andThen]
  exact hK _ _ (h ao cap w' hR hB)
end Go.Proofs.Ythhgnflkplpklab
