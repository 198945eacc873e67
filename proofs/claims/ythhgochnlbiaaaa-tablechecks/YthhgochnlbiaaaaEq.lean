/- Two states are held against one another; tables are held against one another. -/
import Derived.Test.YthhgochnlbiaaaaSts
import Derived.Test.YthhgochnlbiaaaaTiny
import Derived.BigQuiet
namespace Go.Proofs.Ythhgochnlbiaaaa
open Go.ChangeShapes Go.WideShapes Go.ChangeAt Go.RowKit

theorem gqi (d : Nat) (t : TypeId) (k : IntKind) (a b : Int) (w : World) (h : Try.prog.underlying t = some (.int k)) : (Op.equalIn (d + 1) t (.int k a) (.int k b)).run Try.prog w = .ok (decide (a = b)) w := by
  simp [Op.equalIn, run_underlying h]
  by_cases e : a = b <;> simp [e]
set_option maxHeartbeats 4000000 in
theorem gq34 (n : Nat) (a b c d a' b' c' d' : Int) (w : World) :
    (Op.equalIn (n + 2) 34 (.agg #[.int .i64 a, .int .u8 b, .int .i64 c, .int .i64 d]) (.agg #[.int .i64 a', .int .u8 b', .int .i64 c', .int .i64 d'])).run Try.prog w = .ok (decide (a = a' ∧ b = b' ∧ c = c' ∧ d = d')) w := by
  have a3 := Try.isAgg3
  have z3 := Try.sizeOf3
  have a5 := Try.isAgg5
  have z5 := Try.sizeOf5
  obtain ⟨B1, x1⟩ : ∃ B, decide (a = a') = B := ⟨_, rfl⟩
  obtain ⟨B2, x2⟩ : ∃ B, decide (b = b') = B := ⟨_, rfl⟩
  obtain ⟨B3, x3⟩ : ∃ B, decide (c = c') = B := ⟨_, rfl⟩
  obtain ⟨B4, x4⟩ : ∃ B, decide (d = d') = B := ⟨_, rfl⟩
  have e1 := gqi n 3 .i64 a a'
  have e2 := gqi n 5 .u8 b b'
  have e3 := gqi n 3 .i64 c c'
  have e4 := gqi n 3 .i64 d d'
  have hall : decide ((a = a') ∧ (b = b') ∧ (c = c') ∧ (d = d')) = (B1 && (B2 && (B3 && B4))) := by
    rw [← x1, ← x2, ← x3, ← x4]; simp only [Bool.decide_and]
  rw [hall]
  rw [x1] at e1
  rw [x2] at e2
  rw [x3] at e3
  rw [x4] at e4
  clear x1 x2 x3 x4 hall
  have u3 := Try.underlying3
  have u5 := Try.underlying5
  have h34 : Try.prog.stoodInHeld 34 = false := by kernel_rfl
  rw [Op.equalIn]
  simp only [Sem.run_bind, run_underlying Try.underlying34, Result.andThen_ok]
  cases B1
  · go_simp
  cases B2
  · go_simp
  cases B3
  · go_simp
  cases B4
  · go_simp
  · go_simp
theorem same_iff (r s : St) : ((r.id = s.id) ∧ (r.kind = s.kind) ∧ (r.next = s.next) ∧ (r.other = s.other)) ↔ r = s := by
  cases r; cases s; simp only [St.mk.injEq]
open Classical in
theorem gqR (r s : St) (w : World) : (Op.equalIn 10000 34 r.val s.val).run Try.prog w = .ok (decide (r = s)) w := by
  have := gq34 9998 r.id r.kind r.next r.other s.id s.kind s.next s.other w
  rw [decide_eq_decide.2 (same_iff r s)] at this
  exact this
theorem eqg34 (r s : St) (x y : Operand) (w : World) : (eqGuard .eql 34 x y r.val s.val).run Try.prog w = .ok () w ∧ (eqGuard .neq 34 x y r.val s.val).run Try.prog w = .ok () w := by
  constructor <;> simp [eqGuard, St.val]
open Classical in
theorem gbin (r s : St) (w : World) : (binOp .eql 34 r.val s.val).run Try.prog w = .ok (.bool (decide (r = s))) w ∧ (binOp .neq 34 r.val s.val).run Try.prog w = .ok (.bool (!decide (r = s))) w := by
  have h := gqR r s w
  constructor
  · show ((do pure (.bool (← Op.equalIn 10000 34 r.val s.val)) : Sem Value)).run Try.prog w = _
    simp [h]
  · show ((do pure (.bool (!(← Op.equalIn 10000 34 r.val s.val))) : Sem Value)).run Try.prog w = _
    simp [h]
theorem bin_same (r : St) (w : World) : (binOp .neq 34 r.val r.val).run Try.prog w = .ok (.bool false) w := by
  have h := (gbin r r w).2; simpa using h
/-- Hand move: a state of a row is read. -/
theorem tk_st {ops : Array Oper} {Q : Exit → Act → World → Prop} {md : Region.Mode} {S : World → Prop} {oi : Oper} {fuel : Nat} {listed : Array Bool} {a : Act} {w : World} (i : Nat) (d : Option Tmp) (r : St)
    (hi : ops[i]? = some oi) (hd : oi.dst = d) (hs : Region.noSelect ops = true) (hf : Region.free md ops listed i = true) (hr : (Region.ready md ops listed).contains i = true)
    (hQ : ∀ c a w, Q (.panic c) (a.put d r.val) w → Q (.panic c) a w) (hw : Region.wanted oi (yielded ops a.tmps) = true)
    (x : Operand) (ho : oi.op = .load 34 x) {b o : Nat} (hx : a.eval x = .pointer (some ⟨b, o, none⟩)) (hc : ∀ w, S w → w.rangeAt b o r.cells) (hS : S w)
    (h : wpAnyH Try.prog md ops Q S fuel (listed.setIfInBounds i true) (a.put d r.val) w) : wpAnyH Try.prog md ops Q S (fuel + 1) listed a w := by
  obtain ⟨t, hu, ht⟩ := row34
  subst hd; exact wpAnyH_take hi hs hf hr hQ (yieldsIf_load_mid hw 34 x ho b o hx r.cells t hc hu ht n34) hS h
set_option maxRecDepth 20000 in
set_option maxHeartbeats 4000000 in
/-- A table is the same as another that holds the same states. -/
theorem states17 (ao bo : Option Addr) (len cap c2 : Nat) (l : List St) (w : World) (h : SG w ao len cap l) (h2 : SG w bo len c2 l) :
    Calls Try.prog 17 #[.slice ao len cap, .slice bo len c2] w fun e w' => e = .returned (.bool true) ∧ Below w.heap.size w w' := by
  have hm : len ≤ 9223372036854775807 := Nat.le_trans h.cap1 h.cap2
  have HQ := hid h.leq
  have HG := hid h
  have HG2 := hid h2
  clear h h2
  go_enter Try.func17, Try.ntmps17
  go_wp2
  go_loopw [5] (fun i wr => ∃ k : Nat, k ≤ len ∧ i = .int .i64 (k : Int) ∧ Below w.heap.size w wr) (fun i _ => len - (intOf i).toNat)
  case atStart => exact ⟨0, by omega, rfl, Below.refl _ _⟩
  case round =>
    obtain ⟨k, hk, rfl, l1⟩ := hrel
    have L1 := hid l1
    clear l1
    by_cases hlt : k < len
    · have hkl : k < l.length := by rw [HQ.out]; exact hlt
      have hget := sAt_get hkl
      obtain ⟨r, hr⟩ : ∃ r, sAt l k = r := ⟨_, rfl⟩
      rw [hr] at hget
      obtain ⟨b, o, rfl, hc⟩ := (HG.out.below L1.out).at hget
      obtain ⟨b2, o2, rfl, hc2⟩ := (HG2.out.below L1.out).at hget
      have HC := hid hc
      have HC2 := hid hc2
      clear hc hc2 hget hr hkl
      have qg := fun x y w => (eqg34 r r x y w).2
      have qb := fun w => bin_same r w
      go_upto_region 6 with fail
      refine wp_region_noPanic ?_
      refine wp_region_held_drew (S := (fun w' : World => w'.rangeAt b (o + k * 4) r.cells ∧ w'.rangeAt b2 (o2 + k * 4) r.cells)) (by kernel_rfl) ⟨HC.out, HC2.out⟩ (fun hHeld => ?_)
      have L2 := hid (L1.out.drew)
      (refine tk_yes (v := ?_) 0 (some 17) rfl rfl (by kernel_rfl) (by kernel_rfl) (by kernel_rfl) (fun _ _ _ h => h) (by rfl) ?_ hHeld ?_; rotate_left; focus (intro w hSw; go_simp; try with_reducible rfl))
      simp only [Act.put, List.setIfInBounds_toArray, List.set_cons_zero, List.set_cons_succ]
      (refine tk_yes (v := ?_) 1 (some 18) rfl rfl (by kernel_rfl) (by kernel_rfl) (by kernel_rfl) (fun _ _ _ h => h) (by rfl) ?_ hHeld ?_; rotate_left; focus (intro w hSw; go_simp; try with_reducible rfl))
      simp only [Act.put, List.setIfInBounds_toArray, List.set_cons_zero, List.set_cons_succ]
      (refine tk_yes (v := ?_) 2 (some 19) rfl rfl (by kernel_rfl) (by kernel_rfl) (by kernel_rfl) (fun _ _ _ h => h) (by rfl) ?_ hHeld ?_; rotate_left; focus (intro w hSw; go_simp; try with_reducible rfl))
      simp only [Act.put, List.setIfInBounds_toArray, List.set_cons_zero, List.set_cons_succ]
      refine tk_st 3 (some 20) r rfl rfl (by kernel_rfl) (by kernel_rfl) (by kernel_rfl) (fun _ _ _ h => h) (by rfl) _ rfl rfl (fun w hSw => hSw.1) hHeld ?_
      simp only [Act.put, List.setIfInBounds_toArray, List.set_cons_zero, List.set_cons_succ]
      (refine tk_yes (v := ?_) 4 (some 21) rfl rfl (by kernel_rfl) (by kernel_rfl) (by kernel_rfl) (fun _ _ _ h => h) (by rfl) ?_ hHeld ?_; rotate_left; focus (intro w hSw; go_simp; try with_reducible rfl))
      simp only [Act.put, List.setIfInBounds_toArray, List.set_cons_zero, List.set_cons_succ]
      (refine tk_yes (v := ?_) 5 (some 22) rfl rfl (by kernel_rfl) (by kernel_rfl) (by kernel_rfl) (fun _ _ _ h => h) (by rfl) ?_ hHeld ?_; rotate_left; focus (intro w hSw; go_simp; try with_reducible rfl))
      simp only [Act.put, List.setIfInBounds_toArray, List.set_cons_zero, List.set_cons_succ]
      (refine tk_yes (v := ?_) 6 (some 23) rfl rfl (by kernel_rfl) (by kernel_rfl) (by kernel_rfl) (fun _ _ _ h => h) (by rfl) ?_ hHeld ?_; rotate_left; focus (intro w hSw; go_simp; try with_reducible rfl))
      simp only [Act.put, List.setIfInBounds_toArray, List.set_cons_zero, List.set_cons_succ]
      refine tk_st 7 (some 24) r rfl rfl (by kernel_rfl) (by kernel_rfl) (by kernel_rfl) (fun _ _ _ h => h) (by rfl) _ rfl rfl (fun w hSw => hSw.2) hHeld ?_
      simp only [Act.put, List.setIfInBounds_toArray, List.set_cons_zero, List.set_cons_succ]
      (refine tk_yes (v := ?_) 8 (some 25) rfl rfl (by kernel_rfl) (by kernel_rfl) (by kernel_rfl) (fun _ _ _ h => h) (by rfl) ?_ hHeld ?_; rotate_left; focus (intro w hSw; go_simp; try with_reducible rfl))
      simp only [Act.put, List.setIfInBounds_toArray, List.set_cons_zero, List.set_cons_succ]
      refine wpAnyH_done (by kernel_rfl) ?_ _
      refine NoPanic.normal ?_
      go_wp2
      go_roundw
      case rel => exact ⟨k + 1, by omega, by go_num, L2.out⟩
      case measure => simp [intOf]; omega
    · go_wp2
      go_ret
      exact ⟨rfl, L1.out⟩
end Go.Proofs.Ythhgochnlbiaaaa
