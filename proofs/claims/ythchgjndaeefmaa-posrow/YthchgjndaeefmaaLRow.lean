/- PosRow: requests that stand one behind another are read one by one. For every input. -/
import Derived.Test.YthchgjndaeefmaaHand
import Derived.Test.YthchgjndaeefmaaWCat
namespace Go.Proofs.Ythchgjndaeefmaa
open Go.ChangeShapes Go.WideShapes Go.ChangeAt Go.RowKit

def no2 (l : List Int) : Bool := l.all fun c => !decide (c = 2)
theorem no2_snoc (zs : List Int) (k : Nat) (h : k < zs.length) : no2 (zs.take (k + 1)) = (no2 (zs.take k) && !decide (zs.getD k 0 = 2)) := by
  rw [take_snocI zs k h, no2, List.all_append]; simp [no2]
theorem no2_all {l : List Int} (h : no2 l = true) : ∀ x ∈ l, ¬ x = 2 := by
  intro x hx; simp [no2] at h; exact h x hx
/-- The request of number i whose account and amount v tells. -/
def rq (i : Nat) (v : Int) : Ps := ⟨(i : Int), v, panK v, v + 1⟩
theorem rq_right {i : Nat} {v : Int} (h0 : 0 ≤ v) (h1 : v < 256) : rightL (rq i v) = true := right_yes (by show v ≤ 999999; omega) (panK_ok v) (by show 1 ≤ v + 1; omega) (by show v + 1 ≤ 1000000; omega)
theorem rq_ok {i : Nat} {v : Int} (hi : i < 65536) (h0 : 0 ≤ v) (h1 : v < 256) : (rq i v).Ok := ⟨⟨by show 0 ≤ (i : Int); omega, by show (i : Int) < 65536; omega⟩, by show 0 ≤ v; omega, by show v < 4294967296; omega⟩
/-- All requests from number i on, bytes ahead of each. -/
def allF (bt : List Int) : Nat → List Int → List Int
  | _, [] => []
  | i, v :: r => bt ++ (putL (rq i v) ++ allF bt (i + 1) r)
theorem allF_snoc (bt l : List Int) (v : Int) : ∀ i, allF bt i (l ++ [v]) = allF bt i l ++ bt ++ putL (rq (i + l.length) v) := by
  induction l with
  | nil => intro i; simp [allF]
  | cons u r ih => intro i; simp [allF, ih, Nat.add_assoc, Nat.add_comm 1]
theorem allF_byt {bt : List Int} (hb : Byt bt) (l : List Int) : ∀ i, Byt (allF bt i l) := by
  induction l with
  | nil => intro i x hx; cases hx
  | cons u r ih => intro i; exact byt_app hb (byt_app (putL_byt _) (ih _))
theorem row_turned {B : Nat} {w w' : World} {v : Value} {n : Nat} {l : List Int} {F : Nat → Prop} (h : Row B w v n l) (ht : Turned F w w') (hf : ∀ k, F k → k < B) : Row B w' v n l :=
  own_kept h fun k e => ht.block k (World.ownsRow.lt h k e).2 (fun hF => absurd (h.blk k e) (by have := hf k hF; omega))
theorem celk {w w' : World} {p : Addr} {v : Value} (h : w.cell? p = some v) (hb : Below w.heap.size w w') : w'.cell? p = some v := (hb.cell (World.block_lt_of_cell? w p h)).trans h
theorem blk_lt {B : Nat} {w : World} {v : Value} {n : Nat} {l : List Int} (h : Row B w v n l) : ∀ k, v.ownBlock = some k → k < w.heap.size := fun k e => (World.ownsRow.lt h k e).2
set_option maxRecDepth 20000 in
set_option maxHeartbeats 16000000 in
theorem row_walk (x0 : Option Addr) (y0 z0 : Nat) (l0 : List Int) (x1 : Option Addr) (y1 z1 : Nat) (l1 : List Int) (W : World) (h0 : InB W x0 y0 z0 l0) (h1 : InB W x1 y1 z1 l1) :
    Calls Try.prog 5 #[.slice x0 y0 z0, .slice x1 y1 z1] W fun e w' => e = .returned (.bool true) ∧ Below W.heap.size W w' := by
  have H0 := hid h0
  have H1 := hid h1
  have cp0 := Nat.le_trans h0.giv.cap1 h0.giv.cap2
  have cp1 := Nat.le_trans h1.giv.cap1 h1.giv.cap2
  have HQ0 := hid h0.giv.leq
  have HQ1 := hid h1.giv.leq
  clear h0 h1
  have K0 := hid True.intro
  by_cases j0 : 12 < y0
  · have d0 : decide ((12 : Int) < (y0 : Int)) = true := decide_eq_true (by omega)
    have d0' : decide (12 < y0) = true := decide_eq_true j0
    go_enter Try.func5, Try.ntmps5
    go_wp2_with (go_at_call 6; have kill := K0.out; refine (known6 _).mono ?_; rintro e w1 ⟨rfl, b1⟩; have B1 := hid b1; clear b1 kill K0)
    go_ret
    exact ⟨rfl, B1.out⟩
  have d0 : decide ((12 : Int) < (y0 : Int)) = false := decide_eq_false (by omega)
  have d0' : decide (12 < y0) = false := decide_eq_false j0
  by_cases j1 : 20 < y1
  · have d1 : decide ((20 : Int) < (y1 : Int)) = true := decide_eq_true (by omega)
    have d1' : decide (20 < y1) = true := decide_eq_true j1
    go_enter Try.func5, Try.ntmps5
    go_wp2_with (go_at_call 6; have kill := K0.out; refine (known6 _).mono ?_; rintro e w1 ⟨rfl, b1⟩; have B1 := hid b1; clear b1 kill K0)
    go_ret
    exact ⟨rfl, B1.out⟩
  have d1 : decide ((20 : Int) < (y1 : Int)) = false := decide_eq_false (by omega)
  have d1' : decide (20 < y1) = false := decide_eq_false j1
  go_enter Try.func5, Try.ntmps5
  go_wp2_with (go_at_call 6; have kill := K0.out; refine (known6 _).mono ?_; rintro e w1 ⟨rfl, b1⟩; have B1 := hid b1; clear b1 kill K0)
  have G1 := hid (H1.out.giv.below B1.out)
  go_loop [5] (fun i => ∃ (k : Nat), k ≤ y1 ∧ i = .int .i64 (k : Int) ∧ no2 (l1.take k) = true) (fun i => y1 - (intOf i).toNat)
  case atStart => exact ⟨0, by omega, rfl, rfl⟩
  case round =>
    obtain ⟨k, hk, rfl, hno⟩ := hrel
    have HN := hid hno
    clear hno
    by_cases hlt : k < y1
    · have HS : Hid (no2 (l1.take (k + 1)) = !decide (l1.getD k 0 = 2)) := by unfold Hid; rw [no2_snoc l1 k (by rw [HQ1.out]; exact hlt), HN.out, Bool.true_and]
      obtain ⟨b, o, rfl, hc⟩ := G1.out.cell k hlt
      generalize l1.getD k 0 = c at *
      by_cases c2' : c = 2
      · subst c2'
        clear HS
        go_wp2
        go_ret
        exact ⟨rfl, B1.out⟩
      · have HT := hid (HS.out.trans (by rw [decide_eq_false c2', Bool.not_false]))
        have e2 : (c == 2) = false := by simpa using c2'
        clear HS
        go_wp2
        go_round
        case rel => exact ⟨k + 1, by omega, by go_num, HT.out⟩
        case measure => simp [intOf]; omega
    · have hall : no2 l1 = true := by rw [← take_done (zs := l1) (k := k) (by rw [HQ1.out]; omega)]; exact HN.out
      have HAL := hid (no2_all hall)
      clear hall HN hk
      go_wp2
      go_loopw [6, 7] (fun a i wr => ∃ (k n c : Nat) (ao : Option Addr), k ≤ y0 ∧ i = .int .i64 (k : Int) ∧ a = .slice ao n c ∧ Mk w1 wr (.slice ao n c) n (allF l1 0 (l0.take k)) ∧ n ≤ 66 * k) (fun _ i _ => y0 - (intOf i).toNat)
      case atStart => exact ⟨0, 0, 0, none, by omega, rfl, rfl, Mk.nil w1, by omega⟩
      case round =>
        obtain ⟨k, n, c, ao, hk, rfl, rfl, hmk, hn⟩ := hrel
        have M := hid hmk
        clear hmk
        by_cases hlt2 : k < y0
        · obtain ⟨v, hv⟩ : ∃ v, l0.getD k 0 = v := ⟨_, rfl⟩
          have hvb := byt_getD H0.out.giv.byt k
          have G0 := hid (H0.out.giv.below (sq B1.out M.out.2))
          obtain ⟨b, o, hx0, hc⟩ := G0.out.cell k hlt2
          rw [hv] at hc hvb
          obtain ⟨v0, v1⟩ := hvb
          obtain ⟨PK, hPK⟩ : ∃ p, panK v = p := ⟨_, rfl⟩
          obtain ⟨X, hX⟩ : ∃ X, rq k v = X := ⟨_, rfl⟩
          obtain ⟨PL, hPL⟩ : ∃ p, putL X = p := ⟨_, rfl⟩
          have HPK := hid hPK
          have HXE : Hid ((⟨(k : Int), v, PK, v + 1⟩ : Ps) = X) := by rw [← hX, ← hPK]; rfl
          have XR : Hid (rightL X = true) := by rw [← hX]; exact rq_right v0 v1
          have XO : Hid X.Ok := by rw [← hX]; exact rq_ok (by omega) v0 v1
          have XP : Hid (X.pan.size ≤ 9223372036854775807) := by unfold Hid; have := (right_parts XR.out).p2; omega
          have XE : Hid (putE X = 0) := putE_yes XR.out
          have HPL := hid hPL
          have HV0 := hid v0
          have HPN : Hid (PL.length ≤ 46) := by unfold Hid; rw [← hPL, putL_len XR.out]; have := (right_parts XR.out).p2; omega
          have HT : Hid (allF l1 0 (l0.take (k + 1)) = allF l1 0 (l0.take k) ++ l1 ++ PL) := by
            unfold Hid
            rw [take_snocI l0 k (by rw [HQ0.out]; exact hlt2), allF_snoc, hv, Nat.zero_add, List.length_take, HQ0.out, Nat.min_eq_left (by omega), hX, hPL]
          obtain ⟨L, hL⟩ : ∃ L, allF l1 0 (l0.take k) = L := ⟨_, rfl⟩
          rw [hL] at HT M
          have HC := hid hc
          have fk : IntKind.u16.wrap (k : Int) = (k : Int) := by rw [IntKind.wrap_u16]; omega
          have fv : IntKind.u32.wrap v = v := by rw [IntKind.wrap_u32]; omega
          have fv2 : IntKind.i64.wrap v = v := by rw [IntKind.wrap_i64]; omega
          have fv3 : IntKind.i64.wrap (v + 1) = v + 1 := by rw [IntKind.wrap_i64]; omega
          have hk0 : (0 : Int) ≤ (k : Int) := by omega
          have hk1 : (k : Int) < (y0 : Int) := by omega
          have hkn : (k : Int).toNat = k := by omega
          subst hx0
          clear hv hPK hX hPL hL hc
          go_upto_region 14 with (fail)
          refine wp_region_noPanic ?_
          refine wp_region_held_drew (S := (fun w' : World => w'.cell? ⟨b, o + k, none⟩ = some (.int .u8 v))) (by kernel_rfl) HC.out (fun hHeld => ?_)
          have MD := hid (M.out.more (Below.refl _ wr).drew)
          (refine tk_yes (v := ?_) 0 (some 42) rfl rfl (by kernel_rfl) (by kernel_rfl) (by kernel_rfl) (fun _ _ _ h => h) (by rfl) ?_ hHeld ?_; rotate_left; focus (intro w hSw; go_simp; try with_reducible rfl))
          simp only [Act.put, List.setIfInBounds_toArray, List.set_cons_zero, List.set_cons_succ]
          (refine tk_yes (v := ?_) 1 (some 43) rfl rfl (by kernel_rfl) (by kernel_rfl) (by kernel_rfl) (fun _ _ _ h => h) (by rfl) ?_ hHeld ?_; rotate_left; focus (intro w hSw; go_simp; try with_reducible rfl))
          simp only [Act.put, List.setIfInBounds_toArray, List.set_cons_zero, List.set_cons_succ]
          (refine tk_yes (v := ?_) 2 (some 44) rfl rfl (by kernel_rfl) (by kernel_rfl) (by kernel_rfl) (fun _ _ _ h => h) (by rfl) ?_ hHeld ?_; rotate_left; focus (intro w hSw; go_simp; try with_reducible rfl))
          simp only [Act.put, List.setIfInBounds_toArray, List.set_cons_zero, List.set_cons_succ]
          (refine tk_yes (v := ?_) 3 (some 45) rfl rfl (by kernel_rfl) (by kernel_rfl) (by kernel_rfl) (fun _ _ _ h => h) (by rfl) ?_ hHeld ?_; rotate_left; focus (intro w hSw; go_simp; try with_reducible rfl))
          simp only [Act.put, List.setIfInBounds_toArray, List.set_cons_zero, List.set_cons_succ]
          (refine tk_yes (v := ?_) 4 (some 46) rfl rfl (by kernel_rfl) (by kernel_rfl) (by kernel_rfl) (fun _ _ _ h => h) (by rfl) ?_ hHeld ?_; rotate_left; focus (intro w hSw; go_simp; try with_reducible rfl))
          simp only [Act.put, List.setIfInBounds_toArray, List.set_cons_zero, List.set_cons_succ]
          (refine tk_yes (v := ?_) 7 (some 49) rfl rfl (by kernel_rfl) (by kernel_rfl) (by kernel_rfl) (fun _ _ _ h => h) (by rfl) ?_ hHeld ?_; rotate_left; focus (intro w hSw; go_simp; try with_reducible rfl))
          simp only [Act.put, List.setIfInBounds_toArray, List.set_cons_zero, List.set_cons_succ]
          (refine tk_yes (v := ?_) 8 (some 50) rfl rfl (by kernel_rfl) (by kernel_rfl) (by kernel_rfl) (fun _ _ _ h => h) (by rfl) ?_ hHeld ?_; rotate_left; focus (intro w hSw; go_simp; try with_reducible rfl))
          simp only [Act.put, List.setIfInBounds_toArray, List.set_cons_zero, List.set_cons_succ]
          (refine tk_yes (v := ?_) 9 (some 51) rfl rfl (by kernel_rfl) (by kernel_rfl) (by kernel_rfl) (fun _ _ _ h => h) (by rfl) ?_ hHeld ?_; rotate_left; focus (intro w hSw; go_simp; try with_reducible rfl))
          simp only [Act.put, List.setIfInBounds_toArray, List.set_cons_zero, List.set_cons_succ]
          (refine tk_yes (v := ?_) 12 (some 54) rfl rfl (by kernel_rfl) (by kernel_rfl) (by kernel_rfl) (fun _ _ _ h => h) (by rfl) ?_ hHeld ?_; rotate_left; focus (intro w hSw; go_simp; try with_reducible rfl))
          simp only [Act.put, List.setIfInBounds_toArray, List.set_cons_zero, List.set_cons_succ]
          (refine tk_yes (v := ?_) 13 (some 55) rfl rfl (by kernel_rfl) (by kernel_rfl) (by kernel_rfl) (fun _ _ _ h => h) (by rfl) ?_ hHeld ?_; rotate_left; focus (intro w hSw; go_simp; try with_reducible rfl))
          simp only [Act.put, List.setIfInBounds_toArray, List.set_cons_zero, List.set_cons_succ]
          (refine tk_yes (v := ?_) 14 (some 56) rfl rfl (by kernel_rfl) (by kernel_rfl) (by kernel_rfl) (fun _ _ _ h => h) (by rfl) ?_ hHeld ?_; rotate_left; focus (intro w hSw; go_simp; try with_reducible rfl))
          simp only [Act.put, List.setIfInBounds_toArray, List.set_cons_zero, List.set_cons_succ]
          (refine tk_yes (v := .int .u8 v) 5 (some 47) rfl rfl (by kernel_rfl) (by kernel_rfl) (by kernel_rfl) (fun _ _ _ h => h) (by rfl) ?_ hHeld ?_; focus (intro w hSw; have h := hSw; go_simp; try with_reducible rfl))
          simp only [Act.put, List.setIfInBounds_toArray, List.set_cons_zero, List.set_cons_succ]
          (refine tk_yes (v := .int .u8 v) 10 (some 52) rfl rfl (by kernel_rfl) (by kernel_rfl) (by kernel_rfl) (fun _ _ _ h => h) (by rfl) ?_ hHeld ?_; focus (intro w hSw; have h := hSw; go_simp; try with_reducible rfl))
          simp only [Act.put, List.setIfInBounds_toArray, List.set_cons_zero, List.set_cons_succ]
          (refine tk_yes (v := .int .u8 v) 15 (some 57) rfl rfl (by kernel_rfl) (by kernel_rfl) (by kernel_rfl) (fun _ _ _ h => h) (by rfl) ?_ hHeld ?_; focus (intro w hSw; have h := hSw; go_simp; try with_reducible rfl))
          simp only [Act.put, List.setIfInBounds_toArray, List.set_cons_zero, List.set_cons_succ]
          (refine tk_yes (v := ?_) 6 (some 48) rfl rfl (by kernel_rfl) (by kernel_rfl) (by kernel_rfl) (fun _ _ _ h => h) (by rfl) ?_ hHeld ?_; rotate_left; focus (intro w hSw; go_simp; try with_reducible rfl))
          simp only [Act.put, List.setIfInBounds_toArray, List.set_cons_zero, List.set_cons_succ]
          (refine tk_yes (v := ?_) 16 (some 58) rfl rfl (by kernel_rfl) (by kernel_rfl) (by kernel_rfl) (fun _ _ _ h => h) (by rfl) ?_ hHeld ?_; rotate_left; focus (intro w hSw; go_simp; try with_reducible rfl))
          simp only [Act.put, List.setIfInBounds_toArray, List.set_cons_zero, List.set_cons_succ]
          (refine tk_yes (v := ?_) 17 (some 59) rfl rfl (by kernel_rfl) (by kernel_rfl) (by kernel_rfl) (fun _ _ _ h => h) (by rfl) ?_ hHeld ?_; rotate_left; focus (intro w hSw; go_simp; try with_reducible rfl))
          simp only [Act.put, List.setIfInBounds_toArray, List.set_cons_zero, List.set_cons_succ]
          refine wpAnyH_ready (rs := [11]) (by kernel_rfl) (by simp) ?_
          refine AllReadyH.cons rfl (fun K hK => ?_) AllReadyH.nil
          go_simp
          go_at_call 7
          refine (pan7 v _ HV0.out).mono ?_
          rintro e wk1 ⟨rfl, l1'⟩
          rw [HPK.out]
          have MK1 := hid (MD.out.more l1')
          have HH1 := hid (celk hHeld l1')
          go_wp2_with fail
          refine hK.out _ _ HH1.out (fun hHeld => ?_)
          clear hK K l1' MD
          try simp only [Act.put, List.setIfInBounds_toArray, List.set_cons_zero, List.set_cons_succ]
          (refine tk_yes (v := X.val) 18 (some 60) rfl rfl (by kernel_rfl) (by kernel_rfl) (by kernel_rfl) (fun _ _ _ h => h) (by rfl) ?_ hHeld ?_; focus (intro w hSw; exact run_bd25 (r := X) _ _ _ _ rfl (by rw [← HXE.out]; rfl) (by rw [← HXE.out]; rfl) (by rw [← HXE.out]; rfl) (by rw [← HXE.out]; rfl) w))
          simp only [Act.put, List.setIfInBounds_toArray, List.set_cons_zero, List.set_cons_succ]
          refine wpAnyH_ready (rs := [19]) (by kernel_rfl) (by simp) ?_
          refine AllReadyH.cons rfl (fun K hK => ?_) AllReadyH.nil
          go_simp
          go_at_call 8
          refine (put8 X _ XO.out XP.out).mono ?_
          rintro e wk2 ⟨a8, n8, c8, rfl, d8⟩
          rw [HPL.out] at d8
          rw [XE.out]
          have D8 := hid d8
          have MK2 := hid (MK1.out.more d8.2)
          have HH2 := hid (celk hHeld d8.2)
          go_wp2_with fail
          refine hK.out _ _ HH2.out (fun hHeld => ?_)
          clear hK K d8
          try simp only [Act.put, List.setIfInBounds_toArray, List.set_cons_zero, List.set_cons_succ]
          (refine tk_yes (v := ?_) 20 (some 41) rfl rfl (by kernel_rfl) (by kernel_rfl) (by kernel_rfl) (fun _ _ _ h => h) (by rfl) ?_ hHeld ?_; rotate_left; focus (intro w hSw; go_simp; try with_reducible rfl))
          simp only [Act.put, List.setIfInBounds_toArray, List.set_cons_zero, List.set_cons_succ]
          (refine tk_yes (v := ?_) 21 (some 62) rfl rfl (by kernel_rfl) (by kernel_rfl) (by kernel_rfl) (fun _ _ _ h => h) (by rfl) ?_ hHeld ?_; rotate_left; focus (intro w hSw; go_simp; try with_reducible rfl))
          simp only [Act.put, List.setIfInBounds_toArray, List.set_cons_zero, List.set_cons_succ]
          (refine tk_yes (v := ?_) 22 (some 63) rfl rfl (by kernel_rfl) (by kernel_rfl) (by kernel_rfl) (fun _ _ _ h => h) (by rfl) ?_ hHeld ?_; rotate_left; focus (intro w hSw; go_simp; try with_reducible rfl))
          simp only [Act.put, List.setIfInBounds_toArray, List.set_cons_zero, List.set_cons_succ]
          (refine tk_yes (v := ?_) 23 (some 8) rfl rfl (by kernel_rfl) (by kernel_rfl) (by kernel_rfl) (fun _ _ _ h => h) (by rfl) ?_ hHeld ?_; rotate_left; focus (intro w hSw; go_simp; try with_reducible rfl))
          simp only [Act.put, List.setIfInBounds_toArray, List.set_cons_zero, List.set_cons_succ]
          (refine tk_yes (v := ?_) 24 (some 9) rfl rfl (by kernel_rfl) (by kernel_rfl) (by kernel_rfl) (fun _ _ _ h => h) (by rfl) ?_ hHeld ?_; rotate_left; focus (intro w hSw; go_simp; try with_reducible rfl))
          simp only [Act.put, List.setIfInBounds_toArray, List.set_cons_zero, List.set_cons_succ]
          refine wpAnyH_done (by kernel_rfl) ?_ _
          refine NoPanic.normal ?_
          have GB := hid (H1.out.giv.below (sq B1.out MK2.out.2))
          clear HH1 HH2 hHeld
          go_wp2_with (first | (at_builtin; have kill := M4.out; refine app_row (l2 := PL) M4.out.1 D4.out.at D4.out.len D4.out.caps.1 M4.out.2.size (by have h1 := HPN.out; have h2 := D4.out.len; omega) rfl _ _ rfl rfl rfl ?_; intro a5 c5 w5 r5 t5; have M5 := hid (M4.out.next r5 t5); have D5 := hid D4.out.len; clear r5 t5 kill M4 D4) | (at_builtin; have kill := D8.out; refine app_row (l2 := l1) MK2.out.1 GB.out.row HQ1.out H1.out.nil MK2.out.2.size (by omega) rfl _ _ rfl rfl rfl ?_; intro a4 c4 w4 r4 t4; have M4 := hid (MK2.out.next r4 t4); have D4 := hid (row_turned D8.out.1 t4 (blk_lt MK1.out.1)); clear r4 t4 kill D8 MK2 MK1))
          go_roundw
          case rel => exact ⟨k + 1, n + y1 + n8, c5, a5, by omega, by go_num, rfl, by rw [HT.out]; exact M5.out, by have h1 := HPN.out; have h2 := D5.out; omega⟩
          case measure => simp [intOf]; omega
        · have GA : Hid (Given wr ao n c (allF l1 0 l0)) := by
            have := M.out.given (allF_byt H1.out.giv.byt _ _)
            rwa [take_done (zs := l0) (k := k) (by rw [HQ0.out]; omega)] at this
          have BA := hid (sq B1.out M.out.2)
          have hn9 : n ≤ 900000 := by omega
          clear M hn
          go_wp2
          go_loopw [6, 10] (fun a i wq => ∃ (k n c : Nat) (ao : Option Addr), k ≤ y0 ∧ i = .int .i64 (k : Int) ∧ a = .slice ao n c ∧ Given wq ao n c (allF l1 k (l0.drop k)) ∧ n ≤ 900000 ∧ Below W.heap.size W wq) (fun _ i _ => y0 - (intOf i).toNat)
          case atStart => exact ⟨0, n, c, ao, by omega, rfl, rfl, GA.out, hn9, BA.out⟩
          case round =>
            obtain ⟨j, n2, c2, a2, hj, rfl, rfl, hg, hn2, hb⟩ := hrel
            have G := hid hg
            have BQ := hid hb
            clear hg hb GA BA
            by_cases hlt3 : j < y0
            · obtain ⟨v, hv⟩ : ∃ v, l0.getD j 0 = v := ⟨_, rfl⟩
              have hvb := byt_getD H0.out.giv.byt j
              have G0 := hid (H0.out.giv.below BQ.out)
              obtain ⟨b, o, hx0, hc⟩ := G0.out.cell j hlt3
              rw [hv] at hc hvb
              obtain ⟨v0, v1⟩ := hvb
              obtain ⟨PK, hPK⟩ : ∃ p, panK v = p := ⟨_, rfl⟩
              obtain ⟨X, hX⟩ : ∃ X, rq j v = X := ⟨_, rfl⟩
              have HPK := hid hPK
              have HXE : Hid ((⟨(j : Int), v, PK, v + 1⟩ : Ps) = X) := by rw [← hX, ← hPK]; rfl
              have XR : Hid (rightL X = true) := by rw [← hX]; exact rq_right v0 v1
              have XO : Hid X.Ok := by rw [← hX]; exact rq_ok (by omega) v0 v1
              have HV0 := hid v0
              have hzz : allF l1 j (l0.drop j) = l1 ++ (putL X ++ allF l1 (j + 1) (l0.drop (j + 1))) := by
                rw [drop_cons l0 j (by rw [HQ0.out]; exact hlt3), hv, allF, hX]
              have hrd := rd_put XO.out XR.out l1 (allF l1 (j + 1) (l0.drop (j + 1))) HAL.out
              have hun := (uf_put XR.out l1 (allF l1 (j + 1) (l0.drop (j + 1))) HAL.out).2.1
              obtain ⟨NN, hNN⟩ : ∃ m, l1.length + (putL X).length = m := ⟨_, rfl⟩
              rw [← hzz] at hrd hun
              rw [hNN] at hun
              have hpos : 1 ≤ NN := by rw [← hNN, putL_len XR.out]; omega
              have hdr : (allF l1 j (l0.drop j)).drop NN = allF l1 (j + 1) (l0.drop (j + 1)) := by
                rw [hzz, ← hNN, ← List.append_assoc, ← List.length_append]; exact List.drop_left
              have hle : NN ≤ n2 := by
                rw [← G.out.leq, hzz, ← hNN]; simp
              obtain ⟨zs, hzs⟩ : ∃ zs, allF l1 j (l0.drop j) = zs := ⟨_, rfl⟩
              rw [hzs] at hrd hun hdr G
              have HRD := hid (And.intro hrd.1 (And.intro hun hrd.2))
              have HDR := hid hdr
              have hcap := G.out.cap1
              obtain ⟨a9, r9, g9, _⟩ := sub_l (ao := a2) (len := n2) (cap := c2) NN (NN : Int) rfl hle hcap
              have HG9 := hid g9
              have HC := hid hc
              have fk : IntKind.u16.wrap (j : Int) = (j : Int) := by rw [IntKind.wrap_u16]; omega
              have fv : IntKind.u32.wrap v = v := by rw [IntKind.wrap_u32]; omega
              have fv2 : IntKind.i64.wrap v = v := by rw [IntKind.wrap_i64]; omega
              have fv3 : IntKind.i64.wrap (v + 1) = v + 1 := by rw [IntKind.wrap_i64]; omega
              have hj0 : (0 : Int) ≤ (j : Int) := by omega
              have hj1 : (j : Int) < (y0 : Int) := by omega
              have hjn : (j : Int).toNat = j := by omega
              have g1 : decide ((NN : Int) < 1) = false := decide_eq_false (by omega)
              have g1' : decide (NN < 1) = false := decide_eq_false (by omega)
              have g2 : decide ((n2 : Int) < (NN : Int)) = false := decide_eq_false (by omega)
              have g2' : decide (n2 < NN) = false := decide_eq_false (by omega)
              have qg := fun x y w => (eqg25 X X x y w).2
              have qb : ∀ w, (binOp .neq 25 X.val X.val).run Try.prog w = .ok (.bool false) w := fun w => by
                have h := (gbin X X w).2; simpa using h
              subst hx0
              clear hv hPK hX hzz hrd hun hNN hdr hzs hc g9
              go_upto_region 22 with (first | (have kill := X3.out; refine st25 (r := X) X3.out L3.out hb11 rfl _ _ rfl rfl rfl ?_; intro w4 v4 l4; have X4 := hid v4; have B4 := hid (sq B2.out l4); have C4 := hid (celk C2.out l4); have G4 := hid (G2.out.below l4); clear v4 l4 kill X3 L3 B2 C2 G2) | (refine al25 rfl rfl ?_; have kill := B2.out; intro b11 w3 hb11 v3 l3; have X3 := hid v3; have L3 := hid l3; clear v3 l3 kill) | (go_at_call 12; have kill := BQ.out; refine (read12 _ _ _ zs _ G.out hn2).mono ?_; rintro e w2 ⟨rfl, l2⟩; rw [HRD.out.1, HRD.out.2.1, HRD.out.2.2]; have B2 := hid (sq BQ.out l2); have C2 := hid (celk HC.out l2); have G2 := hid (G.out.below l2); clear l2 kill BQ G HC))
              refine wp_region_noPanic ?_
              refine wp_region_held_drew (S := (fun w' : World => w'.rangeAt b11 0 X.cells ∧ w'.cell? ⟨b, o + j, none⟩ = some (.int .u8 v))) (by kernel_rfl) ⟨X4.out.at0, C4.out⟩ (fun hHeld => ?_)
              have BD := hid (B4.out.drew)
              have GD := hid (G4.out.below (Below.refl _ w4).drew)
              (refine tk_yes (v := ?_) 0 (some 83) rfl rfl (by kernel_rfl) (by kernel_rfl) (by kernel_rfl) (fun _ _ _ h => h) (by rfl) ?_ hHeld ?_; rotate_left; focus (intro w hSw; go_simp; try with_reducible rfl))
              simp only [Act.put, List.setIfInBounds_toArray, List.set_cons_zero, List.set_cons_succ]
              (refine tk_yes (v := ?_) 1 (some 84) rfl rfl (by kernel_rfl) (by kernel_rfl) (by kernel_rfl) (fun _ _ _ h => h) (by rfl) ?_ hHeld ?_; rotate_left; focus (intro w hSw; go_simp; try with_reducible rfl))
              simp only [Act.put, List.setIfInBounds_toArray, List.set_cons_zero, List.set_cons_succ]
              (refine tk_yes (v := ?_) 2 (some 85) rfl rfl (by kernel_rfl) (by kernel_rfl) (by kernel_rfl) (fun _ _ _ h => h) (by rfl) ?_ hHeld ?_; rotate_left; focus (intro w hSw; go_simp; try with_reducible rfl))
              simp only [Act.put, List.setIfInBounds_toArray, List.set_cons_zero, List.set_cons_succ]
              (refine tk_yes (v := ?_) 3 (some 86) rfl rfl (by kernel_rfl) (by kernel_rfl) (by kernel_rfl) (fun _ _ _ h => h) (by rfl) ?_ hHeld ?_; rotate_left; focus (intro w hSw; go_simp; try with_reducible rfl))
              simp only [Act.put, List.setIfInBounds_toArray, List.set_cons_zero, List.set_cons_succ]
              (refine tk_yes (v := ?_) 4 (some 87) rfl rfl (by kernel_rfl) (by kernel_rfl) (by kernel_rfl) (fun _ _ _ h => h) (by rfl) ?_ hHeld ?_; rotate_left; focus (intro w hSw; go_simp; try with_reducible rfl))
              simp only [Act.put, List.setIfInBounds_toArray, List.set_cons_zero, List.set_cons_succ]
              (refine tk_yes (v := ?_) 5 (some 88) rfl rfl (by kernel_rfl) (by kernel_rfl) (by kernel_rfl) (fun _ _ _ h => h) (by rfl) ?_ hHeld ?_; rotate_left; focus (intro w hSw; go_simp; try with_reducible rfl))
              simp only [Act.put, List.setIfInBounds_toArray, List.set_cons_zero, List.set_cons_succ]
              (refine tk_yes (v := ?_) 6 (some 89) rfl rfl (by kernel_rfl) (by kernel_rfl) (by kernel_rfl) (fun _ _ _ h => h) (by rfl) ?_ hHeld ?_; rotate_left; focus (intro w hSw; go_simp; try with_reducible rfl))
              simp only [Act.put, List.setIfInBounds_toArray, List.set_cons_zero, List.set_cons_succ]
              (refine tk_yes (v := ?_) 7 (some 90) rfl rfl (by kernel_rfl) (by kernel_rfl) (by kernel_rfl) (fun _ _ _ h => h) (by rfl) ?_ hHeld ?_; rotate_left; focus (intro w hSw; go_simp; try with_reducible rfl))
              simp only [Act.put, List.setIfInBounds_toArray, List.set_cons_zero, List.set_cons_succ]
              (refine tk_yes (v := ?_) 8 (some 91) rfl rfl (by kernel_rfl) (by kernel_rfl) (by kernel_rfl) (fun _ _ _ h => h) (by rfl) ?_ hHeld ?_; rotate_left; focus (intro w hSw; go_simp; try with_reducible rfl))
              simp only [Act.put, List.setIfInBounds_toArray, List.set_cons_zero, List.set_cons_succ]
              (refine tk_yes (v := ?_) 9 (some 92) rfl rfl (by kernel_rfl) (by kernel_rfl) (by kernel_rfl) (fun _ _ _ h => h) (by rfl) ?_ hHeld ?_; rotate_left; focus (intro w hSw; go_simp; try with_reducible rfl))
              simp only [Act.put, List.setIfInBounds_toArray, List.set_cons_zero, List.set_cons_succ]
              (refine tk_yes (v := ?_) 10 (some 93) rfl rfl (by kernel_rfl) (by kernel_rfl) (by kernel_rfl) (fun _ _ _ h => h) (by rfl) ?_ hHeld ?_; rotate_left; focus (intro w hSw; go_simp; try with_reducible rfl))
              simp only [Act.put, List.setIfInBounds_toArray, List.set_cons_zero, List.set_cons_succ]
              (refine tk_yes (v := ?_) 11 (some 94) rfl rfl (by kernel_rfl) (by kernel_rfl) (by kernel_rfl) (fun _ _ _ h => h) (by rfl) ?_ hHeld ?_; rotate_left; focus (intro w hSw; go_simp; try with_reducible rfl))
              simp only [Act.put, List.setIfInBounds_toArray, List.set_cons_zero, List.set_cons_succ]
              (refine tk_yes (v := ?_) 12 (some 95) rfl rfl (by kernel_rfl) (by kernel_rfl) (by kernel_rfl) (fun _ _ _ h => h) (by rfl) ?_ hHeld ?_; rotate_left; focus (intro w hSw; go_simp; try with_reducible rfl))
              simp only [Act.put, List.setIfInBounds_toArray, List.set_cons_zero, List.set_cons_succ]
              (refine tk_yes (v := ?_) 14 (some 97) rfl rfl (by kernel_rfl) (by kernel_rfl) (by kernel_rfl) (fun _ _ _ h => h) (by rfl) ?_ hHeld ?_; rotate_left; focus (intro w hSw; go_simp; try with_reducible rfl))
              simp only [Act.put, List.setIfInBounds_toArray, List.set_cons_zero, List.set_cons_succ]
              (refine tk_yes (v := ?_) 15 (some 98) rfl rfl (by kernel_rfl) (by kernel_rfl) (by kernel_rfl) (fun _ _ _ h => h) (by rfl) ?_ hHeld ?_; rotate_left; focus (intro w hSw; go_simp; try with_reducible rfl))
              simp only [Act.put, List.setIfInBounds_toArray, List.set_cons_zero, List.set_cons_succ]
              (refine tk_yes (v := ?_) 16 (some 99) rfl rfl (by kernel_rfl) (by kernel_rfl) (by kernel_rfl) (fun _ _ _ h => h) (by rfl) ?_ hHeld ?_; rotate_left; focus (intro w hSw; go_simp; try with_reducible rfl))
              simp only [Act.put, List.setIfInBounds_toArray, List.set_cons_zero, List.set_cons_succ]
              (refine tk_yes (v := ?_) 17 (some 100) rfl rfl (by kernel_rfl) (by kernel_rfl) (by kernel_rfl) (fun _ _ _ h => h) (by rfl) ?_ hHeld ?_; rotate_left; focus (intro w hSw; go_simp; try with_reducible rfl))
              simp only [Act.put, List.setIfInBounds_toArray, List.set_cons_zero, List.set_cons_succ]
              (refine tk_yes (v := ?_) 18 (some 101) rfl rfl (by kernel_rfl) (by kernel_rfl) (by kernel_rfl) (fun _ _ _ h => h) (by rfl) ?_ hHeld ?_; rotate_left; focus (intro w hSw; go_simp; try with_reducible rfl))
              simp only [Act.put, List.setIfInBounds_toArray, List.set_cons_zero, List.set_cons_succ]
              (refine tk_yes (v := ?_) 21 (some 104) rfl rfl (by kernel_rfl) (by kernel_rfl) (by kernel_rfl) (fun _ _ _ h => h) (by rfl) ?_ hHeld ?_; rotate_left; focus (intro w hSw; go_simp; try with_reducible rfl))
              simp only [Act.put, List.setIfInBounds_toArray, List.set_cons_zero, List.set_cons_succ]
              (refine tk_yes (v := ?_) 22 (some 105) rfl rfl (by kernel_rfl) (by kernel_rfl) (by kernel_rfl) (fun _ _ _ h => h) (by rfl) ?_ hHeld ?_; rotate_left; focus (intro w hSw; go_simp; try with_reducible rfl))
              simp only [Act.put, List.setIfInBounds_toArray, List.set_cons_zero, List.set_cons_succ]
              (refine tk_yes (v := ?_) 23 (some 106) rfl rfl (by kernel_rfl) (by kernel_rfl) (by kernel_rfl) (fun _ _ _ h => h) (by rfl) ?_ hHeld ?_; rotate_left; focus (intro w hSw; go_simp; try with_reducible rfl))
              simp only [Act.put, List.setIfInBounds_toArray, List.set_cons_zero, List.set_cons_succ]
              (refine tk_yes (v := ?_) 26 (some 109) rfl rfl (by kernel_rfl) (by kernel_rfl) (by kernel_rfl) (fun _ _ _ h => h) (by rfl) ?_ hHeld ?_; rotate_left; focus (intro w hSw; go_simp; try with_reducible rfl))
              simp only [Act.put, List.setIfInBounds_toArray, List.set_cons_zero, List.set_cons_succ]
              (refine tk_yes (v := ?_) 27 (some 110) rfl rfl (by kernel_rfl) (by kernel_rfl) (by kernel_rfl) (fun _ _ _ h => h) (by rfl) ?_ hHeld ?_; rotate_left; focus (intro w hSw; go_simp; try with_reducible rfl))
              simp only [Act.put, List.setIfInBounds_toArray, List.set_cons_zero, List.set_cons_succ]
              (refine tk_yes (v := ?_) 28 (some 111) rfl rfl (by kernel_rfl) (by kernel_rfl) (by kernel_rfl) (fun _ _ _ h => h) (by rfl) ?_ hHeld ?_; rotate_left; focus (intro w hSw; go_simp; try with_reducible rfl))
              simp only [Act.put, List.setIfInBounds_toArray, List.set_cons_zero, List.set_cons_succ]
              refine tk_ps 13 (some 96) X rfl rfl (by kernel_rfl) (by kernel_rfl) (by kernel_rfl) (fun _ _ _ h => h) (by rfl) _ rfl rfl (fun w hSw => hSw.1) hHeld ?_
              simp only [Act.put, List.setIfInBounds_toArray, List.set_cons_zero, List.set_cons_succ]
              (refine tk_yes (v := .int .u8 v) 19 (some 102) rfl rfl (by kernel_rfl) (by kernel_rfl) (by kernel_rfl) (fun _ _ _ h => h) (by rfl) ?_ hHeld ?_; focus (intro w hSw; have h := hSw.2; go_simp; try with_reducible rfl))
              simp only [Act.put, List.setIfInBounds_toArray, List.set_cons_zero, List.set_cons_succ]
              (refine tk_yes (v := .int .u8 v) 24 (some 107) rfl rfl (by kernel_rfl) (by kernel_rfl) (by kernel_rfl) (fun _ _ _ h => h) (by rfl) ?_ hHeld ?_; focus (intro w hSw; have h := hSw.2; go_simp; try with_reducible rfl))
              simp only [Act.put, List.setIfInBounds_toArray, List.set_cons_zero, List.set_cons_succ]
              (refine tk_yes (v := .int .u8 v) 29 (some 112) rfl rfl (by kernel_rfl) (by kernel_rfl) (by kernel_rfl) (fun _ _ _ h => h) (by rfl) ?_ hHeld ?_; focus (intro w hSw; have h := hSw.2; go_simp; try with_reducible rfl))
              simp only [Act.put, List.setIfInBounds_toArray, List.set_cons_zero, List.set_cons_succ]
              (refine tk_yes (v := ?_) 20 (some 103) rfl rfl (by kernel_rfl) (by kernel_rfl) (by kernel_rfl) (fun _ _ _ h => h) (by rfl) ?_ hHeld ?_; rotate_left; focus (intro w hSw; go_simp; try with_reducible rfl))
              simp only [Act.put, List.setIfInBounds_toArray, List.set_cons_zero, List.set_cons_succ]
              (refine tk_yes (v := ?_) 30 (some 113) rfl rfl (by kernel_rfl) (by kernel_rfl) (by kernel_rfl) (fun _ _ _ h => h) (by rfl) ?_ hHeld ?_; rotate_left; focus (intro w hSw; go_simp; try with_reducible rfl))
              simp only [Act.put, List.setIfInBounds_toArray, List.set_cons_zero, List.set_cons_succ]
              (refine tk_yes (v := ?_) 31 (some 114) rfl rfl (by kernel_rfl) (by kernel_rfl) (by kernel_rfl) (fun _ _ _ h => h) (by rfl) ?_ hHeld ?_; rotate_left; focus (intro w hSw; go_simp; try with_reducible rfl))
              simp only [Act.put, List.setIfInBounds_toArray, List.set_cons_zero, List.set_cons_succ]
              refine wpAnyH_ready (rs := [25]) (by kernel_rfl) (by simp) ?_
              refine AllReadyH.cons rfl (fun K hK => ?_) AllReadyH.nil
              go_simp
              go_at_call 7
              refine (pan7 v _ HV0.out).mono ?_
              rintro e wk1 ⟨rfl, l1'⟩
              rw [HPK.out]
              have B5 := hid (sq BD.out l1')
              have G5 := hid (GD.out.below l1')
              have HH1 : Hid ((fun w' : World => w'.rangeAt b11 0 X.cells ∧ w'.cell? ⟨b, o + j, none⟩ = some (.int .u8 v)) wk1) := ⟨range_kept hHeld.1 (l1'.block _ (World.block_lt_of_cell? _ _ (hHeld.1 0 _ rfl))), celk hHeld.2 l1'⟩
              go_wp2_with fail
              refine hK.out _ _ HH1.out (fun hHeld => ?_)
              clear hK K l1' 
              try simp only [Act.put, List.setIfInBounds_toArray, List.set_cons_zero, List.set_cons_succ]
              (refine tk_yes (v := X.val) 32 (some 115) rfl rfl (by kernel_rfl) (by kernel_rfl) (by kernel_rfl) (fun _ _ _ h => h) (by rfl) ?_ hHeld ?_; focus (intro w hSw; exact run_bd25 (r := X) _ _ _ _ rfl (by rw [← HXE.out]; rfl) (by rw [← HXE.out]; rfl) (by rw [← HXE.out]; rfl) (by rw [← HXE.out]; rfl) w))
              simp only [Act.put, List.setIfInBounds_toArray, List.set_cons_zero, List.set_cons_succ]
              (refine tk_yes (v := .bool false) 33 (some 116) rfl rfl (by kernel_rfl) (by kernel_rfl) (by kernel_rfl) (fun _ _ _ h => h) (by rfl) ?_ hHeld ?_; focus (intro w hSw; have h1 := qg; have h2 := qb; go_simp; try with_reducible rfl))
              simp only [Act.put, List.setIfInBounds_toArray, List.set_cons_zero, List.set_cons_succ]
              (refine tk_yes (v := ?_) 34 (some 117) rfl rfl (by kernel_rfl) (by kernel_rfl) (by kernel_rfl) (fun _ _ _ h => h) (by rfl) ?_ hHeld ?_; rotate_left; focus (intro w hSw; go_simp; try with_reducible rfl))
              simp only [Act.put, List.setIfInBounds_toArray, List.set_cons_zero, List.set_cons_succ]
              refine wpAnyH_done (by kernel_rfl) ?_ _
              refine NoPanic.normal ?_
              clear HH1 hHeld BD GD
              go_wp2
              go_roundw
              case rel => exact ⟨j + 1, n2 - NN, c2 - NN, a9, by omega, by go_num, rfl, by have := HG9.out _ _ G5.out; rwa [HDR.out] at this, by omega, B5.out⟩
              case measure => simp [intOf]; omega
            · have h0 : n2 = 0 := by
                have := G.out.leq
                rw [List.drop_of_length_le (by rw [HQ0.out]; omega)] at this
                simpa [allF] using this.symm
              subst h0
              go_wp2
              go_ret
              exact ⟨rfl, BQ.out⟩
theorem posRow_own : ownKnob Try.prog.godebug = none := by kernel_rfl
theorem posRow_laid : laidOutB Try.prog = true := by kernel_rfl

set_option maxRecDepth 100000 in
set_option maxHeartbeats 1000000 in
theorem posRow_lifted (os : Os) (started : os.Started) (H : Type) (enc : TypeId × Value → H) :
    ReturnsInHanded {} Try.checked os 5 .any (Rows.posRowSpec.pre6 enc Try.prog Try.f5 Rows.posRowRow.domain false) (Rows.posRowSpec.post enc Try.prog Try.f5 false true false false) := by
  refine returnsInHanded_of_change (C := Try.checked) posRow_own started (by kernel_rfl) Try.func5
    (ChangeSpec.witness6 (enc := enc) (C := Try.checked) false ⟨#[], #[.slice none 0 0, .slice none 0 0], []⟩ 8 (by kernel_rfl) (by kernel_rfl) (by kernel_rfl) (by kernel_rfl)) ?_
  intro W base args ds gs before hval0 hW hcnd _
  have hval : ∀ (j : Nat) t v, Try.f5.params[j]? = some t → args[j]? = some v → Value.okWide Try.prog W .any base t v := hval0
  have hW' := hW
  obtain ⟨p, q, hA0, hV, rfl, hfz, hnd⟩ := hW
  have hA : DataW.TrodAll enc Try.prog W 0 (fun _ => true) true Try.f5.params.toList args.toList ds p := hA0
  rw [Try.params5] at hA hval
  obtain ⟨v0, vs0, d0, ds0, p0, q0, hargs, rfl, rfl, h0, r0⟩ := trodAll_cons hA
  obtain ⟨v1, vs1, d1, ds1, p1, q1, rfl, rfl, rfl, h1, r1⟩ := trodAll_cons r0
  obtain ⟨rfl, rfl, rfl⟩ := trodAll_nil r1
  obtain rfl : args = #[v0, v1] := by cases args; simp_all
  obtain ⟨rfl, rfl⟩ := trodVars_none hV
  obtain ⟨x0, y0, z0, rfl⟩ := okWide_slice Try.underlying26 (hval 0 26 v0 rfl rfl)
  have k0 := h0
  have lt0 : ∀ x ∈ p0, x.block < W.heap.size := by obtain ⟨m, hm⟩ := k0; exact DataW.trod_lt m _ _ _ hm
  obtain ⟨a0, len0, cap0, l0, e0, w0⟩ : ∃ a len cap l, Value.slice x0 y0 z0 = .slice a len cap ∧ InB W a len cap l := by
    obtain ⟨fuel, hf⟩ := h0
    exact open_inB hf
  cases e0
  obtain ⟨x1, y1, z1, rfl⟩ := okWide_slice Try.underlying26 (hval 1 26 v1 rfl rfl)
  have k1 := h1
  have lt1 : ∀ x ∈ p1, x.block < W.heap.size := by obtain ⟨m, hm⟩ := k1; exact DataW.trod_lt m _ _ _ hm
  obtain ⟨a1, len1, cap1, l1, e1, w1⟩ : ∃ a len cap l, Value.slice x1 y1 z1 = .slice a len cap ∧ InB W a len cap l := by
    obtain ⟨fuel, hf⟩ := h1
    exact open_inB hf
  cases e1
  clear hA0 hval0
  refine (row_walk x0 y0 z0 l0 x1 y1 z1 l1 W w0 w1).mono fun e W' ⟨he, bel⟩ => ?_
  subst he
  exact ⟨_, rfl, _, _, _, [], _, [], hW', trodAll_mk1 (shut_bool Try.underlying4 _), (trodAll_cons_mk (Below.trod posRow_laid (by kernel_rfl) (of_decide_eq_true (by kernel_rfl)) k0 bel lt0) (trodAll_cons_mk (Below.trod posRow_laid (by kernel_rfl) (of_decide_eq_true (by kernel_rfl)) k1 bel lt1) trodAll_mk0)), rfl, bel.frame _, fun h => by cases h⟩

theorem posRow_over : Rows.posRowRow.holds Try.pinned (OpenSpec.ofChange Rows.posRowSpec) :=
  OpenClaim.holds_of_wide 5 Try.f5 rfl rfl rfl rfl rfl rfl rfl ⟨rfl, rfl, rfl, rfl, rfl⟩ rfl rfl rfl rfl rfl (by kernel_rfl) Try.func5 (by kernel_rfl)
    (of_decide_eq_true (by kernel_rfl)) (by unfold Func.isWrapper; first | (rw [if_pos (by decide +kernel)]; kernel_rfl) | (rw [if_neg (by decide +kernel)]; exact ⟨rfl, rfl⟩))
    (fun os started H enc _ => posRow_lifted os started H enc)

/-- The statement. -/
theorem posRow_holds : Rows.PosRowSaid := posRow_over
#print axioms posRow_holds
end Go.Proofs.Ythchgjndaeefmaa
