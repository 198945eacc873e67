/- The statements' helps: lists of records held against one another, made, measured; a disk's calls. -/
import Derived.Test.YthhgnflkplpklaaJSame
namespace Go.Proofs.Ythhgnflkplpklaa
set_option maxRecDepth 20000
open Go.ChangeShapes Go.WideShapes Go.ChangeAt Go.RowKit
open Dsc (Dk Sec Dat Feet tc hid sq bel1 newD reopD cutD)
open Frm (Rc putL rightB bytesL num Given Mk Row RowAt RV al29 st29 ld29 seatR)
open Classical in
theorem same_run (r s : Rc) (e : Operand → Value) (x y : Operand) (w : World) {o : Oper} (ho : o.op = .binOp .neq 50 x y 50) (hx : e x = r.val) (hy : e y = s.val) : (execOp e o).run Try.prog w = .ok (.value (.bool (!decide (r = s)))) w := by
  unfold execOp
  simp only [ho, hx, hy, Sem.run_bind]
  have h := (gbin r s w).2
  have g := (Frm.eqg29 r s x y w).2
  simp [h, g]
open Classical in
set_option maxHeartbeats 4000000 in
theorem recs_same {w : World} {ao1 ao2 : Option Addr} {n1 c1 n2 c2 : Nat} {l1 l2 : List Rc} (h1 : RG w ao1 n1 c1 l1) (h2 : RG w ao2 n2 c2 l2) :
    Calls Try.prog 21 #[.slice ao1 n1 c1, .slice ao2 n2 c2] w fun e w' => e = .returned (.bool (decide (l1 = l2))) ∧ Below w.heap.size w w' := by
  have H1 := hid h1
  have H2 := hid h2
  have q1 := h1.leq
  have q2 := h2.leq
  have k1 := h1.cap1
  have k2 := h2.cap1
  have m1 := h1.cap2
  have m2 := h2.cap2
  clear h1 h2
  by_cases hn : n1 = n2
  · subst hn
    go_enter Try.func21, Try.ntmps21
    go_wp2
    go_loopw [5] (fun i wr => ∃ k : Nat, k ≤ n1 ∧ i = .int .i64 (k : Int) ∧ Below w.heap.size w wr ∧ l1.take k = l2.take k) (fun i _ => n1 - (intOf i).toNat)
    case atStart => exact ⟨0, by omega, rfl, Below.refl _ _, rfl⟩
    case round =>
      obtain ⟨k, hk, rfl, kb, et⟩ := hrel
      have KB := hid kb
      have ET := hid et
      clear kb et
      by_cases hlt : k < n1
      · obtain ⟨r, hr⟩ : ∃ r, l1[k]? = some r := ⟨l1[k]'(by omega), by simp⟩
        obtain ⟨s, hs⟩ : ∃ s, l2[k]? = some s := ⟨l2[k]'(by omega), by simp⟩
        obtain ⟨b1, o1, rfl, ra⟩ := (H1.out.below KB.out).at hr
        obtain ⟨b2, o2, rfl, rb⟩ := (H2.out.below KB.out).at hs
        have RA := hid ra
        have RB := hid rb
        have HR := hid hr
        have HS := hid hs
        clear ra rb hr hs
        obtain ⟨B, hB⟩ : ∃ B, (!decide (r = s)) = B := ⟨_, rfl⟩
        have HB := hid hB
        clear hB
        go_wp2
        refine wp_region_noPanic ?_
        refine wp_region_held_drew (S := (fun w' : World => w'.rangeAt b1 (o1 + k * 17) r.cells ∧ w'.rangeAt b2 (o2 + k * 17) s.cells)) (by kernel_rfl) ⟨RA.out, RB.out⟩ (fun hHeld => ?_)
        (refine Dsc.tk_yes (v := ?_) 0 (some 17) rfl rfl (by kernel_rfl) (by kernel_rfl) (by kernel_rfl) (fun _ _ _ h => h) (by rfl) ?_ hHeld ?_; rotate_left; focus (intro w hSw; go_simp; try with_reducible rfl))
        simp only [Act.put, List.setIfInBounds_toArray, List.set_cons_zero, List.set_cons_succ]
        (refine Dsc.tk_yes (v := ?_) 1 (some 18) rfl rfl (by kernel_rfl) (by kernel_rfl) (by kernel_rfl) (fun _ _ _ h => h) (by rfl) ?_ hHeld ?_; rotate_left; focus (intro w hSw; go_simp; try with_reducible rfl))
        simp only [Act.put, List.setIfInBounds_toArray, List.set_cons_zero, List.set_cons_succ]
        (refine Dsc.tk_yes (v := ?_) 2 (some 19) rfl rfl (by kernel_rfl) (by kernel_rfl) (by kernel_rfl) (fun _ _ _ h => h) (by rfl) ?_ hHeld ?_; rotate_left; focus (intro w hSw; go_simp; try with_reducible rfl))
        simp only [Act.put, List.setIfInBounds_toArray, List.set_cons_zero, List.set_cons_succ]
        (refine Dsc.tk_yes (v := ?_) 4 (some 21) rfl rfl (by kernel_rfl) (by kernel_rfl) (by kernel_rfl) (fun _ _ _ h => h) (by rfl) ?_ hHeld ?_; rotate_left; focus (intro w hSw; go_simp; try with_reducible rfl))
        simp only [Act.put, List.setIfInBounds_toArray, List.set_cons_zero, List.set_cons_succ]
        (refine Dsc.tk_yes (v := ?_) 5 (some 22) rfl rfl (by kernel_rfl) (by kernel_rfl) (by kernel_rfl) (fun _ _ _ h => h) (by rfl) ?_ hHeld ?_; rotate_left; focus (intro w hSw; go_simp; try with_reducible rfl))
        simp only [Act.put, List.setIfInBounds_toArray, List.set_cons_zero, List.set_cons_succ]
        (refine Dsc.tk_yes (v := ?_) 6 (some 23) rfl rfl (by kernel_rfl) (by kernel_rfl) (by kernel_rfl) (fun _ _ _ h => h) (by rfl) ?_ hHeld ?_; rotate_left; focus (intro w hSw; go_simp; try with_reducible rfl))
        simp only [Act.put, List.setIfInBounds_toArray, List.set_cons_zero, List.set_cons_succ]
        refine Dsc.tk_ld 3 (some 20) rfl rfl (by kernel_rfl) (by kernel_rfl) (by kernel_rfl) (fun _ _ _ h => h) (by rfl) 50 _ rfl rfl (fun w h => h.1) Try.underlying50 rfl Frm.n29 hHeld ?_
        simp only [Act.put, List.setIfInBounds_toArray, List.set_cons_zero, List.set_cons_succ]
        refine Dsc.tk_ld 7 (some 24) rfl rfl (by kernel_rfl) (by kernel_rfl) (by kernel_rfl) (fun _ _ _ h => h) (by rfl) 50 _ rfl rfl (fun w h => h.2) Try.underlying50 rfl Frm.n29 hHeld ?_
        simp only [Act.put, List.setIfInBounds_toArray, List.set_cons_zero, List.set_cons_succ]
        (refine Dsc.tk_yes (v := .bool B) 8 (some 25) rfl rfl (by kernel_rfl) (by kernel_rfl) (by kernel_rfl) (fun _ _ _ h => h) (by rfl) ?_ hHeld ?_; focus (intro w hSw; rw [← HB.out]; exact same_run r s _ _ _ w rfl rfl rfl))
        simp only [Act.put, List.setIfInBounds_toArray, List.set_cons_zero, List.set_cons_succ]
        refine wpAnyH_done (by kernel_rfl) ?_ _
        refine NoPanic.normal ?_
        cases B with
        | false =>
          have hrs : r = s := by have := HB.out; simpa using this
          subst hrs
          have ET1 : Hid (l1.take (k + 1) = l2.take (k + 1)) := by unfold Hid; rw [List.take_add_one, List.take_add_one, HR.out, HS.out, ET.out]
          clear HB
          go_wp2
          go_roundw
          case rel => exact ⟨k + 1, by omega, by go_num, KB.out.drew, ET1.out⟩
          case measure => simp [intOf]; omega
        | true =>
          have hrs : ¬ r = s := by have := HB.out; simpa using this
          have hne : decide (l1 = l2) = false := by
            simp; intro e; have h := HR.out; rw [e, HS.out] at h; exact hrs (by simpa using h.symm)
          have HNE := hid hne
          clear hne hrs HB
          go_wp2
          go_ret
          exact ⟨by rw [HNE.out]; rfl, KB.out.drew⟩
      · have ek : k = n1 := by omega
        subst ek
        have hee : decide (l1 = l2) = true := by
          have := ET.out
          rw [List.take_of_length_le (by omega), List.take_of_length_le (by omega)] at this
          simp [this]
        have HEE := hid hee
        clear hee
        go_wp2
        go_ret
        exact ⟨by rw [HEE.out]; rfl, KB.out⟩
  · have hne : decide (l1 = l2) = false := by simp; intro e; exact hn (by rw [← q1, ← q2, e])
    rw [hne]
    go_enter Try.func21, Try.ntmps21
    go_wp2
    go_ret
    exact ⟨rfl, Below.refl _ _⟩
open Classical in
set_option maxHeartbeats 2000000 in
theorem begins_any {w : World} {ao1 ao2 : Option Addr} {n1 c1 n2 c2 : Nat} {l1 l2 : List Rc} (h1 : RG w ao1 n1 c1 l1) (h2 : RG w ao2 n2 c2 l2) (hle : n1 ≤ n2) (hb : l1 = l2.take n1) :
    Calls Try.prog 22 #[.slice ao1 n1 c1, .slice ao2 n2 c2] w fun e w' => e = .returned (.bool true) ∧ Below w.heap.size w w' := by
  have k1 := h1.cap1
  have k2 := h2.cap1
  have m1 := h1.cap2
  have m2 := h2.cap2
  have hD : Hid (decide (l1 = l2.take n1) = true) := by unfold Hid; simp [← hb]
  have H := hid (recs_same h1 (h2.take n1 c2 hle (by omega) (Nat.le_refl _)))
  have hnil := h2.nil
  clear h1 h2 hb
  cases ao2 with
  | none =>
    obtain ⟨rfl, rfl⟩ := hnil rfl
    have e0 : n1 = 0 := by omega
    subst e0
    clear hnil
    go_enter Try.func22, Try.ntmps22
    go_wp2_with (first | (go_at_call 21; refine H.out.mono ?_; rintro e w1 ⟨rfl, k1⟩; rw [hD.out]; have K1 := hid k1; clear k1))
    go_ret
    exact ⟨rfl, K1.out⟩
  | some ad =>
    clear hnil
    go_enter Try.func22, Try.ntmps22
    go_wp2_with (first | (go_at_call 21; refine H.out.mono ?_; rintro e w1 ⟨rfl, k1⟩; rw [hD.out]; have K1 := hid k1; clear k1))
    go_ret
    exact ⟨rfl, K1.out⟩
/-- The records that the statements make. -/
def madeL (k : Int) (n : Nat) : List Rc := (List.range n).map fun (i : Nat) => seatR ((k + (i : Int)) % 256) k (i : Int) ((k * 7 + (i : Int)) % 65536)
theorem made_len (k : Int) (n : Nat) : (madeL k n).length = n := by simp [madeL]
theorem made_succ (k : Int) (n : Nat) : madeL k (n + 1) = madeL k n ++ [seatR ((k + n) % 256) k n ((k * 7 + n) % 65536)] := by simp [madeL, List.range_succ]
theorem made_good {k : Int} {n : Nat} (k0 : 0 ≤ k) (k1 : k < 256) (hn : n ≤ 256) : Good (madeL k n) := by
  intro r hr
  obtain ⟨i, hi, rfl⟩ := List.mem_map.1 hr
  have := List.mem_range.1 hi
  exact ⟨Frm.seat_right k0 k1 (by omega) (by omega), Frm.seat_ok⟩
set_option maxHeartbeats 2000000 in
theorem made_any (n : Nat) (k : Int) (w : World) (hn : n < 256) (k0 : 0 ≤ k) (k1 : k < 256) (v : Int) (hv : (n : Int) = v) :
    Calls Try.prog 12 #[.int .u8 v, .int .u8 k] w fun e w' => ∃ ao cap, e = .returned (.slice ao n cap) ∧ RG w' ao n cap (madeL k n) ∧ Below w.heap.size w w' := by
  subst hv
  go_enter Try.func12, Try.ntmps12
  go_wp2
  go_loopw [5, 6] (fun o i wr => ∃ (m : Nat) (ao : Option Addr) (cap : Nat), m ≤ n ∧ i = .int .u8 (m : Int) ∧ o = .slice ao m cap ∧ MkR w wr (.slice ao m cap) m (madeL k m)) (fun _ i _ => n - (intOf i).toNat)
  case atStart => exact ⟨0, none, 0, by omega, rfl, rfl, MkR.nil _⟩
  case round =>
    obtain ⟨m, ao2, cap2, hm, rfl, rfl, d2⟩ := hrel
    have D2 := hid d2
    clear d2
    by_cases hlt : m < n
    · have HS := hid (made_succ k m)
      have x1 : IntKind.u8.wrap (k + m) = (k + m) % 256 := by rw [IntKind.wrap_u8]
      have x2 : IntKind.u16.wrap (k * 7 + m) = (k * 7 + m) % 65536 := by rw [IntKind.wrap_u16]
      have x3 : IntKind.u16.wrap (k * 7) = k * 7 := by rw [IntKind.wrap_u16]; omega
      have x4 : (k * 7 + m) % 65536 = k * 7 + m := by omega
      have HX4 := hid x4
      clear x4
      go_wp2_with (first | (at_builtin; refine app_recs (D2.out.more (sq K3.out K4.out)) R4.out (m := m + 1) rfl (by omega) rfl _ _ rfl rfl rfl ?_; intro ao5 cap5 w5 d5; have D5 := hid d5; clear d5) | (refine bsR (r := seatR ((k + m) % 256) k m ((k * 7 + m) % 65536)) rfl _ rfl rfl ?_; intro ao4 w4 r4 k4; have R4 := hid r4; have K4 := hid k4; clear r4 k4) | (go_at_call 25; refine (Frm.rec9 ((k + m) % 256) k m ((k * 7 + m) % 65536) _ (by omega) (by omega) k0 k1 (by omega) (by omega) (by omega) (by omega)).mono ?_; rintro e w3 ⟨rfl, k3⟩; have K3 := hid k3; clear k3))
      go_roundw
      case rel => exact ⟨m + 1, ao5, cap5, by omega, by go_num, rfl, by rw [HS.out]; exact D5.out⟩
      case measure => simp [intOf]; omega
    · have em : m = n := by omega
      subst em
      go_wp2
      go_ret
      exact ⟨ao2, cap2, rfl, D2.out.given, D2.out.bel⟩
end Go.Proofs.Ythhgnflkplpklaa
