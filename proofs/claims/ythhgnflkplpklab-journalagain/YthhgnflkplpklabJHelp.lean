/- The statements' helps: lists of records held against one another, made, measured; a disk's calls. -/
import Derived.Test.YthhgnflkplpklabJSame
namespace Go.Proofs.Ythhgnflkplpklab
set_option maxRecDepth 20000
open Go.ChangeShapes Go.WideShapes Go.ChangeAt Go.RowKit
open Dsc (Dk Sec Dat Feet tc hid sq bel1 newD reopD cutD)
open Frm (Rc putL rightB bytesL num Given Mk Row RowAt RV al29 st29 ld29 seatR)
open Classical in
theorem same_run (r s : Rc) (e : Operand → Value) (x y : Operand) (w : World) {o : Oper} (ho : o.op = .binOp .neq 39 x y 39) (hx : e x = r.val) (hy : e y = s.val) : (execOp e o).run Try.prog w = .ok (.value (.bool (!decide (r = s)))) w := by
  unfold execOp
  simp only [ho, hx, hy, Sem.run_bind]
  have h := (gbin r s w).2
  have g := (Frm.eqg29 r s x y w).2
  simp [h, g]
open Classical in
set_option maxHeartbeats 4000000 in
theorem recs_same {w : World} {ao1 ao2 : Option Addr} {n1 c1 n2 c2 : Nat} {l1 l2 : List Rc} (h1 : RG w ao1 n1 c1 l1) (h2 : RG w ao2 n2 c2 l2) :
    Calls Try.prog 11 #[.slice ao1 n1 c1, .slice ao2 n2 c2] w fun e w' => e = .returned (.bool (decide (l1 = l2))) ∧ Below w.heap.size w w' := by
  have H1 := hid h1
  have H2 := hid h2
  have q1 := h1.leq
  have q2 := h2.leq
  have k1 := h1.cap1
  have k2 := h2.cap1
  have m1 := h1.cap2
  have m2 := h2.cap2
  clear h1 h2
  by_cases hn : n1 = n2
  · subst hn
    go_enter Try.func11, Try.ntmps11
    go_wp2
    go_loopw [5] (fun i wr => ∃ k : Nat, k ≤ n1 ∧ i = .int .i64 (k : Int) ∧ Below w.heap.size w wr ∧ l1.take k = l2.take k) (fun i _ => n1 - (intOf i).toNat)
    case atStart => exact ⟨0, by omega, rfl, Below.refl _ _, rfl⟩
    case round =>
      obtain ⟨k, hk, rfl, kb, et⟩ := hrel
      have KB := hid kb
      have ET := hid et
      clear kb et
      by_cases hlt : k < n1
      · obtain ⟨r, hr⟩ : ∃ r, l1[k]? = some r := ⟨l1[k]'(by omega), by simp⟩
        obtain ⟨s, hs⟩ : ∃ s, l2[k]? = some s := ⟨l2[k]'(by omega), by simp⟩
        obtain ⟨b1, o1, rfl, ra⟩ := (H1.out.below KB.out).at hr
        obtain ⟨b2, o2, rfl, rb⟩ := (H2.out.below KB.out).at hs
        have RA := hid ra
        have RB := hid rb
        have HR := hid hr
        have HS := hid hs
        clear ra rb hr hs
        obtain ⟨B, hB⟩ : ∃ B, (!decide (r = s)) = B := ⟨_, rfl⟩
        have HB := hid hB
        clear hB
        go_wp2
        refine wp_region_noPanic ?_
        refine wp_region_held_drew (S := (fun w' : World => w'.rangeAt b1 (o1 + k * 17) r.cells ∧ w'.rangeAt b2 (o2 + k * 17) s.cells)) (by kernel_rfl) ⟨RA.out, RB.out⟩ (fun hHeld => ?_)
        (refine Dsc.tk_yes (v := ?_) 0 (some 17) rfl rfl (by kernel_rfl) (by kernel_rfl) (by kernel_rfl) (fun _ _ _ h => h) (by rfl) ?_ hHeld ?_; rotate_left; focus (intro w hSw; go_simp; try with_reducible rfl))
        simp only [Act.put, List.setIfInBounds_toArray, List.set_cons_zero, List.set_cons_succ]
        (refine Dsc.tk_yes (v := ?_) 1 (some 18) rfl rfl (by kernel_rfl) (by kernel_rfl) (by kernel_rfl) (fun _ _ _ h => h) (by rfl) ?_ hHeld ?_; rotate_left; focus (intro w hSw; go_simp; try with_reducible rfl))
        simp only [Act.put, List.setIfInBounds_toArray, List.set_cons_zero, List.set_cons_succ]
        (refine Dsc.tk_yes (v := ?_) 2 (some 19) rfl rfl (by kernel_rfl) (by kernel_rfl) (by kernel_rfl) (fun _ _ _ h => h) (by rfl) ?_ hHeld ?_; rotate_left; focus (intro w hSw; go_simp; try with_reducible rfl))
        simp only [Act.put, List.setIfInBounds_toArray, List.set_cons_zero, List.set_cons_succ]
        (refine Dsc.tk_yes (v := ?_) 4 (some 21) rfl rfl (by kernel_rfl) (by kernel_rfl) (by kernel_rfl) (fun _ _ _ h => h) (by rfl) ?_ hHeld ?_; rotate_left; focus (intro w hSw; go_simp; try with_reducible rfl))
        simp only [Act.put, List.setIfInBounds_toArray, List.set_cons_zero, List.set_cons_succ]
        (refine Dsc.tk_yes (v := ?_) 5 (some 22) rfl rfl (by kernel_rfl) (by kernel_rfl) (by kernel_rfl) (fun _ _ _ h => h) (by rfl) ?_ hHeld ?_; rotate_left; focus (intro w hSw; go_simp; try with_reducible rfl))
        simp only [Act.put, List.setIfInBounds_toArray, List.set_cons_zero, List.set_cons_succ]
        (refine Dsc.tk_yes (v := ?_) 6 (some 23) rfl rfl (by kernel_rfl) (by kernel_rfl) (by kernel_rfl) (fun _ _ _ h => h) (by rfl) ?_ hHeld ?_; rotate_left; focus (intro w hSw; go_simp; try with_reducible rfl))
        simp only [Act.put, List.setIfInBounds_toArray, List.set_cons_zero, List.set_cons_succ]
        refine Dsc.tk_ld 3 (some 20) rfl rfl (by kernel_rfl) (by kernel_rfl) (by kernel_rfl) (fun _ _ _ h => h) (by rfl) 39 _ rfl rfl (fun w h => h.1) Try.underlying39 rfl Frm.n29 hHeld ?_
        simp only [Act.put, List.setIfInBounds_toArray, List.set_cons_zero, List.set_cons_succ]
        refine Dsc.tk_ld 7 (some 24) rfl rfl (by kernel_rfl) (by kernel_rfl) (by kernel_rfl) (fun _ _ _ h => h) (by rfl) 39 _ rfl rfl (fun w h => h.2) Try.underlying39 rfl Frm.n29 hHeld ?_
        simp only [Act.put, List.setIfInBounds_toArray, List.set_cons_zero, List.set_cons_succ]
        (refine Dsc.tk_yes (v := .bool B) 8 (some 25) rfl rfl (by kernel_rfl) (by kernel_rfl) (by kernel_rfl) (fun _ _ _ h => h) (by rfl) ?_ hHeld ?_; focus (intro w hSw; rw [← HB.out]; exact same_run r s _ _ _ w rfl rfl rfl))
        simp only [Act.put, List.setIfInBounds_toArray, List.set_cons_zero, List.set_cons_succ]
        refine wpAnyH_done (by kernel_rfl) ?_ _
        refine NoPanic.normal ?_
        cases B with
        | false =>
          have hrs : r = s := by have := HB.out; simpa using this
          subst hrs
          have ET1 : Hid (l1.take (k + 1) = l2.take (k + 1)) := by unfold Hid; rw [List.take_add_one, List.take_add_one, HR.out, HS.out, ET.out]
          clear HB
          go_wp2
          go_roundw
          case rel => exact ⟨k + 1, by omega, by go_num, KB.out.drew, ET1.out⟩
          case measure => simp [intOf]; omega
        | true =>
          have hrs : ¬ r = s := by have := HB.out; simpa using this
          have hne : decide (l1 = l2) = false := by
            simp; intro e; have h := HR.out; rw [e, HS.out] at h; exact hrs (by simpa using h.symm)
          have HNE := hid hne
          clear hne hrs HB
          go_wp2
          go_ret
          exact ⟨by rw [HNE.out]; rfl, KB.out.drew⟩
      · have ek : k = n1 := by omega
        subst ek
        have hee : decide (l1 = l2) = true := by
          have := ET.out
          rw [List.take_of_length_le (by omega), List.take_of_length_le (by omega)] at this
          simp [this]
        have HEE := hid hee
        clear hee
        go_wp2
        go_ret
        exact ⟨by rw [HEE.out]; rfl, KB.out⟩
  · have hne : decide (l1 = l2) = false := by simp; intro e; exact hn (by rw [← q1, ← q2, e])
    rw [hne]
    go_enter Try.func11, Try.ntmps11
    go_wp2
    go_ret
    exact ⟨rfl, Below.refl _ _⟩
open Classical in
/-- The records that the statements make. -/
def madeL (k : Int) (n : Nat) : List Rc := (List.range n).map fun (i : Nat) => seatR ((k + (i : Int)) % 256) k (i : Int) ((k * 7 + (i : Int)) % 65536)
theorem made_len (k : Int) (n : Nat) : (madeL k n).length = n := by simp [madeL]
theorem made_succ (k : Int) (n : Nat) : madeL k (n + 1) = madeL k n ++ [seatR ((k + n) % 256) k n ((k * 7 + n) % 65536)] := by simp [madeL, List.range_succ]
theorem made_good {k : Int} {n : Nat} (k0 : 0 ≤ k) (k1 : k < 256) (hn : n ≤ 256) : Good (madeL k n) := by
  intro r hr
  obtain ⟨i, hi, rfl⟩ := List.mem_map.1 hr
  have := List.mem_range.1 hi
  exact ⟨Frm.seat_right k0 k1 (by omega) (by omega), Frm.seat_ok⟩
end Go.Proofs.Ythhgnflkplpklab
