/- append of rows and texts, at a step of a region that draws its order; what a call makes of a row of its own; number and counts, the program's. -/
import Derived.Test.YthhgnflkplpklabRNums
import Derived.Test.YthhgnflkplpklabRSums
import Derived.Test.YthhgnflkplpklabRRights
namespace Go.Proofs.Ythhgnflkplpklab.Frm
open Go.ChangeShapes Go.WideShapes Go.ChangeAt Go.RowKit

theorem wanted_none {o : Oper} {ops : Array Oper} {t : Array Value} (h : o.guard = none) : Region.wanted o (yielded ops t) = true := by simp [Region.wanted, h]
theorem app_row_step {ops : Array Oper} {o : Oper} {a : Act} {w : World} {K : Act → World → Prop} {Q : Exit → Act → World → Prop} {E : Prop} {B n1 c1 n2 c2 : Nat} {ao1 : Option Addr} {ad : Addr} {l1 l2 : List Int}
    (h1 : Row B w (.slice ao1 n1 c1) n1 l1) (hrow : RowAt w (some ad) l2) (hn2 : l2.length = n2) (hBw : B ≤ w.heap.size) (hsmall : n1 + n2 ≤ 1000000)
    (hgd : o.guard = none) (s x : Operand) (ho : o.op = .call { callee := .builtin .append, args := #[s, x], argTypes := #[22, 22] })
    (hs : a.eval s = .slice ao1 n1 c1) (hx : a.eval x = .slice (some ad) n2 c2)
    (h : ∀ ao cap w', Row B w' (.slice ao (n1 + n2) cap) (n1 + n2) (l1 ++ l2) → Turned (fun k => (Value.slice ao1 n1 c1).ownBlock = some k) w w' → K (a.put o.dst (.slice ao (n1 + n2) cap)) w') :
    if Region.wanted o (yielded ops a.tmps) = true then Oper.wp Try.prog o a w K Q else E := by
  rw [if_pos (wanted_none hgd)]
  obtain ⟨i0, hi, hz0, hz1, hz2⟩ := info_parts Try.info5
  have hnews : ∀ j u, (by8 l2)[j]? = some u → w.cell? (ad.add j) = some u := by
    intro j u hj
    rcases hrow with h0 | ⟨b, off, he, hc⟩
    · subst h0; simp at hj
    · simp only [Option.some.injEq] at he
      subst he
      have hlt : j < l2.length := by
        have := (List.getElem?_eq_some_iff.1 hj).1
        simpa using this
      rw [Addr.add_mid, hc j hlt]
      simp [List.getElem?_eq_getElem hlt] at hj
      rw [← hj]
      simp [hlt]
  refine wp_append_own w s x 22 ho B 5 i0 (.int .u8 0) 1 1 Try.underlying22 hi hz0 hz1 hz2 rfl (by decide) _ n1 (by8 l1) hs h1
    ad n2 c2 (by8 l2) hx (by simp [hn2]) hnews (one8 l2) (by unfold maxLen; omega) (by omega) hBw ?_
  intro v' w' hown' hgrow _
  have hR : Row B w' v' (n1 + n2) (l1 ++ l2) := by unfold Row; rw [by8, List.map_append]; exact hown'
  obtain ⟨ao, cap, rfl, _⟩ := hR.form
  exact h ao cap w' hR (Turned.grown hgrow (fun k e => e))
theorem app_text_step {ops : Array Oper} {o : Oper} {a : Act} {w : World} {K : Act → World → Prop} {Q : Exit → Act → World → Prop} {E : Prop} {B n1 c1 : Nat} {ao1 : Option Addr} {l1 : List Int} {t : ByteArray}
    (h1 : Row B w (.slice ao1 n1 c1) n1 l1) (hBw : B ≤ w.heap.size) (hsmall : n1 + t.size ≤ 1000000)
    (hgd : o.guard = none) (s x : Operand) (ho : o.op = .call { callee := .builtin .append, args := #[s, x], argTypes := #[22, 9] })
    (hs : a.eval s = .slice ao1 n1 c1) (hx : a.eval x = .string t)
    (h : ∀ ao cap w', Row B w' (.slice ao (n1 + t.size) cap) (n1 + t.size) (l1 ++ panL t) → Turned (fun k => (Value.slice ao1 n1 c1).ownBlock = some k) w w' → K (a.put o.dst (.slice ao (n1 + t.size) cap)) w') :
    if Region.wanted o (yielded ops a.tmps) = true then Oper.wp Try.prog o a w K Q else E := by
  rw [if_pos (wanted_none hgd)]
  obtain ⟨i0, hi, hz0, hz1, hz2⟩ := info_parts Try.info5
  obtain ⟨v', w', hr, h2, h3, _⟩ := Go.Lib.run_append_own_string (P := Try.prog) w B 22 9 o.type 5 i0 Try.underlying22 Try.underlying9 hi hz0 hz1 hz2 _ n1 (by8 l1) h1 t (by unfold maxLen; omega) (by omega) hBw
  have hR : Row B w' v' (n1 + t.size) (l1 ++ panL t) := by unfold Row; rw [by8, List.map_append, ← by8, ← by8, ← strCells_by8]; exact h2
  obtain ⟨ao, cap, rfl, _⟩ := hR.form
  unfold Oper.wp execOp
  simp only [ho, resolve, invoke, builtin, Sem.run_bind, Sem.run_pure, Result.andThen_ok, List.map_toArray, List.map_cons, List.map_nil, hs, hx, hr]
  exact h ao cap w' hR (Turned.grown h3 (fun k e => e))

/-- Since W0 the row v was made; all else that was there is as it was. -/
def Mk (W0 w : World) (v : Value) (n : Nat) (l : List Int) : Prop := Row W0.heap.size w v n l ∧ Below W0.heap.size W0 w
theorem Mk.nil (W0 : World) : Mk W0 W0 (.slice none 0 0) 0 [] := ⟨Row.nil _ _, Below.refl _ _⟩
theorem Mk.bel {W0 w : World} {v : Value} {n : Nat} {l : List Int} (h : Mk W0 w v n l) : Below W0.heap.size W0 w := h.2
theorem Mk.more {W0 w w' : World} {v : Value} {n : Nat} {l : List Int} (h : Mk W0 w v n l) (hb : Below w.heap.size w w') : Mk W0 w' v n l := ⟨h.1.below hb, sq h.2 hb⟩
theorem Mk.next {W0 w w' : World} {ao1 ao : Option Addr} {n1 c1 n cap : Nat} {l1 l : List Int} (h : Mk W0 w (.slice ao1 n1 c1) n1 l1) (hr : Row W0.heap.size w' (.slice ao n cap) n l) (ht : Turned (fun k => (Value.slice ao1 n1 c1).ownBlock = some k) w w') : Mk W0 w' (.slice ao n cap) n l :=
  ⟨hr, h.2.trans (ht.below (fun k e => h.1.blk k e) h.2.size)⟩
theorem Mk.new (w : World) (l : List Int) (n : Nat) (hn : l.length = n) (hm : n ≤ 1000000) : Mk w (w.alloc (.cells (cellsOf l) 5)) (.slice (some ⟨w.heap.size, 0, none⟩) n n) n l := ⟨row_new w l n hn hm, bel1 _ _⟩

theorem number_to {W0 w : World} {ao1 : Option Addr} {n1 c1 : Nat} {l1 : List Int} (h1 : Mk W0 w (.slice ao1 n1 c1) n1 l1) (v : Int) (m n : Nat) (hn : n1 + m = n) (hm1 : 1 ≤ m) (hm2 : m ≤ 64) (hsm : n1 ≤ 900000) (hv : 0 ≤ v) (hv' : v < 18446744073709551616) :
    Calls Try.prog 47 #[.slice ao1 n1 c1, .int .u64 v, .int .i64 (m : Int)] w fun e w' => ∃ ao cap, e = .returned (.slice ao n cap) ∧ Mk W0 w' (.slice ao n cap) n (l1 ++ bytesL v m) := by
  subst hn
  have H1 := hid h1
  clear h1
  go_enter Try.func47, Try.ntmps47
  go_wp2_with (first | (at_builtin; refine app_row (D2.out.1) R2.out (bytesL_length _ _) (fun e => by cases e) D2.out.2.size (by omega) rfl _ _ rfl rfl rfl ?_; intro ao cap w3 r3 t3; have D3 := hid (D2.out.next r3 t3); clear r3 t3) | (go_at_call 55; refine (bytes_at v m _ hm1 hm2 hv hv').mono ?_; rintro e w2 ⟨b, rfl, r2, b2⟩; have R2 := hid r2; have D2 := hid (H1.out.more b2); clear r2 b2))
  go_ret
  exact ⟨_, _, rfl, D3.out⟩

def cntK (a b c d : Int) : Nat → List Int
  | 0 => []
  | 1 => bytesL a 2
  | 2 => bytesL a 2 ++ bytesL b 2
  | 3 => bytesL a 2 ++ bytesL b 2 ++ bytesL c 2
  | _ => cntL a b c d
set_option maxHeartbeats 2000000 in
theorem counts_to {W0 w : World} {ao1 : Option Addr} {n1 c1 : Nat} {l1 : List Int} (h1 : Mk W0 w (.slice ao1 n1 c1) n1 l1) (x0 x1 x2 x3 : Int) (n : Nat) (hn : n1 + 8 = n) (hsm : n1 ≤ 800000)
    (h : (0 ≤ x0 ∧ x0 ≤ 10000) ∧ (0 ≤ x1 ∧ x1 ≤ 10000) ∧ (0 ≤ x2 ∧ x2 ≤ 10000) ∧ (0 ≤ x3 ∧ x3 ≤ 10000)) :
    Calls Try.prog 54 #[.slice ao1 n1 c1, .agg #[.int .i64 x0, .int .i64 x1, .int .i64 x2, .int .i64 x3]] w fun e w' => ∃ ao cap, e = .returned (.slice ao n cap) ∧ Mk W0 w' (.slice ao n cap) n (l1 ++ cntL x0 x1 x2 x3) := by
  subst hn
  have H1 := hid h1
  clear h1
  obtain ⟨⟨a0, b0⟩, ⟨a1, b1⟩, ⟨a2, b2⟩, ⟨a3, b3⟩⟩ := h
  have i0 := fun w => (index4 x0 x1 x2 x3 w).1
  have i1 := fun w => (index4 x0 x1 x2 x3 w).2.1
  have i2 := fun w => (index4 x0 x1 x2 x3 w).2.2.1
  have i3 := fun w => (index4 x0 x1 x2 x3 w).2.2.2
  go_enter Try.func54, Try.ntmps54
  go_wp2
  go_loopw [0, 8] (fun out i wr => ∃ (k : Nat) (ao : Option Addr) (cap : Nat), k ≤ 4 ∧ i = .int .i64 (k : Int) ∧ out = .slice ao (n1 + 2 * k) cap ∧ Mk W0 wr (.slice ao (n1 + 2 * k) cap) (n1 + 2 * k) (l1 ++ cntK x0 x1 x2 x3 k)) (fun _ i _ => 4 - (intOf i).toNat)
  case atStart => exact ⟨0, ao1, c1, by omega, rfl, rfl, by simpa [cntK] using H1.out.more (bel1 _ _)⟩
  case round =>
    obtain ⟨k, ao, cap, hk, rfl, rfl, hD⟩ := hrel
    have D := hid hD
    clear hD H1
    by_cases hlt : k < 4
    · have h4 : k = 0 ∨ k = 1 ∨ k = 2 ∨ k = 3 := by omega
      rcases h4 with rfl | rfl | rfl | rfl
      · go_wp2_with (go_at_call 47; refine (number_to D.out x0 2 (n1 + 2 * 1) (by omega) (by omega) (by omega) (by omega) a0 (by omega)).mono ?_; rintro e w2 ⟨ao2, cap2, rfl, d2⟩; have D2 := hid d2; clear d2)
        go_roundw
        case rel => exact ⟨1, ao2, cap2, by omega, by go_num, rfl, by have := D2.out; rwa [List.append_assoc] at this⟩
        case measure => simp [intOf]
      · go_wp2_with (go_at_call 47; refine (number_to D.out x1 2 (n1 + 2 * 2) (by omega) (by omega) (by omega) (by omega) a1 (by omega)).mono ?_; rintro e w2 ⟨ao2, cap2, rfl, d2⟩; have D2 := hid d2; clear d2)
        go_roundw
        case rel => exact ⟨2, ao2, cap2, by omega, by go_num, rfl, by have := D2.out; rwa [List.append_assoc] at this⟩
        case measure => simp [intOf]
      · go_wp2_with (go_at_call 47; refine (number_to D.out x2 2 (n1 + 2 * 3) (by omega) (by omega) (by omega) (by omega) a2 (by omega)).mono ?_; rintro e w2 ⟨ao2, cap2, rfl, d2⟩; have D2 := hid d2; clear d2)
        go_roundw
        case rel => exact ⟨3, ao2, cap2, by omega, by go_num, rfl, by have := D2.out; rwa [List.append_assoc] at this⟩
        case measure => simp [intOf]
      · go_wp2_with (go_at_call 47; refine (number_to D.out x3 2 (n1 + 2 * 4) (by omega) (by omega) (by omega) (by omega) a3 (by omega)).mono ?_; rintro e w2 ⟨ao2, cap2, rfl, d2⟩; have D2 := hid d2; clear d2)
        go_roundw
        case rel => exact ⟨4, ao2, cap2, by omega, by go_num, rfl, by have := D2.out; rwa [List.append_assoc] at this⟩
        case measure => simp [intOf]
    · have ek : k = 4 := by omega
      subst ek
      go_wp2
      go_ret
      exact ⟨_, _, rfl, D.out⟩
end Go.Proofs.Ythhgnflkplpklab.Frm
