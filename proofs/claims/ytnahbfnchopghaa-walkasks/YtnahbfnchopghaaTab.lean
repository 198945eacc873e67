/- A table of few numbers: whatever came in, some table is made. -/
import Derived.Test.YtnahbfnchopghaaLay
namespace Go.Proofs.Ytnahbfnchopghaa
open Go.ChangeShapes Go.WideShapes Go.ChangeAt Go.RowKit

def kdL (z : Int) : Int := if z = 0 then 65 else if z = 1 then 66 else if z = 2 then 68 else if z = 3 then 69 else if z = 4 then 73 else 90
theorem kdL_byt (z : Int) : 0 ≤ kdL z ∧ kdL z < 256 := by unfold kdL; split <;> (try split) <;> (try split) <;> (try split) <;> (try split) <;> omega
theorem tmod_bd (a : Int) (n : Int) (ha : 0 ≤ a) (hn : 0 < n) : 0 ≤ a.tmod n ∧ a.tmod n < n := by
  rw [Int.tmod_eq_emod_of_nonneg ha]; exact ⟨Int.emod_nonneg _ (by omega), Int.emod_lt_of_pos _ hn⟩
section
variable {a : Act} {w : World} {K : Act → World → Prop} {Q : Exit → Act → World → Prop} {op : Oper}
theorem bsSw {r : St} (x : Operand) (ho : op.op = .buildSlice 22 1 #[(0, x)]) (hx : a.eval x = r.val)
    (h : ∀ ao w', SG w' ao 1 1 [r] → Below w.heap.size w w' → K (a.put op.dst (.slice ao 1 1)) w') : op.wp Try.prog a w K Q := by
  obtain ⟨i, hi, hz0, hz1, hz2⟩ := info_parts info34
  refine wp_buildSlice 22 34 1 _ ho (flS [r]).toArray i _ Try.underlying22 hi hz0 (by rw [hz1]; decide) (by rw [hz1]; decide) ?_ (h _ _ (new_sg w [r] 1 rfl (by omega)) (bel1 _ _))
  have := Great.fill_whole (s := 4) (by decide) [r.val] ((Array.range (1 * i.size)).map (St.zero.val.cells[· % St.zero.val.cells.size]!))
    (by intro v hv; simp at hv; subst hv; simp [St.val, Value.cells, St.len]) (by simp [hz1])
  rw [hz1] at this ⊢
  simpa [hx, Value.cells, St.val, flS] using this
theorem app_stsw {W0 : World} {n1 c1 c2 m : Nat} {ao1 ao2 : Option Addr} {l1 l2 : List St}
    (h1 : MkS W0 w (.slice ao1 n1 c1) n1 l1) (h2 : SG w ao2 1 c2 l2) (hm : n1 + 1 = m) (hsmall : m ≤ 1000000) (s y : Operand) (ho : op.op = .call { callee := .builtin .append, args := #[s, y], argTypes := #[22, 22] })
    (hs : a.eval s = .slice ao1 n1 c1) (hx : a.eval y = .slice ao2 1 c2)
    (h : ∀ ao cap w', MkS W0 w' (.slice ao m cap) m (l1 ++ l2) → K (a.put op.dst (.slice ao m cap)) w') :
    op.wp Try.prog a w K Q := by
  subst hm
  obtain ⟨i0, hi, hz0, hz1, hz2⟩ := info_parts info34
  cases ao2 with
  | none => exact absurd (h2.nil rfl).1 (by omega)
  | some ad =>
    refine wp_append_own w s y 22 ho W0.heap.size 34 i0 St.zero.val 4 32 Try.underlying22 hi hz0 hz1 hz2 rfl (by decide) _ n1 (flS l1) hs h1.1
      ad 1 c2 (flS l2) hx (by rw [flS_len, h2.leq]) (news_at h2) (oneS l2) (by unfold maxLen; omega) (by omega) h1.2.size ?_
    intro v' w' hown' hgrow _
    have hR : RowS W0.heap.size w' v' (n1 + 1) (l1 ++ l2) := by unfold RowS; rw [flS_app]; exact hown'
    obtain ⟨ao, cap, rfl, _⟩ := hR.form
    refine h ao cap w' ⟨hR, h1.2.grown hgrow h1.2.size ?_⟩
    intro k e
    rcases h1.1.2 with ⟨e2, h0⟩ | ⟨g, cap, cur, e2, hg, _⟩
    · rw [e2] at e; cases e
    · rw [e2] at e; cases e; exact hg
end
def TbAns (w : World) (len : Nat) (e : Ending) (w' : World) : Prop := ∃ ao c ls, e = .returned (.slice ao len c) ∧ MkS w w' (.slice ao len c) len ls ∧ OkT ls
set_option maxRecDepth 20000 in
set_option maxHeartbeats 16000000 in
theorem table8 (ao : Option Addr) (len cap : Nat) (F : Int) (w : World) (h : InC w ao len) (hs : len ≤ 1000) (hF : 0 ≤ F ∧ F < 256) :
    Calls Try.prog 9 #[.slice ao len cap, .int .u8 F] w (TbAns w len) := by
  have HG := hid h
  clear h
  obtain ⟨N, hN⟩ : ∃ N, F.tmod 12 + 2 = N := ⟨_, rfl⟩
  have hF1 := hF.1
  have hF2 := hF.2
  have f0 := tmod_bd F 12 hF1 (by omega)
  obtain ⟨q, hq⟩ : ∃ q, F.tmod 12 = q := ⟨_, rfl⟩
  rw [hq] at hN f0
  have f1 := f0.1
  have f2 := f0.2
  have n1 : 2 ≤ N := by omega
  have n2 : N ≤ 13 := by omega
  clear f0 hF
  go_enter Try.func9, Try.ntmps9
  go_upto_region 3 with fail
  clear hN hq f1 f2
  go_wp2
  go_loopw [5, 7] (fun x i wr => ∃ (k c : Nat) (a : Option Addr) (ls : List St), k ≤ len ∧ i = .int .i64 (k : Int) ∧ x = .slice a k c ∧ MkS w wr (.slice a k c) k ls ∧ OkT ls) (fun _ i _ => len - (intOf i).toNat)
  case atStart => exact ⟨0, 0, none, [], by omega, rfl, rfl, MkS.nil w, okT_nil⟩
  case round =>
    obtain ⟨k, c, a, ls, hk, rfl, rfl, hm, hok⟩ := hrel
    have M1 := hid hm
    have OK := hid hok
    clear hm hok
    by_cases hlt : k < len
    · obtain ⟨A, K, X, O, b, off, hA, hK, hX, hO, rfl, c0, c1, c2, c3⟩ := (HG.out.below M1.out.2) k hlt
      have C0 := hid c0
      have C1 := hid c1
      have C2 := hid c2
      have C3 := hid c3
      have hn0 : N ≠ 0 := by omega
      obtain ⟨K6, hK6⟩ : ∃ z, K.tmod 6 = z := ⟨_, rfl⟩
      have kb := tmod_bd K 6 hK.1 (by omega)
      rw [hK6] at kb
      have x1 := tmod_bd X N hX.1 (by omega)
      have o1 := tmod_bd O N hO.1 (by omega)
      have a1 : 0 ≤ A / 16 % N ∧ A / 16 % N < N := ⟨Int.emod_nonneg _ (by omega), Int.emod_lt_of_pos _ (by omega)⟩
      obtain ⟨XN, hXN⟩ : ∃ z, X.tmod N = z := ⟨_, rfl⟩
      obtain ⟨ON, hON⟩ : ∃ z, O.tmod N = z := ⟨_, rfl⟩
      obtain ⟨AN, hAN⟩ : ∃ z, A / 16 % N = z := ⟨_, rfl⟩
      rw [hXN] at x1
      rw [hON] at o1
      rw [hAN] at a1
      have hA0 := hA.1
      have hA1 := hA.2
      have hK0 := hK.1
      have hK1 := hK.2
      have hX0 := hX.1
      have hX1 := hX.2
      have hO0 := hO.1
      have hO1 := hO.2
      have fx : IntKind.i64.wrap X = X := by rw [IntKind.wrap_i64]; omega
      have fo : IntKind.i64.wrap O = O := by rw [IntKind.wrap_i64]; omega
      clear hA hK hX hO c1 c2 c3
      by_cases h15 : A % 16 = 15
      · have e15 : (A % 16 == 15) = true := by simpa using h15
        clear h15
        go_upto_region 9 with fail
        refine wp_region_noPanic ?_
        refine wp_region_held_drew (S := (fun w' : World => w'.cell? ⟨b, off + k * 4 + 1, none⟩ = some (.int .u8 K) ∧ w'.cell? ⟨b, off + k * 4 + 2, none⟩ = some (.int .u8 X) ∧ w'.cell? ⟨b, off + k * 4 + 3, none⟩ = some (.int .u8 O))) (by kernel_rfl) ⟨C1.out, C2.out, C3.out⟩ (fun hHeld => ?_)
        have M2 : Hid (MkS w wr.drew (.slice a k c) k ls) := M1.out.more (Below.refl _ wr).drew
        (refine tk_yes (v := ?_) 0 (some 36) rfl rfl (by kernel_rfl) (by kernel_rfl) (by kernel_rfl) (fun _ _ _ h => h) (by rfl) ?_ hHeld ?_; rotate_left; focus (intro w hSw; go_simp; try with_reducible rfl))
        simp only [Act.put, List.setIfInBounds_toArray, List.set_cons_zero, List.set_cons_succ]
        (refine tk_yes (v := ?_) 1 (some 37) rfl rfl (by kernel_rfl) (by kernel_rfl) (by kernel_rfl) (fun _ _ _ h => h) (by rfl) ?_ hHeld ?_; rotate_left; focus (intro w hSw; go_simp; try with_reducible rfl))
        simp only [Act.put, List.setIfInBounds_toArray, List.set_cons_zero, List.set_cons_succ]
        (refine tk_yes (v := ?_) 2 (some 38) rfl rfl (by kernel_rfl) (by kernel_rfl) (by kernel_rfl) (fun _ _ _ h => h) (by rfl) ?_ hHeld ?_; rotate_left; focus (intro w hSw; go_simp; try with_reducible rfl))
        simp only [Act.put, List.setIfInBounds_toArray, List.set_cons_zero, List.set_cons_succ]
        (refine tk_yes (v := ?_) 3 (some 39) rfl rfl (by kernel_rfl) (by kernel_rfl) (by kernel_rfl) (fun _ _ _ h => h) (by rfl) ?_ hHeld ?_; rotate_left; focus (intro w hSw; go_simp; try with_reducible rfl))
        simp only [Act.put, List.setIfInBounds_toArray, List.set_cons_zero, List.set_cons_succ]
        (refine tk_yes (v := ?_) 4 (some 40) rfl rfl (by kernel_rfl) (by kernel_rfl) (by kernel_rfl) (fun _ _ _ h => h) (by rfl) ?_ hHeld ?_; rotate_left; focus (intro w hSw; go_simp; try with_reducible rfl))
        simp only [Act.put, List.setIfInBounds_toArray, List.set_cons_zero, List.set_cons_succ]
        (refine tk_yes (v := ?_) 5 (some 41) rfl rfl (by kernel_rfl) (by kernel_rfl) (by kernel_rfl) (fun _ _ _ h => h) (by rfl) ?_ hHeld ?_; rotate_left; focus (intro w hSw; go_simp; try with_reducible rfl))
        simp only [Act.put, List.setIfInBounds_toArray, List.set_cons_zero, List.set_cons_succ]
        (refine tk_yes (v := .int .u8 K) 6 (some 42) rfl rfl (by kernel_rfl) (by kernel_rfl) (by kernel_rfl) (fun _ _ _ h => h) (by rfl) ?_ hHeld ?_; focus (intro w hSw; have h := hSw.1; go_simp; try with_reducible rfl))
        simp only [Act.put, List.setIfInBounds_toArray, List.set_cons_zero, List.set_cons_succ]
        (refine tk_yes (v := .int .u8 K6) 7 (some 43) rfl rfl (by kernel_rfl) (by kernel_rfl) (by kernel_rfl) (fun _ _ _ h => h) (by rfl) ?_ hHeld ?_; focus (intro w hSw; go_simp; try with_reducible rfl))
        simp only [Act.put, List.setIfInBounds_toArray, List.set_cons_zero, List.set_cons_succ]
        (refine tk_yes (v := .int .u8 (kdL K6)) 8 (some 44) rfl rfl (by kernel_rfl) (by kernel_rfl) (by kernel_rfl) (fun _ _ _ h => h) (by rfl) ?_ hHeld ?_; focus (intro w hSw; have h := hSw.1; rcases (show K6 = 0 ∨ K6 = 1 ∨ K6 = 2 ∨ K6 = 3 ∨ K6 = 4 ∨ K6 = 5 by omega) with r | r | r | r | r | r <;> (rw [r]; go_simp; first | done | rfl)))
        simp only [Act.put, List.setIfInBounds_toArray, List.set_cons_zero, List.set_cons_succ]
        (refine tk_yes (v := ?_) 9 (some 45) rfl rfl (by kernel_rfl) (by kernel_rfl) (by kernel_rfl) (fun _ _ _ h => h) (by rfl) ?_ hHeld ?_; rotate_left; focus (intro w hSw; go_simp; try with_reducible rfl))
        simp only [Act.put, List.setIfInBounds_toArray, List.set_cons_zero, List.set_cons_succ]
        (refine tk_yes (v := ?_) 10 (some 46) rfl rfl (by kernel_rfl) (by kernel_rfl) (by kernel_rfl) (fun _ _ _ h => h) (by rfl) ?_ hHeld ?_; rotate_left; focus (intro w hSw; go_simp; try with_reducible rfl))
        simp only [Act.put, List.setIfInBounds_toArray, List.set_cons_zero, List.set_cons_succ]
        (refine tk_yes (v := ?_) 11 (some 47) rfl rfl (by kernel_rfl) (by kernel_rfl) (by kernel_rfl) (fun _ _ _ h => h) (by rfl) ?_ hHeld ?_; rotate_left; focus (intro w hSw; go_simp; try with_reducible rfl))
        simp only [Act.put, List.setIfInBounds_toArray, List.set_cons_zero, List.set_cons_succ]
        (refine tk_yes (v := ?_) 12 (some 48) rfl rfl (by kernel_rfl) (by kernel_rfl) (by kernel_rfl) (fun _ _ _ h => h) (by rfl) ?_ hHeld ?_; rotate_left; focus (intro w hSw; go_simp; try with_reducible rfl))
        simp only [Act.put, List.setIfInBounds_toArray, List.set_cons_zero, List.set_cons_succ]
        (refine tk_yes (v := .int .u8 X) 13 (some 49) rfl rfl (by kernel_rfl) (by kernel_rfl) (by kernel_rfl) (fun _ _ _ h => h) (by rfl) ?_ hHeld ?_; focus (intro w hSw; have h := hSw.2.1; go_simp; try with_reducible rfl))
        simp only [Act.put, List.setIfInBounds_toArray, List.set_cons_zero, List.set_cons_succ]
        (refine tk_yes (v := ?_) 14 (some 50) rfl rfl (by kernel_rfl) (by kernel_rfl) (by kernel_rfl) (fun _ _ _ h => h) (by rfl) ?_ hHeld ?_; rotate_left; focus (intro w hSw; go_simp; try with_reducible rfl))
        simp only [Act.put, List.setIfInBounds_toArray, List.set_cons_zero, List.set_cons_succ]
        (refine tk_yes (v := ?_) 15 (some 51) rfl rfl (by kernel_rfl) (by kernel_rfl) (by kernel_rfl) (fun _ _ _ h => h) (by rfl) ?_ hHeld ?_; rotate_left; focus (intro w hSw; go_simp; try with_reducible rfl))
        simp only [Act.put, List.setIfInBounds_toArray, List.set_cons_zero, List.set_cons_succ]
        (refine tk_yes (v := .int .i64 XN) 16 (some 52) rfl rfl (by kernel_rfl) (by kernel_rfl) (by kernel_rfl) (fun _ _ _ h => h) (by rfl) ?_ hHeld ?_; focus (intro w hSw; go_simp; try with_reducible rfl))
        simp only [Act.put, List.setIfInBounds_toArray, List.set_cons_zero, List.set_cons_succ]
        (refine tk_yes (v := ?_) 17 (some 53) rfl rfl (by kernel_rfl) (by kernel_rfl) (by kernel_rfl) (fun _ _ _ h => h) (by rfl) ?_ hHeld ?_; rotate_left; focus (intro w hSw; go_simp; try with_reducible rfl))
        simp only [Act.put, List.setIfInBounds_toArray, List.set_cons_zero, List.set_cons_succ]
        (refine tk_yes (v := ?_) 18 (some 54) rfl rfl (by kernel_rfl) (by kernel_rfl) (by kernel_rfl) (fun _ _ _ h => h) (by rfl) ?_ hHeld ?_; rotate_left; focus (intro w hSw; go_simp; try with_reducible rfl))
        simp only [Act.put, List.setIfInBounds_toArray, List.set_cons_zero, List.set_cons_succ]
        (refine tk_yes (v := ?_) 19 (some 55) rfl rfl (by kernel_rfl) (by kernel_rfl) (by kernel_rfl) (fun _ _ _ h => h) (by rfl) ?_ hHeld ?_; rotate_left; focus (intro w hSw; go_simp; try with_reducible rfl))
        simp only [Act.put, List.setIfInBounds_toArray, List.set_cons_zero, List.set_cons_succ]
        (refine tk_yes (v := ?_) 20 (some 56) rfl rfl (by kernel_rfl) (by kernel_rfl) (by kernel_rfl) (fun _ _ _ h => h) (by rfl) ?_ hHeld ?_; rotate_left; focus (intro w hSw; go_simp; try with_reducible rfl))
        simp only [Act.put, List.setIfInBounds_toArray, List.set_cons_zero, List.set_cons_succ]
        (refine tk_yes (v := .int .u8 O) 21 (some 57) rfl rfl (by kernel_rfl) (by kernel_rfl) (by kernel_rfl) (fun _ _ _ h => h) (by rfl) ?_ hHeld ?_; focus (intro w hSw; have h := hSw.2.2; go_simp; try with_reducible rfl))
        simp only [Act.put, List.setIfInBounds_toArray, List.set_cons_zero, List.set_cons_succ]
        (refine tk_yes (v := ?_) 22 (some 58) rfl rfl (by kernel_rfl) (by kernel_rfl) (by kernel_rfl) (fun _ _ _ h => h) (by rfl) ?_ hHeld ?_; rotate_left; focus (intro w hSw; go_simp; try with_reducible rfl))
        simp only [Act.put, List.setIfInBounds_toArray, List.set_cons_zero, List.set_cons_succ]
        (refine tk_yes (v := ?_) 23 (some 59) rfl rfl (by kernel_rfl) (by kernel_rfl) (by kernel_rfl) (fun _ _ _ h => h) (by rfl) ?_ hHeld ?_; rotate_left; focus (intro w hSw; go_simp; try with_reducible rfl))
        simp only [Act.put, List.setIfInBounds_toArray, List.set_cons_zero, List.set_cons_succ]
        (refine tk_yes (v := .int .i64 ON) 24 (some 60) rfl rfl (by kernel_rfl) (by kernel_rfl) (by kernel_rfl) (fun _ _ _ h => h) (by rfl) ?_ hHeld ?_; focus (intro w hSw; go_simp; try with_reducible rfl))
        simp only [Act.put, List.setIfInBounds_toArray, List.set_cons_zero, List.set_cons_succ]
        (refine tk_yes (v := (St.mk AN (kdL K6) XN ON).val) 25 (some 61) rfl rfl (by kernel_rfl) (by kernel_rfl) (by kernel_rfl) (fun _ _ _ h => h) (by rfl) ?_ hHeld ?_; focus (intro w hSw; exact run_bd34 (r := ⟨AN, kdL K6, XN, ON⟩) _ _ _ _ rfl rfl rfl rfl rfl w))
        simp only [Act.put, List.setIfInBounds_toArray, List.set_cons_zero, List.set_cons_succ]
        refine wpAnyH_ready (rs := [26]) (by kernel_rfl) (by simp) ?_
        refine AllReadyH.cons rfl (fun KC hK => ?_) AllReadyH.nil
        refine step_of (o := { dst := some 62, op := _, type := _, pos := _, after := _, guard := none }) rfl (bsSw (r := ⟨AN, kdL K6, XN, ON⟩) _ rfl rfl ?_)
        intro a5 w5 g5 l5
        have G5 := hid g5
        have M5 := hid (M2.out.more l5)
        have hh : (fun w' : World => w'.cell? ⟨b, off + k * 4 + 1, none⟩ = some (.int .u8 K) ∧ w'.cell? ⟨b, off + k * 4 + 2, none⟩ = some (.int .u8 X) ∧ w'.cell? ⟨b, off + k * 4 + 3, none⟩ = some (.int .u8 O)) w5 := ⟨cellkept hHeld.1 l5, cellkept hHeld.2.1 l5, cellkept hHeld.2.2 l5⟩
        have HH := hid hh
        clear hh
        refine hK.out _ _ HH.out (fun hHeld => ?_)
        clear hK g5 l5
        try simp only [Act.put, List.setIfInBounds_toArray, List.set_cons_zero, List.set_cons_succ]
        refine wpAnyH_ready (rs := [27]) (by kernel_rfl) (by simp) ?_
        refine AllReadyH.cons rfl (fun KC hK => ?_) AllReadyH.nil
        refine step_of (o := { dst := some 63, op := _, type := _, pos := _, after := _, guard := none }) rfl (app_stsw (m := k + 1) M5.out G5.out rfl (by omega) _ _ rfl rfl rfl ?_)
        intro a6 c6 w6 m6
        have M6 := hid m6
        have M1n := hid (HG.out)
        have hh : (fun w' : World => w'.cell? ⟨b, off + k * 4 + 1, none⟩ = some (.int .u8 K) ∧ w'.cell? ⟨b, off + k * 4 + 2, none⟩ = some (.int .u8 X) ∧ w'.cell? ⟨b, off + k * 4 + 3, none⟩ = some (.int .u8 O)) w6 := by
          obtain ⟨A9, K9, X9, O9, b9, off9, _, _, _, _, e9, _, q1, q2, q3⟩ := HG.out k hlt
          cases e9
          have lt9 : b < w.heap.size := World.block_lt_of_cell? w _ q1
          have kk : ∀ j, w6.cell? ⟨b, j, none⟩ = w5.cell? ⟨b, j, none⟩ := fun j => (M6.out.2.cell (p := ⟨b, j, none⟩) lt9).trans (M5.out.2.cell (p := ⟨b, j, none⟩) lt9).symm
          exact ⟨(kk _).trans HH.out.1, (kk _).trans HH.out.2.1, (kk _).trans HH.out.2.2⟩
        have HH6 := hid hh
        clear hh
        refine hK.out _ _ HH6.out (fun hHeld => ?_)
        clear hK m6
        try simp only [Act.put, List.setIfInBounds_toArray, List.set_cons_zero, List.set_cons_succ]
        (refine tk_yes (v := ?_) 28 (some 5) rfl rfl (by kernel_rfl) (by kernel_rfl) (by kernel_rfl) (fun _ _ _ h => h) (by rfl) ?_ hHeld ?_; rotate_left; focus (intro w hSw; go_simp; try with_reducible rfl))
        simp only [Act.put, List.setIfInBounds_toArray, List.set_cons_zero, List.set_cons_succ]
        refine wpAnyH_done (by kernel_rfl) ?_ _
        refine NoPanic.normal ?_
        have OK2 : Hid (OkT (ls ++ [⟨AN, kdL K6, XN, ON⟩])) := okT_snoc OK.out (by unfold OkSt I64; have := kdL_byt K6; dsimp only; omega)
        go_wp2
        go_roundw
        case rel => exact ⟨k + 1, c6, a6, _, by omega, by go_num, rfl, M6.out, OK2.out⟩
        case measure => simp [intOf]; omega
      · have e15 : (A % 16 == 15) = false := by simpa using h15
        clear h15
        go_upto_region 9 with fail
        refine wp_region_noPanic ?_
        refine wp_region_held_drew (S := (fun w' : World => w'.cell? ⟨b, off + k * 4 + 1, none⟩ = some (.int .u8 K) ∧ w'.cell? ⟨b, off + k * 4 + 2, none⟩ = some (.int .u8 X) ∧ w'.cell? ⟨b, off + k * 4 + 3, none⟩ = some (.int .u8 O))) (by kernel_rfl) ⟨C1.out, C2.out, C3.out⟩ (fun hHeld => ?_)
        have M2 : Hid (MkS w wr.drew (.slice a k c) k ls) := M1.out.more (Below.refl _ wr).drew
        (refine tk_yes (v := ?_) 0 (some 36) rfl rfl (by kernel_rfl) (by kernel_rfl) (by kernel_rfl) (fun _ _ _ h => h) (by rfl) ?_ hHeld ?_; rotate_left; focus (intro w hSw; go_simp; try with_reducible rfl))
        simp only [Act.put, List.setIfInBounds_toArray, List.set_cons_zero, List.set_cons_succ]
        (refine tk_yes (v := ?_) 1 (some 37) rfl rfl (by kernel_rfl) (by kernel_rfl) (by kernel_rfl) (fun _ _ _ h => h) (by rfl) ?_ hHeld ?_; rotate_left; focus (intro w hSw; go_simp; try with_reducible rfl))
        simp only [Act.put, List.setIfInBounds_toArray, List.set_cons_zero, List.set_cons_succ]
        (refine tk_yes (v := ?_) 2 (some 38) rfl rfl (by kernel_rfl) (by kernel_rfl) (by kernel_rfl) (fun _ _ _ h => h) (by rfl) ?_ hHeld ?_; rotate_left; focus (intro w hSw; go_simp; try with_reducible rfl))
        simp only [Act.put, List.setIfInBounds_toArray, List.set_cons_zero, List.set_cons_succ]
        (refine tk_yes (v := ?_) 3 (some 39) rfl rfl (by kernel_rfl) (by kernel_rfl) (by kernel_rfl) (fun _ _ _ h => h) (by rfl) ?_ hHeld ?_; rotate_left; focus (intro w hSw; go_simp; try with_reducible rfl))
        simp only [Act.put, List.setIfInBounds_toArray, List.set_cons_zero, List.set_cons_succ]
        (refine tk_yes (v := ?_) 4 (some 40) rfl rfl (by kernel_rfl) (by kernel_rfl) (by kernel_rfl) (fun _ _ _ h => h) (by rfl) ?_ hHeld ?_; rotate_left; focus (intro w hSw; go_simp; try with_reducible rfl))
        simp only [Act.put, List.setIfInBounds_toArray, List.set_cons_zero, List.set_cons_succ]
        (refine tk_yes (v := ?_) 5 (some 41) rfl rfl (by kernel_rfl) (by kernel_rfl) (by kernel_rfl) (fun _ _ _ h => h) (by rfl) ?_ hHeld ?_; rotate_left; focus (intro w hSw; go_simp; try with_reducible rfl))
        simp only [Act.put, List.setIfInBounds_toArray, List.set_cons_zero, List.set_cons_succ]
        (refine tk_yes (v := .int .u8 K) 6 (some 42) rfl rfl (by kernel_rfl) (by kernel_rfl) (by kernel_rfl) (fun _ _ _ h => h) (by rfl) ?_ hHeld ?_; focus (intro w hSw; have h := hSw.1; go_simp; try with_reducible rfl))
        simp only [Act.put, List.setIfInBounds_toArray, List.set_cons_zero, List.set_cons_succ]
        (refine tk_yes (v := .int .u8 K6) 7 (some 43) rfl rfl (by kernel_rfl) (by kernel_rfl) (by kernel_rfl) (fun _ _ _ h => h) (by rfl) ?_ hHeld ?_; focus (intro w hSw; go_simp; try with_reducible rfl))
        simp only [Act.put, List.setIfInBounds_toArray, List.set_cons_zero, List.set_cons_succ]
        (refine tk_yes (v := .int .u8 (kdL K6)) 8 (some 44) rfl rfl (by kernel_rfl) (by kernel_rfl) (by kernel_rfl) (fun _ _ _ h => h) (by rfl) ?_ hHeld ?_; focus (intro w hSw; have h := hSw.1; rcases (show K6 = 0 ∨ K6 = 1 ∨ K6 = 2 ∨ K6 = 3 ∨ K6 = 4 ∨ K6 = 5 by omega) with r | r | r | r | r | r <;> (rw [r]; go_simp; first | done | rfl)))
        simp only [Act.put, List.setIfInBounds_toArray, List.set_cons_zero, List.set_cons_succ]
        (refine tk_yes (v := ?_) 9 (some 45) rfl rfl (by kernel_rfl) (by kernel_rfl) (by kernel_rfl) (fun _ _ _ h => h) (by rfl) ?_ hHeld ?_; rotate_left; focus (intro w hSw; go_simp; try with_reducible rfl))
        simp only [Act.put, List.setIfInBounds_toArray, List.set_cons_zero, List.set_cons_succ]
        (refine tk_yes (v := ?_) 10 (some 46) rfl rfl (by kernel_rfl) (by kernel_rfl) (by kernel_rfl) (fun _ _ _ h => h) (by rfl) ?_ hHeld ?_; rotate_left; focus (intro w hSw; go_simp; try with_reducible rfl))
        simp only [Act.put, List.setIfInBounds_toArray, List.set_cons_zero, List.set_cons_succ]
        (refine tk_yes (v := ?_) 11 (some 47) rfl rfl (by kernel_rfl) (by kernel_rfl) (by kernel_rfl) (fun _ _ _ h => h) (by rfl) ?_ hHeld ?_; rotate_left; focus (intro w hSw; go_simp; try with_reducible rfl))
        simp only [Act.put, List.setIfInBounds_toArray, List.set_cons_zero, List.set_cons_succ]
        (refine tk_yes (v := ?_) 12 (some 48) rfl rfl (by kernel_rfl) (by kernel_rfl) (by kernel_rfl) (fun _ _ _ h => h) (by rfl) ?_ hHeld ?_; rotate_left; focus (intro w hSw; go_simp; try with_reducible rfl))
        simp only [Act.put, List.setIfInBounds_toArray, List.set_cons_zero, List.set_cons_succ]
        (refine tk_yes (v := .int .u8 X) 13 (some 49) rfl rfl (by kernel_rfl) (by kernel_rfl) (by kernel_rfl) (fun _ _ _ h => h) (by rfl) ?_ hHeld ?_; focus (intro w hSw; have h := hSw.2.1; go_simp; try with_reducible rfl))
        simp only [Act.put, List.setIfInBounds_toArray, List.set_cons_zero, List.set_cons_succ]
        (refine tk_yes (v := ?_) 14 (some 50) rfl rfl (by kernel_rfl) (by kernel_rfl) (by kernel_rfl) (fun _ _ _ h => h) (by rfl) ?_ hHeld ?_; rotate_left; focus (intro w hSw; go_simp; try with_reducible rfl))
        simp only [Act.put, List.setIfInBounds_toArray, List.set_cons_zero, List.set_cons_succ]
        (refine tk_yes (v := ?_) 15 (some 51) rfl rfl (by kernel_rfl) (by kernel_rfl) (by kernel_rfl) (fun _ _ _ h => h) (by rfl) ?_ hHeld ?_; rotate_left; focus (intro w hSw; go_simp; try with_reducible rfl))
        simp only [Act.put, List.setIfInBounds_toArray, List.set_cons_zero, List.set_cons_succ]
        (refine tk_yes (v := .int .i64 XN) 16 (some 52) rfl rfl (by kernel_rfl) (by kernel_rfl) (by kernel_rfl) (fun _ _ _ h => h) (by rfl) ?_ hHeld ?_; focus (intro w hSw; go_simp; try with_reducible rfl))
        simp only [Act.put, List.setIfInBounds_toArray, List.set_cons_zero, List.set_cons_succ]
        (refine tk_yes (v := ?_) 17 (some 53) rfl rfl (by kernel_rfl) (by kernel_rfl) (by kernel_rfl) (fun _ _ _ h => h) (by rfl) ?_ hHeld ?_; rotate_left; focus (intro w hSw; go_simp; try with_reducible rfl))
        simp only [Act.put, List.setIfInBounds_toArray, List.set_cons_zero, List.set_cons_succ]
        (refine tk_yes (v := ?_) 18 (some 54) rfl rfl (by kernel_rfl) (by kernel_rfl) (by kernel_rfl) (fun _ _ _ h => h) (by rfl) ?_ hHeld ?_; rotate_left; focus (intro w hSw; go_simp; try with_reducible rfl))
        simp only [Act.put, List.setIfInBounds_toArray, List.set_cons_zero, List.set_cons_succ]
        (refine tk_yes (v := ?_) 19 (some 55) rfl rfl (by kernel_rfl) (by kernel_rfl) (by kernel_rfl) (fun _ _ _ h => h) (by rfl) ?_ hHeld ?_; rotate_left; focus (intro w hSw; go_simp; try with_reducible rfl))
        simp only [Act.put, List.setIfInBounds_toArray, List.set_cons_zero, List.set_cons_succ]
        (refine tk_yes (v := ?_) 20 (some 56) rfl rfl (by kernel_rfl) (by kernel_rfl) (by kernel_rfl) (fun _ _ _ h => h) (by rfl) ?_ hHeld ?_; rotate_left; focus (intro w hSw; go_simp; try with_reducible rfl))
        simp only [Act.put, List.setIfInBounds_toArray, List.set_cons_zero, List.set_cons_succ]
        (refine tk_yes (v := .int .u8 O) 21 (some 57) rfl rfl (by kernel_rfl) (by kernel_rfl) (by kernel_rfl) (fun _ _ _ h => h) (by rfl) ?_ hHeld ?_; focus (intro w hSw; have h := hSw.2.2; go_simp; try with_reducible rfl))
        simp only [Act.put, List.setIfInBounds_toArray, List.set_cons_zero, List.set_cons_succ]
        (refine tk_yes (v := ?_) 22 (some 58) rfl rfl (by kernel_rfl) (by kernel_rfl) (by kernel_rfl) (fun _ _ _ h => h) (by rfl) ?_ hHeld ?_; rotate_left; focus (intro w hSw; go_simp; try with_reducible rfl))
        simp only [Act.put, List.setIfInBounds_toArray, List.set_cons_zero, List.set_cons_succ]
        (refine tk_yes (v := ?_) 23 (some 59) rfl rfl (by kernel_rfl) (by kernel_rfl) (by kernel_rfl) (fun _ _ _ h => h) (by rfl) ?_ hHeld ?_; rotate_left; focus (intro w hSw; go_simp; try with_reducible rfl))
        simp only [Act.put, List.setIfInBounds_toArray, List.set_cons_zero, List.set_cons_succ]
        (refine tk_yes (v := .int .i64 ON) 24 (some 60) rfl rfl (by kernel_rfl) (by kernel_rfl) (by kernel_rfl) (fun _ _ _ h => h) (by rfl) ?_ hHeld ?_; focus (intro w hSw; go_simp; try with_reducible rfl))
        simp only [Act.put, List.setIfInBounds_toArray, List.set_cons_zero, List.set_cons_succ]
        (refine tk_yes (v := (St.mk (k : Int) (kdL K6) XN ON).val) 25 (some 61) rfl rfl (by kernel_rfl) (by kernel_rfl) (by kernel_rfl) (fun _ _ _ h => h) (by rfl) ?_ hHeld ?_; focus (intro w hSw; exact run_bd34 (r := ⟨(k : Int), kdL K6, XN, ON⟩) _ _ _ _ rfl rfl rfl rfl rfl w))
        simp only [Act.put, List.setIfInBounds_toArray, List.set_cons_zero, List.set_cons_succ]
        refine wpAnyH_ready (rs := [26]) (by kernel_rfl) (by simp) ?_
        refine AllReadyH.cons rfl (fun KC hK => ?_) AllReadyH.nil
        refine step_of (o := { dst := some 62, op := _, type := _, pos := _, after := _, guard := none }) rfl (bsSw (r := ⟨(k : Int), kdL K6, XN, ON⟩) _ rfl rfl ?_)
        intro a5 w5 g5 l5
        have G5 := hid g5
        have M5 := hid (M2.out.more l5)
        have hh : (fun w' : World => w'.cell? ⟨b, off + k * 4 + 1, none⟩ = some (.int .u8 K) ∧ w'.cell? ⟨b, off + k * 4 + 2, none⟩ = some (.int .u8 X) ∧ w'.cell? ⟨b, off + k * 4 + 3, none⟩ = some (.int .u8 O)) w5 := ⟨cellkept hHeld.1 l5, cellkept hHeld.2.1 l5, cellkept hHeld.2.2 l5⟩
        have HH := hid hh
        clear hh
        refine hK.out _ _ HH.out (fun hHeld => ?_)
        clear hK g5 l5
        try simp only [Act.put, List.setIfInBounds_toArray, List.set_cons_zero, List.set_cons_succ]
        refine wpAnyH_ready (rs := [27]) (by kernel_rfl) (by simp) ?_
        refine AllReadyH.cons rfl (fun KC hK => ?_) AllReadyH.nil
        refine step_of (o := { dst := some 63, op := _, type := _, pos := _, after := _, guard := none }) rfl (app_stsw (m := k + 1) M5.out G5.out rfl (by omega) _ _ rfl rfl rfl ?_)
        intro a6 c6 w6 m6
        have M6 := hid m6
        have M1n := hid (HG.out)
        have hh : (fun w' : World => w'.cell? ⟨b, off + k * 4 + 1, none⟩ = some (.int .u8 K) ∧ w'.cell? ⟨b, off + k * 4 + 2, none⟩ = some (.int .u8 X) ∧ w'.cell? ⟨b, off + k * 4 + 3, none⟩ = some (.int .u8 O)) w6 := by
          obtain ⟨A9, K9, X9, O9, b9, off9, _, _, _, _, e9, _, q1, q2, q3⟩ := HG.out k hlt
          cases e9
          have lt9 : b < w.heap.size := World.block_lt_of_cell? w _ q1
          have kk : ∀ j, w6.cell? ⟨b, j, none⟩ = w5.cell? ⟨b, j, none⟩ := fun j => (M6.out.2.cell (p := ⟨b, j, none⟩) lt9).trans (M5.out.2.cell (p := ⟨b, j, none⟩) lt9).symm
          exact ⟨(kk _).trans HH.out.1, (kk _).trans HH.out.2.1, (kk _).trans HH.out.2.2⟩
        have HH6 := hid hh
        clear hh
        refine hK.out _ _ HH6.out (fun hHeld => ?_)
        clear hK m6
        try simp only [Act.put, List.setIfInBounds_toArray, List.set_cons_zero, List.set_cons_succ]
        (refine tk_yes (v := ?_) 28 (some 5) rfl rfl (by kernel_rfl) (by kernel_rfl) (by kernel_rfl) (fun _ _ _ h => h) (by rfl) ?_ hHeld ?_; rotate_left; focus (intro w hSw; go_simp; try with_reducible rfl))
        simp only [Act.put, List.setIfInBounds_toArray, List.set_cons_zero, List.set_cons_succ]
        refine wpAnyH_done (by kernel_rfl) ?_ _
        refine NoPanic.normal ?_
        have OK2 : Hid (OkT (ls ++ [⟨(k : Int), kdL K6, XN, ON⟩])) := okT_snoc OK.out (by unfold OkSt I64; have := kdL_byt K6; dsimp only; omega)
        go_wp2
        go_roundw
        case rel => exact ⟨k + 1, c6, a6, _, by omega, by go_num, rfl, M6.out, OK2.out⟩
        case measure => simp [intOf]; omega
    · obtain rfl : len = k := by omega
      go_wp2
      go_ret
      exact ⟨_, _, _, rfl, M1.out, OK.out⟩
end Go.Proofs.Ytnahbfnchopghaa
