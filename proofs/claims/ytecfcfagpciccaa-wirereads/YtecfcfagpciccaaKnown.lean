/- known: a frame, and parts. -/
import Derived.Test.YtecfcfagpciccaaSame
import Derived.ArgAppend
import Derived.Lib.SlBytesConst
namespace Go.Proofs.Ytecfcfagpciccaa
open Go.ChangeShapes Go.WideShapes Go.ChangeAt Go.RowKit

theorem T.Given.of_mk {W0 w : World} {ao : Option Addr} {n cap : Nat} {l : List ByteArray} (h : T.Mk W0 w (.slice ao n cap) n l) (hb : Txt l) : T.Given w ao n cap l := h.given hb
theorem byt_ab : Byt [97, 98] := by intro x hx; simp at hx; omega
theorem byt_12 : Byt [1, 2] := by intro x hx; simp at hx; omega
theorem byt_zz : Byt [122, 122] := by intro x hx; simp at hx; omega
theorem fr_ab : frX [97, 98] = [2, 97, 98, 3, 0] := by kernel_rfl
theorem frOk_ab : frOk [97, 98] = true := by kernel_rfl
theorem byt_f : Byt ([122, 122] ++ [2, 97, 98, 3, 0]) := by intro x hx; simp at hx; omega
theorem uf_1 : ufX ([122, 122] ++ [2, 97, 98, 3, 0]) = [97, 98] := by kernel_rfl
theorem uf_2 : ufN ([122, 122] ++ [2, 97, 98, 3, 0]) = 7 := by kernel_rfl
theorem uf_3 : ufB ([122, 122] ++ [2, 97, 98, 3, 0]) = true := by kernel_rfl
def abT : List ByteArray := [⟨#[97]⟩, ⟨#[98]⟩]
theorem abT_txt : Txt abT := by intro s hs; simp [abT] at hs; rcases hs with rfl | rfl <;> decide
theorem abT_len : ∀ s ∈ abT, s.size ≤ 1000 := by intro s hs; simp [abT] at hs; rcases hs with rfl | rfl <;> decide
theorem j_1 : jX (pans abT) = [97, 28, 98] := by kernel_rfl
theorem j_2 : jOk (pans abT) = true := by kernel_rfl
theorem j_3 : jOk (pans []) = false := by kernel_rfl
theorem byt_j : Byt [97, 28, 98] := by intro x hx; simp at hx; omega
theorem s_1 : txts (spl [] [97, 28, 98]) = abT := by kernel_rfl
theorem str_1 : strOfNums [97, 98] = ⟨#[97, 98]⟩ := by kernel_rfl
theorem str_2 : strOfNums [97, 28, 98] = ⟨#[97, 28, 98]⟩ := by kernel_rfl
theorem lrc_12 : lrcL [1, 2] = 3 := by kernel_rfl
theorem abT_new (w : World) : T.Given (w.alloc (.cells #[.string ⟨#[97]⟩, .string ⟨#[98]⟩] 9)) (some ⟨w.heap.size, 0, none⟩) 2 2 abT := T.Given.new w abT 2 rfl (by omega) abT_txt
theorem T.nil_given (w : World) : T.Given w none 0 0 [] := ⟨rfl, fun s hs => by simp at hs, .inl rfl, by omega, by omega⟩
theorem row_news {w : World} {ad : Addr} {l : List Int} (hrow : RowAt w (some ad) l) : ∀ j u, (by8 l)[j]? = some u → w.cell? (ad.add j) = some u := by
  intro j u hj
  rcases hrow with h0 | ⟨b, off, he, hc⟩
  · subst h0; simp at hj
  · simp only [Option.some.injEq] at he
    subst he
    have hlt : j < l.length := by
      have := (List.getElem?_eq_some_iff.1 hj).1
      simpa using this
    rw [Addr.add_mid, hc j hlt]
    simp [List.getElem?_eq_getElem hlt] at hj
    rw [← hj]
    simp [hlt]
/-- append onto a full row, whosever it is: a new one. -/
theorem app_grow {ops : Array Oper} {rest : List Oper} {o : Oper} {a : Act} {w : World} {Q : Exit → Act → World → Prop} {n1 c1 n2 c2 : Nat} {ad1 ad2 : Addr} {l1 l2 : List Int}
    (h1 : RowAt w (some ad1) l1) (hn1 : l1.length = n1) (h2 : RowAt w (some ad2) l2) (hn2 : l2.length = n2) (hfull : c1 < n1 + n2) (hsmall : n1 + n2 ≤ 1000000)
    (hgd : o.guard = none) (s x : Operand) (ho : o.op = .call { callee := .builtin .append, args := #[s, x], argTypes := #[22, 22] })
    (hs : a.eval s = .slice (some ad1) n1 c1) (hx : a.eval x = .slice (some ad2) n2 c2)
    (h : ∀ ao cap w', Mk w w' (.slice ao (n1 + n2) cap) (n1 + n2) (l1 ++ l2) → wpList Try.prog ops Q rest (a.put o.dst (.slice ao (n1 + n2) cap)) w') :
    wpList Try.prog ops Q (o :: rest) a w := by
  obtain ⟨i0, hi, hz0, hz1, hz2⟩ := info_parts Try.info5
  refine wpList_append_grows w hgd s x 22 ho 5 i0 (.int .u8 0) 1 1 Try.underlying22 hi hz0 hz1 hz2 rfl (by decide) (some ad1) n1 c1 (by8 l1) hs (fun e => by cases e) (by simp [hn1]) (fun b e => by cases e; exact row_news h1)
    ad2 n2 c2 (by8 l2) hx (by simp [hn2]) (row_news h2) (one8 l2) hfull (by unfold maxLen; omega) (by omega) ?_
  intro v' w' hown hgrow
  have hR : Row w.heap.size w' v' (n1 + n2) (l1 ++ l2) := by unfold Row; rw [by8, List.map_append]; exact hown
  obtain ⟨ao, cap, rfl, _⟩ := hR.form
  have ht : Turned (fun _ => False) w w' := Turned.grown hgrow (fun k e => by cases e)
  exact h ao cap w' ⟨hR, ht.below (fun k f => f.elim) (Nat.le_refl _)⟩
set_option maxHeartbeats 8000000 in
theorem known9 (w : World) : Calls Try.prog 9 #[] w fun e w' => e = .returned (.bool true) ∧ Below w.heap.size w w' := by
  have G0 : Hid (Given (w.alloc (.cells #[.int .u8 97, .int .u8 98] 5 (2, 3))) (some ⟨w.heap.size, 0, none⟩) 2 2 [97, 98]) := Given.newF w [97, 98] 2 (2, 3) rfl (by omega) byt_ab
  have kc := fun (w : World) (C : Array Value) (n c : Nat) => Lib.run_convert_bytes_const (P := Try.prog) w 22 5 C n c Try.underlying22 Try.underlying5
  go_enter Try.func9, Try.ntmps9
  go_upto_region 2 with (go_at_call 17; refine (frame17 _ _ _ [97, 98] _ G0.out (fun e => by cases e)).mono ?_; rintro e w1 ⟨a1, n1, c1, rfl, m1⟩; rw [frOk_ab]; rw [fr_ab] at m1; have M1 := hid m1; clear m1)
  obtain rfl : n1 = 5 := M1.out.1.len.symm
  have B1 : Hid (Below w.heap.size w w1) := sq (bel1 _ _) M1.out.2
  have R1 : Hid (RowAt (w1.alloc (.cells #[.int .u8 122, .int .u8 122] 5 (2, 3))) (some ⟨w1.heap.size, 0, none⟩) [122, 122]) := (Given.newF w1 [122, 122] 2 (2, 3) rfl (by omega) byt_zz).row
  have R2 : Hid (RowAt (w1.alloc (.cells #[.int .u8 122, .int .u8 122] 5 (2, 3))) a1 [2, 97, 98, 3, 0]) := row_mono (bel1 _ _) M1.out.1.at
  have L1 : Hid (([122, 122] : List Int).length = 2) := rfl
  have L2 : Hid (([2, 97, 98, 3, 0] : List Int).length = 5) := rfl
  obtain ⟨ad, rfl⟩ : ∃ ad, a1 = some ad := by
    cases a1 with
    | none => exact absurd (M1.out.1.caps.1 rfl).1 (by omega)
    | some ad => exact ⟨ad, rfl⟩
  have q1 := M1.out.1.caps.2.1
  have q2 := M1.out.1.caps.2.2
  go_upto_region 3 with (first | (go_at_call 19; have kill := D2.out; refine (unf19 _ _ _ _ _ (D2.out.given byt_f) (by omega)).mono ?_; rintro e w3 ⟨a3, n3, c3, rfl, m3⟩; rw [uf_2, uf_3]; rw [uf_1] at m3; have M3 := hid m3; clear m3 kill) | (at_builtin; have kill := R2.out; refine app_grow R1.out L1.out R2.out L2.out (by omega) (by omega) rfl _ _ rfl rfl rfl ?_; intro a2 c2 w2 m2; have D2 := hid m2; clear m2 kill R2))
  obtain rfl : n3 = 2 := M3.out.1.len.symm
  have B2 : Hid (Below w1.heap.size w1 w3) := sq (sq (bel1 _ _) D2.out.2) M3.out.2
  have B3 : Hid (Below w.heap.size w w3) := sq B1.out B2.out
  have S3 : Hid (RowAt w3 a3 [97, 98]) := M3.out.1.at
  have F3 : Hid (∀ w', Below w3.heap.size w3 w' → RowAt w' (some ad) [2, 97, 98, 3, 0]) := fun w' b => row_mono (sq B2.out b) M1.out.1.at
  have T3 := hid (abT_new w3)
  go_upto_region 4 with (go_at_call 11; refine (join11 _ _ _ abT _ T3.out (by omega) abT_len).mono ?_; rintro e w4 ⟨a4, n4, c4, rfl, m4⟩; rw [j_2]; rw [j_1] at m4; have M4 := hid m4; clear m4)
  obtain rfl : n4 = 3 := M4.out.1.len.symm
  have B4 : Hid (Below w3.heap.size w3 w4) := sq (bel1 _ _) M4.out.2
  go_upto_region 5 with (go_at_call 11; refine (join11 none 0 0 [] _ (T.nil_given _) (by omega) (by simp)).mono ?_; rintro e w5 ⟨a5, n5, c5, rfl, m5⟩; rw [j_3]; have M5 := hid m5; clear m5)
  have B5 : Hid (Below w3.heap.size w3 w5) := sq B4.out M5.out.2
  have G5 : Hid (Given w5 a4 3 c4 [97, 28, 98]) := (M4.out.given byt_j).below M5.out.2
  have kc1 := run_str w5 a3 [97, 98] 2 c3 rfl (row_mono B5.out S3.out)
  have kc2 := run_str w5 a4 [97, 28, 98] 3 c4 rfl G5.out.row
  rw [str_1] at kc1
  rw [str_2] at kc2
  clear kc
  go_wp2_with (first | (go_at_call 14; have kill := B7.out; refine (lrc14 _ _ _ [1, 2] _ (Given.new w7 [1, 2] 2 rfl (by omega) byt_12)).mono ?_; rintro e w8 ⟨rfl, rfl⟩; rw [lrc_12]; have B8 := hid (sq B7.out (bel1 w7 (.cells (cellsOf [1, 2]) 5))); clear kill B7) | (go_at_call 12; have kill := M6.out; refine (str12 _ _ _ _ _ _ abT abT _ ((T.Given.of_mk M6.out abT_txt).below (bel1 _ _)) (abT_new w6)).mono ?_; rintro e w7 ⟨rfl, mm, h7⟩; rw [decide_eq_true rfl]; have B7 : Hid (Below w3.heap.size w3 w7) := (by unfold Hid; rw [h7]; exact bel_drewN (sq (sq B5.out M6.out.2) (bel1 _ _)) mm); clear h7 kill M6) | (go_at_call 10; have kill := kc1; refine (split10 _ _ _ [97, 28, 98] _ G5.out (by omega)).mono ?_; rintro e w6 ⟨a6, n6, c6, rfl, m6, _⟩; rw [s_1] at m6; have M6 := hid m6; clear m6 kill kc1))
  go_ret
  exact ⟨rfl, sq B3.out B8.out⟩
end Go.Proofs.Ytecfcfagpciccaa
