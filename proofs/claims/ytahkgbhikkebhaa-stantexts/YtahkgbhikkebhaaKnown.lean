/- The chapter's example. -/
import Derived.Test.YtahkgbhikkebhaaBk
import Derived.Test.YtahkgbhikkebhaaKp
import Derived.Test.YtahkgbhikkebhaaEq
namespace Go.Proofs.Ytahkgbhikkebhaa
open Go.ChangeShapes Go.WideShapes Go.ChangeAt Go.RowKit

theorem prs_known : prs ⟨#[45, 48, 48, 48, 48, 51, 45, 48, 48, 48, 48, 48, 50]⟩ = .tuple #[.agg #[.int .u16 3, .int .u32 2], .bool true] := by
  rw [prs_yes (by decide)]
  have e1 : numV ((⟨#[45, 48, 48, 48, 48, 51, 45, 48, 48, 48, 48, 48, 50]⟩ : ByteArray).extract 1 6) = 3 := by decide
  have e2 : numV ((⟨#[45, 48, 48, 48, 48, 51, 45, 48, 48, 48, 48, 48, 50]⟩ : ByteArray).extract 7 13) = 2 := by decide
  rw [e1, e2]
theorem text_known : textL 3 2 = ⟨#[45, 48, 48, 48, 48, 51, 45, 48, 48, 48, 48, 48, 50]⟩ := by decide
theorem nextk {w : World} {p b n : Nat} {f : Int → Int} (h : BK w p b n f) (hn : n < 1000000) (t x y : Int) (h0 : 0 ≤ t) (h1 : t < 65536) (hx : f t = x) (hy : nextL x = y) (f0 : 0 ≤ x) (f1 : x ≤ 999999) :
    Calls Try.prog 9 #[.pointer (some ⟨p, 0, none⟩), .int .u16 t] w fun e w' => e = .returned (.agg #[.int .u16 t, .int .u32 y]) ∧ BK w' p b (n + 1) (upd f t y) ∧ w.grownBy w' (some b) := by
  subst hx hy
  exact next9 h hn t h0 h1 f0 f1
theorem lastk {w : World} {p b n : Nat} {f : Int → Int} (h : BK w p b n f) (t x : Int) (hx : f t = x) (h0 : 0 ≤ t) (h1 : t < 65536) :
    Calls Try.prog 10 #[.pointer (some ⟨p, 0, none⟩), .int .u16 t] w fun e w' => e = .returned (.int .u32 x) ∧ Below w.heap.size w w' := by
  subst hx
  exact last10 h t h0 h1
/-- The book's own memory lies above B, and below it all is as it was. -/
structure OB (w0 w : World) (p b n : Nat) (f : Int → Int) : Prop where
  bk : BK w p b n f
  old : Below w0.heap.size w0 w
  hp : w0.heap.size ≤ p
  hb : w0.heap.size ≤ b
theorem OB.grown {w0 w w' : World} {p b n m : Nat} {f g : Int → Int} (h : OB w0 w p b n f) (k : BK w' p b m g) (hg : w.grownBy w' (some b)) : OB w0 w' p b m g :=
  ⟨k, h.old.grown hg h.old.size (fun _ e => by cases e; exact h.hb), h.hp, h.hb⟩
theorem OB.below {w0 w w' : World} {p b n : Nat} {f : Int → Int} (h : OB w0 w p b n f) (k : Below w.heap.size w w') : OB w0 w' p b n f :=
  ⟨h.bk.below k, h.old.trans (k.mono h.old.size), h.hp, h.hb⟩
set_option maxHeartbeats 2000000 in
theorem known6 (w : World) : Calls Try.prog 6 #[] w fun e w' => e = .returned (.bool true) ∧ Below w.heap.size w w' := by
  have g1 := fun w => (gbin33 3 1 3 1 w).2
  have g2 := fun x y w => (eqg33 x y 3 1 3 1 w).2
  have f1 := fld1
  have TK := hid True.intro
  go_enter Try.func6, Try.ntmps6
  go_upto_region 2 with (go_at_call 7; have kill := TK.out; refine (new7 _).mono ?_; rintro e w1 ⟨p, b, rfl, k1, hp, hb, l1⟩; have K1 := hid (OB.mk k1 l1 hp hb); clear k1 l1 hp hb kill TK)
  go_upto_region 4 with (first
    | (go_at_call 9; have kill := K3.out; refine (nextk K3.out.bk (by omega) 4 0 1 (by omega) (by omega) rfl rfl (by omega) (by omega)).mono ?_; rintro e w4 ⟨rfl, k4, g4⟩; have K4 := hid (K3.out.grown k4 g4); clear k4 g4 kill K3)
    | (go_at_call 9; have kill := K2.out; refine (nextk K2.out.bk (by omega) 3 1 2 (by omega) (by omega) rfl rfl (by omega) (by omega)).mono ?_; rintro e w3 ⟨rfl, k3, g3⟩; have K3 := hid (K2.out.grown k3 g3); clear k3 g3 kill K2)
    | (go_at_call 9; have kill := K1.out; refine (nextk K1.out.bk (by omega) 3 0 1 (by omega) (by omega) rfl rfl (by omega) (by omega)).mono ?_; rintro e w2 ⟨rfl, k2, g2⟩; have K2 := hid (K1.out.grown k2 g2); clear k2 g2 kill K1))
  go_upto_region 5 with (go_at_call 12; have kill := K4.out; refine (parse12 _ _).mono ?_; rw [prs_known]; rintro e w5 ⟨rfl, l5⟩; have K5 := hid (K4.out.below l5); have N5 := KB.new w5 3 2; have K6 := hid (K5.out.below (bel1 w5 (.cells #[.int .u16 3, .int .u32 2] 33))); obtain ⟨c0, c1, _⟩ := N5.cells; clear l5 kill K4 K5)
  generalize w5.alloc (.cells #[.int .u16 3, .int .u32 2] 33) = w6 at *
  have N6 := hid N5
  clear g1 g2 f1 N5 c0 c1
  have c0 := N6.out.cells.1
  have c1 := N6.out.cells.2.1
  have q1 := fun w => (gbin33 3 2 3 2 w).1
  have q2 := fun x y w => (eqg33 x y 3 2 3 2 w).1
  have TK := hid True.intro
  have HT := hid text_known
  have HL : Hid (lessL 3 2 4 0 = true) := hid (by decide)
  go_wp2_with (first
    | (go_at_call 15; have kill := TL.out; refine (less15 3 2 4 0 _).mono ?_; rw [HL.out]; rintro e w10 ⟨rfl, l10⟩; have K10 := hid (K9.out.below l10); clear l10 kill TL)
    | (go_at_call 11; have kill := K8.out; refine (text11 3 2 _ (by omega) (by omega) (by omega) (by omega)).mono ?_; rw [HT.out]; rintro e w9 ⟨rfl, l9⟩; have K9 := hid (K8.out.below l9); have N9 := hid (N8.out.below l9); have c0 := N9.out.cells.1; have c1 := N9.out.cells.2.1; have TL := hid True.intro; clear l9 kill K8 N8)
    | (go_at_call 10; have kill := K7.out; refine (lastk K7.out.bk 9 0 rfl (by omega) (by omega)).mono ?_; rintro e w8 ⟨rfl, l8⟩; have K8 := hid (K7.out.below l8); have N8 := hid (N7.out.below l8); clear l8 kill K7 N7)
    | (go_at_call 10; have kill := TK.out; refine (lastk K6.out.bk 3 2 rfl (by omega) (by omega)).mono ?_; rintro e w7 ⟨rfl, l7⟩; have K7 := hid (K6.out.below l7); have N7 := hid (N6.out.below l7); clear l7 kill TK K6 N6))
  go_ret
  exact ⟨rfl, K10.out.old⟩
end Go.Proofs.Ytahkgbhikkebhaa
