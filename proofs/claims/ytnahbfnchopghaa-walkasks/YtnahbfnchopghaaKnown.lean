/- What the statements ask first: a request. -/
import Derived.Test.YtnahbfnchopghaaLit
namespace Go.Proofs.Ytnahbfnchopghaa
open Go.ChangeShapes Go.WideShapes Go.ChangeAt Go.RowKit

def K4 : List St := [⟨0, 65, 1, 0⟩, ⟨1, 68, 2, 1⟩, ⟨2, 73, 3, 0⟩, ⟨3, 90, 0, 0⟩]
def K2 : List ByteArray := [⟨#[53, 49]⟩, ⟨#[54, 48, 48]⟩]
def KR : Rs := ⟨3, 3, true, ⟨#[53, 49]⟩, 600⟩
theorem known_run : runL K4 0 K2 = KR := by rfl
theorem k2_txt : Txt K2 := fun s hs => by
  unfold K2 at hs
  rcases List.mem_cons.1 hs with rfl | hs
  · decide
  · rcases List.mem_cons.1 hs with rfl | hs
    · decide
    · cases hs
set_option maxHeartbeats 4000000 in
theorem known7 (w : World) : Calls Try.prog 7 #[] w fun e w' => e = .returned (.bool true) ∧ Below w.heap.size w w' := by
  have TA := hid True.intro
  have TB := hid True.intro
  have TC := hid True.intro
  have qg := eqg30 KR KR
  have qb := bin_same KR
  go_enter Try.func7, Try.ntmps7
  go_wp2_with (first | (have kill := D5.out; refine bdP30 (r := KR) rfl _ _ _ _ _ rfl rfl rfl rfl rfl rfl ?_) | (have kill := D5.out; refine ld30 D5.out rfl _ rfl rfl ?_) | (have kill := D4.out; refine st30 (r := KR) (w0 := w3) D4.out E4.out he4.out rfl _ _ rfl rfl rfl ?_; intro w5 v5 l5; have D5 := hid v5; have E5 := hid (sq E3.out l5); clear v5 l5 kill D4) | (have kill := E3.out; refine al30 rfl rfl ?_; intro b4 w4 hb4 v4 l4; have D4 := hid v4; have E4 := hid l4; have he4 := hid hb4; clear v4 l4 hb4 kill) | (have kill := G2.out; go_at_call 10; refine (run10 _ _ _ K4 _ _ _ _ K2 _ (M1.out.given.below G2.out.bel) (G2.out.given k2_txt)).mono ?_; rintro e w3 ⟨rfl, l3⟩; rw [known_run]; have E3 := hid (sq M1.out.bel (sq G2.out.bel l3)); clear l3 kill G2 M1) | (have kill := M1.out; refine bsT2 rfl _ _ rfl rfl rfl ?_; intro a2 w2 m2; have G2 : Hid (T.Mk w1 w2 (.slice a2 2 2) 2 K2) := hid m2; clear m2 kill) | (have kill := TA.out; refine bsS4 (r0 := ⟨0, 65, 1, 0⟩) (r1 := ⟨1, 68, 2, 1⟩) (r2 := ⟨2, 73, 3, 0⟩) (r3 := ⟨3, 90, 0, 0⟩) rfl _ _ _ _ rfl rfl rfl rfl rfl ?_; intro a1 w1 m1; have M1 : Hid (MkS w w1 (.slice a1 4 4) 4 K4) := hid m1; clear m1 kill TA) | (refine bdQ34 (r := ⟨0, 65, 1, 0⟩) rfl _ _ _ rfl rfl rfl rfl rfl ?_) | (refine bdQ34 (r := ⟨2, 73, 3, 0⟩) rfl _ _ _ rfl rfl rfl rfl rfl ?_) | (refine bdP34 (r := ⟨1, 68, 2, 1⟩) rfl _ _ _ _ rfl rfl rfl rfl rfl ?_) | (refine bdT34 (r := ⟨3, 90, 0, 0⟩) rfl _ _ rfl rfl rfl rfl rfl ?_))
  go_ret
  exact ⟨rfl, E5.out⟩
end Go.Proofs.Ytnahbfnchopghaa
