/- The chapter's example. -/
import Derived.Test.YtfpjjdlfofejcaaReadI
import Derived.Test.YtfpjjdlfofejcaaSets
import Derived.Test.YtfpjjdlfofejcaaIsos
namespace Go.Proofs.Ytfpjjdlfofejcaa
open Go.ChangeShapes Go.WideShapes Go.ChangeAt Go.RowKit

def exF : Fd := ⟨70, ⟨#[51, 48, 49]⟩⟩
theorem ex0 : (⟨70, ⟨#[51, 48, 49]⟩⟩ : Fd).ok := by unfold Fd.ok; decide
theorem ex1 : rightM 800 [exF] = true := by decide
def exL : List Int := [8, 0, 128, 0, 0, 0, 0, 0, 0, 0, 4, 0, 0, 0, 0, 0, 0, 0, 3, 1]
theorem ex3 : isoL 800 [exF] = exL := by decide
theorem ex4 : rdI exL = some (800, [exF]) := by kernel_rfl
theorem ex_byt : Byt exL := by unfold Byt exL; decide
theorem ex5 : rightB 11 ⟨#[48, 48, 48, 48, 48, 49]⟩ = true := by decide
theorem ex6 : (setL 11 ⟨#[48, 48, 48, 48, 48, 49]⟩ [exF]).length = 2 := by decide
theorem ex7 : rightM 0 [] = false := by decide
theorem ex8 : getO [exF] 70 = some ⟨#[51, 48, 49]⟩ := by decide
theorem put_ex (ao : Option Addr) (w : World) (h : FG w ao 1 1 [⟨70, ⟨#[51, 48, 49]⟩⟩]) : Calls Try.prog 19 #[.agg #[.int .i64 800, .slice ao 1 1]] w fun e w' => ∃ a c, e = .returned (.tuple #[.slice a 20 c, .int .i64 0]) ∧ Mk w w' (.slice a 20 c) 20 exL := by
  refine (put19_yes 800 ao 1 1 [exF] w h ex1).mono ?_
  rintro e w' ⟨a, n, c, rfl, m⟩
  rw [ex3] at m
  obtain rfl : 20 = n := m.1.len
  exact ⟨a, c, rfl, m⟩
theorem read_ex (ao : Option Addr) (cap : Nat) (w : World) (h : Given w ao 20 cap exL) : Calls Try.prog 20 #[.slice ao 20 cap] w fun e w' => ∃ a c, e = .returned (.tuple #[.agg #[.int .i64 800, .slice a 1 c], .int .i64 0]) ∧ MkF w w' (.slice a 1 c) 1 [⟨70, ⟨#[51, 48, 49]⟩⟩] := by
  refine (read20_yes ao 20 cap exL w h 800 [exF] ex4).mono ?_
  rintro e w' ⟨a, n, c, rfl, m⟩
  obtain rfl : 1 = n := m.1.len
  exact ⟨a, c, rfl, m⟩
theorem get_ex (ao : Option Addr) (w : World) (h : FG w ao 1 1 [⟨70, ⟨#[51, 48, 49]⟩⟩]) : Calls Try.prog 8 #[.agg #[.int .i64 800, .slice ao 1 1], .int .i64 70] w fun e w' => e = .returned (.tuple #[.string ⟨#[51, 48, 49]⟩, .bool true]) ∧ Below w.heap.size w w' := by
  have := get8 800 ao 1 1 [exF] 70 w h
  rwa [(get_yes ex8).1, (get_yes ex8).2] at this
theorem set_ex (ao : Option Addr) (w : World) (h : FG w ao 1 1 [⟨70, ⟨#[51, 48, 49]⟩⟩]) : Calls Try.prog 12 #[.agg #[.int .i64 800, .slice ao 1 1], .int .i64 11, .string ⟨#[48, 48, 48, 48, 48, 49]⟩] w fun e w' => ∃ a c, e = .returned (.tuple #[.agg #[.int .i64 800, .slice a 2 c], .int .i64 0]) ∧ MkF w w' (.slice a 2 c) 2 (setL 11 ⟨#[48, 48, 48, 48, 48, 49]⟩ [exF]) := by
  refine (set12_yes 800 ao 1 1 [exF] 11 _ w h ex1 ex5).mono ?_
  rintro e w' ⟨a, n, c, rfl, m⟩
  obtain rfl : 2 = n := by rw [← m.1.len, ex6]
  exact ⟨a, c, rfl, m⟩
theorem reply_ex (w : World) : Calls Try.prog 15 #[.int .i64 200] w fun e w' => e = .returned (.tuple #[.int .i64 210, .bool true]) ∧ w = w' := reply15 200 w
theorem isos_ex (a1 a2 : Option Addr) (c1 c2 : Nat) (w : World) (h1 : FG w a1 1 c1 [⟨70, ⟨#[51, 48, 49]⟩⟩]) (h2 : FG w a2 1 c2 [⟨70, ⟨#[51, 48, 49]⟩⟩]) : Calls Try.prog 14 #[.agg #[.int .i64 800, .slice a1 1 c1], .agg #[.int .i64 800, .slice a2 1 c2]] w fun e w' => e = .returned (.bool true) ∧ Below w.heap.size w w' := by
  have := isos14 800 800 a1 a2 1 c1 1 c2 [exF] [exF] w h1 h2
  rwa [show (decide ((800 : Int) = 800) && sameL [exF] [exF]) = true from by simp [same_self]] at this
theorem right_ex (ao : Option Addr) (w : World) (h : FG w ao 1 1 [⟨70, ⟨#[51, 48, 49]⟩⟩]) : Calls Try.prog 18 #[.agg #[.int .i64 800, .slice ao 1 1]] w fun e w' => e = .returned (.bool true) ∧ Below w.heap.size w w' := by
  have := right18 800 ao 1 1 [exF] w h
  rwa [ex1] at this
theorem right_no (w : World) : Calls Try.prog 18 #[.agg #[.int .i64 0, .slice none 0 0]] w fun e w' => e = .returned (.bool false) ∧ Below w.heap.size w w' := by
  have := right18 0 none 0 0 [] w (FG.none w)
  rwa [ex7] at this
set_option maxRecDepth 20000 in
set_option maxHeartbeats 2000000 in
theorem known5 (w : World) : Calls Try.prog 5 #[] w fun e w' => e = .returned (.bool true) ∧ Below w.heap.size w w' := by
  go_enter Try.func5, Try.ntmps5
  go_wp2_with (first | (go_at_call 18; have kill := L8.out; refine (right_no _).mono ?_; rintro e w9 ⟨rfl, l9⟩; have L9 := hid (sq L8.out l9); clear l9 L8 kill) | (go_at_call 18; have kill := L7.out; refine (right_ex _ _ G7.out).mono ?_; rintro e w8 ⟨rfl, l8⟩; have L8 := hid (sq L7.out l8); clear l8 G7 V7 L7 kill i0 i1 z0 z1) | (go_at_call 14; have kill := L6.out; refine (isos_ex _ _ _ _ _ X6.out G6.out).mono ?_; rintro e w7 ⟨rfl, l7⟩; have G7 := hid (G6.out.below l7); have V7 := hid (V6.out.more l7); have Z7 := hid (Z6.out.more l7); clear i0 i1 y0 y1; obtain ⟨i0, i1⟩ := V7.out; obtain ⟨z0, z1⟩ := Z7.out; have L7 := hid (sq L6.out l7); clear l7 X6 Y6 G6 V6 Z6 L6 kill) | (go_at_call 15; have kill := L6.out; refine (reply_ex _).mono ?_; rintro e w66 ⟨rfl, rfl⟩; clear kill) | (go_at_call 12; have kill := L5.out; refine (set_ex _ _ G5.out).mono ?_; rintro e w6 ⟨a6, c6, rfl, m6⟩; have b6 := sq m6.2 (bel1 w6 (.cells #[.int .i64 800, .slice a6 2 c6] 24)); have Z6 := hid (IB.new w6 800 (.slice a6 2 c6)); have X6 := hid (X5.out.below b6); have Y6 := hid (Y5.out.more b6); have G6 := hid (G5.out.below b6); have V6 := hid (V5.out.more b6); clear i0 i1; obtain ⟨i0, i1⟩ := V6.out; obtain ⟨y0, y1⟩ := Y6.out; have L6 := hid (sq L5.out b6); clear m6 b6 X5 Y5 G5 V5 L5 kill) | (go_at_call 8; have kill := L4.out; refine (get_ex _ _ G4.out).mono ?_; rintro e w5 ⟨rfl, l5⟩; have X5 := hid (X4.out.below l5); have Y5 := hid (Y4.out.more l5); have G5 := hid (G4.out.below l5); have V5 := hid (V4.out.more l5); clear i0 i1; obtain ⟨i0, i1⟩ := V5.out; have L5 := hid (sq L4.out l5); clear l5 X4 Y4 G4 V4 L4 kill) | (go_at_call 20; have kill := L3.out; refine (read_ex _ _ _ (M3.out.given ex_byt)).mono ?_; rintro e w4 ⟨a4, c4, rfl, m4⟩; have b4 := sq m4.2 (bel1 w4 (.cells #[.int .i64 800, .slice a4 1 c4] 24)); have X4 := hid (m4.given.below (bel1 w4 (.cells #[.int .i64 800, .slice a4 1 c4] 24))); have Y4 := hid (IB.new w4 800 (.slice a4 1 c4)); have G4 := hid (G3.out.below b4); have V4 := hid (V3.out.more b4); clear i0 i1; obtain ⟨i0, i1⟩ := V4.out; have L4 := hid (sq L3.out b4); clear m4 b4 G3 V3 L3 kill) | (go_at_call 19; have kill := L1.out; refine (put_ex _ _ G1.out).mono ?_; rintro e w3 ⟨a3, c3, rfl, m3⟩; have M3 := hid m3; have G3 := hid (G1.out.below m3.2); have V3 := hid (V1.out.more m3.2); obtain ⟨i0, i1⟩ := V3.out; have L3 := hid (sq L1.out m3.2); clear m3 G1 V1 L1 kill) | (refine bsF ex0 rfl _ rfl rfl ?_; intro ao1 w1 g1 l1; have G1 := hid (g1.below (bel1 w1 (.cells #[.int .i64 800, .slice ao1 1 1] 24))); have V1 := hid (IB.new w1 800 (.slice ao1 1 1)); have L1 := hid (sq l1 (bel1 w1 (.cells #[.int .i64 800, .slice ao1 1 1] 24))); clear g1 l1))
  go_ret
  exact ⟨rfl, L9.out⟩
end Go.Proofs.Ytfpjjdlfofejcaa
