/- For every a and b the function BcdHalves answers true: a byte is two digits, the first in its upper half. -/
import Derived.Test.YtinkdiomepjneaaKnown
import Derived.Test.YtinkdiomepjneaaThere
namespace Go.Proofs.Ytinkdiomepjneaa
open Go.ChangeShapes Go.WideShapes Go.ChangeAt Go.RowKit

theorem pack_at (s : ByteArray) (n m : Nat) (w : World) (hs : s.size = n) (hm : (n + 1) / 2 = m) (hn : n ≤ 1000000) (hd : digB s.data.toList = true) (l : List Int) (hl : packL s = l) :
    Calls Try.prog 12 #[.string s] w fun e w' => e = .returned (.tuple #[.slice (some ⟨w.heap.size, 0, none⟩) m m, .bool true]) ∧ Mk w w' (.slice (some ⟨w.heap.size, 0, none⟩) m m) m l := by
  subst hs; subst hm; subst hl
  refine (pack_yes s w hn hd).mono ?_
  rintro e w' ⟨rfl, rfl⟩
  exact ⟨rfl, Mk.new w (packL s) _ (packL_length s) (by omega)⟩
theorem vals_str (l : List Int) (h : Byt l) : valsL (strOfNums l) = l.map (· - 48) := by
  unfold valsL
  rw [strOfNums_data, List.map_map]
  apply List.map_congr_left
  intro x hx
  have := h x hx
  show ((UInt8.ofNat x.toNat).toNat : Int) - 48 = x - 48
  rw [UInt8.toNat_ofNat']; omega
theorem dig_str (l : List Int) (h : ∀ x ∈ l, 48 ≤ x ∧ x ≤ 57) : digB (strOfNums l).data.toList = true := by
  rw [strOfNums_data, digB, List.all_eq_true]
  intro c hc
  simp at hc
  obtain ⟨x, hx, rfl⟩ := hc
  have := h x hx
  rw [decide_eq_true_eq, UInt8.toNat_ofNat']
  omega
theorem pack_two (x y : Int) (hx : 0 ≤ x ∧ x < 10) (hy : 0 ≤ y ∧ y < 10) : packL (strOfNums [48 + x, 48 + y]) = [x * 16 + y] := by
  have hv := vals_str [48 + x, 48 + y] (by intro z hz; simp at hz; omega)
  have hv' : valsL (strOfNums [48 + x, 48 + y]) = [x, y] := by rw [hv]; simp; omega
  have hp : padL (strOfNums [48 + x, 48 + y]) = [x, y] := by unfold padL; rw [strOfNums_size, hv', if_neg (by simp)]
  unfold packL
  rw [hp, strOfNums_size, show ([48 + x, 48 + y] : List Int).length = 2 from rfl]
  exact stL_cons x y [] 0
theorem pack_one (y : Int) (hy : 0 ≤ y ∧ y < 10) : packL (strOfNums [48 + y]) = [y] := by
  have hv := vals_str [48 + y] (by intro z hz; simp at hz; omega)
  have hv' : valsL (strOfNums [48 + y]) = [y] := by rw [hv]; simp; omega
  have hp : padL (strOfNums [48 + y]) = [0, y] := by unfold padL; rw [strOfNums_size, hv', if_pos (by simp)]
  unfold packL
  rw [hp, strOfNums_size, show ([48 + y] : List Int).length = 1 from rfl]
  have := stL_cons 0 y [] 0
  rw [show (0 : Int) * 16 + y = y by omega] at this
  exact this
theorem un_one (a u v : Int) (hu : a / 16 = u) (hv : a % 16 = v) : unOk [a] 2 = (decide (u < 10) && decide (v < 10)) := by
  subst hu; subst hv
  have : nibB [a] = (decide (a / 16 < 10) && decide (a % 16 < 10)) := by simp [nibB, nib]
  unfold unOk
  rw [this]
  simp
theorem conv_new (w : World) (l : List Int) (n : Nat) (hn : l.length = n) (hm : n ≤ 1000000) (t : ByteArray) (ht : strOfNums l = t) :
    (convert 33 9 (.slice (some ⟨w.heap.size, 0, none⟩) n n)).run Try.prog (w.alloc (.cells (cellsOf l) 5)) = .ok (.string t) (w.alloc (.cells (cellsOf l) 5)) := by
  subst ht
  exact run_str _ _ l n n hn (row_new w l n hn hm).at
theorem unpack_two (a : Int) (w : World) (b : Bool) (ha : 0 ≤ a ∧ a < 256) (hb : unOk [a] 2 = b) :
    Calls Try.prog 13 #[.slice (some ⟨w.heap.size, 0, none⟩) 1 1, .int .i64 2] (w.alloc (.cells #[.int .u8 a] 5)) fun e w' => ∃ t, e = .returned (.tuple #[.string t, .bool b]) ∧ Below w.heap.size w w' := by
  subst hb
  have hg : Given (w.alloc (.cells #[.int .u8 a] 5)) (some ⟨w.heap.size, 0, none⟩) 1 1 [a] := Given.new w [a] 1 rfl (by omega) (by intro x hx; simp at hx; omega)
  refine (unpack_any _ 1 1 [a] 2 _ hg (by omega) (by omega)).mono ?_
  rintro e w' ⟨rfl, l⟩
  exact ⟨_, rfl, sq (bel1 w _) l⟩
set_option maxHeartbeats 1000000 in
theorem halves_go (a b : Int) (w : World) (u v : Int) (ha : 0 ≤ a ∧ a < 256) (hb : 0 ≤ b ∧ b < 256) (hu : a / 16 = u) (hv : a % 16 = v) (k1 k2 : Bool) (d1 : decide (u < 10) = k1) (d2 : decide (v < 10) = k2) :
    Calls Try.prog 4 #[.int .u8 a, .int .u8 b] w fun e w' => e = .returned (.bool true) ∧ Below w.heap.size w w' := by
  obtain ⟨a0, a1⟩ := ha
  obtain ⟨b0, b1⟩ := hb
  obtain ⟨x, hx, x0, x1⟩ : ∃ x, a % 10 = x ∧ 0 ≤ x ∧ x < 10 := ⟨_, rfl, by omega, by omega⟩
  obtain ⟨y, hy, y0, y1⟩ : ∃ y, b % 10 = y ∧ 0 ≤ y ∧ y < 10 := ⟨_, rfl, by omega, by omega⟩
  have e1 : a.tmod 10 = x := by rw [Int.tmod_eq_emod_of_nonneg a0, hx]
  have e2 : b.tmod 10 = y := by rw [Int.tmod_eq_emod_of_nonneg b0, hy]
  have e3 : IntKind.u8.wrap (48 + x) = 48 + x := by rw [IntKind.wrap_u8]; omega
  have e4 : IntKind.u8.wrap (48 + y) = 48 + y := by rw [IntKind.wrap_u8]; omega
  have e5 : IntKind.u8.wrap (x * 16) = x * 16 := by rw [IntKind.wrap_u8]; omega
  have e6 := or4 x y x0 (by omega) y0 (by omega)
  have e7 := u8_and15 a a0 a1
  obtain ⟨s, hs⟩ : ∃ s, strOfNums [48 + x, 48 + y] = s := ⟨_, rfl⟩
  obtain ⟨q, hq⟩ : ∃ q, strOfNums [48 + y] = q := ⟨_, rfl⟩
  obtain ⟨f, hf⟩ : ∃ f, strOfNums [x * 16 + y] = f := ⟨_, rfl⟩
  obtain ⟨g, hg⟩ : ∃ g, strOfNums [y] = g := ⟨_, rfl⟩
  have hss : s.size = 2 := by rw [← hs, strOfNums_size]; rfl
  have hex : s.extract 1 2 = q := by rw [← hs, ← hq]; apply ByteArray.ext; simp [strOfNums]
  have HQS : Hid (q.size = 1) := by unfold Hid; rw [← hq, strOfNums_size]; rfl
  have HSS := hid hss
  have HDS : Hid (digB s.data.toList = true) := by unfold Hid; rw [← hs]; exact dig_str _ (by intro z hz; simp at hz; omega)
  have HDQ : Hid (digB q.data.toList = true) := by unfold Hid; rw [← hq]; exact dig_str _ (by intro z hz; simp at hz; omega)
  have HPS : Hid (packL s = [x * 16 + y]) := by unfold Hid; rw [← hs]; exact pack_two x y ⟨x0, x1⟩ ⟨y0, y1⟩
  have HPQ : Hid (packL q = [y]) := by unfold Hid; rw [← hq]; exact pack_one y ⟨y0, y1⟩
  have HUN : Hid (unOk [a] 2 = (k1 && k2)) := by unfold Hid; rw [un_one a u v hu hv, d1, d2]
  have k3 : ∀ w : World, (convert 33 9 (.slice (some ⟨w.heap.size, 0, none⟩) 2 2)).run Try.prog (w.alloc (.cells #[.int .u8 (48 + x), .int .u8 (48 + y)] 5)) = .ok (.string s) (w.alloc (.cells #[.int .u8 (48 + x), .int .u8 (48 + y)] 5)) := fun w => conv_new w [48 + x, 48 + y] 2 rfl (by omega) s hs
  have k4 : ∀ w : World, (convert 33 9 (.slice (some ⟨w.heap.size, 0, none⟩) 1 1)).run Try.prog (w.alloc (.cells #[.int .u8 (x * 16 + y)] 5)) = .ok (.string f) (w.alloc (.cells #[.int .u8 (x * 16 + y)] 5)) := fun w => conv_new w [x * 16 + y] 1 rfl (by omega) f hf
  have k5 : ∀ w : World, (convert 33 9 (.slice (some ⟨w.heap.size, 0, none⟩) 1 1)).run Try.prog (w.alloc (.cells #[.int .u8 y] 5)) = .ok (.string g) (w.alloc (.cells #[.int .u8 y] 5)) := fun w => conv_new w [y] 1 rfl (by omega) g hg
  have HF := hid hf
  have HG := hid hg
  clear hx hy hs hq hf hg
  go_enter Try.func4, Try.ntmps4
  go_wp2_with (first
    | (go_at_call 13; have kill := D3.out; refine (unpack_two a _ (k1 && k2) ⟨a0, a1⟩ HUN.out).mono ?_; rintro e w5 ⟨t5, rfl, l5⟩; have L5 := hid (sq L3.out l5); have D5 := hid (D3.out.more l5); have P5 := hid (P3.out.more l5); have c1 := run_str w5 _ [x * 16 + y] 1 1 rfl P5.out.1.at; rw [HF.out, World.size_alloc] at c1; have c2 := run_str (w5.alloc (.cells #[.int .u8 (x * 16 + y)] 5)) _ [y] 1 1 rfl (D5.out.more (bel1 w5 (.cells #[.int .u8 (x * 16 + y)] 5))).1.at; rw [HG.out] at c2; have c3 := k5 (w5.alloc (.cells #[.int .u8 (x * 16 + y)] 5)); rw [World.size_alloc] at c3; clear l5 kill)
    | (go_at_call 12; have kill := P2.out; refine (pack_at q 1 1 _ HQS.out rfl (by omega) HDQ.out [y] HPQ.out).mono ?_; rintro e w3 ⟨rfl, d3⟩; have D3 := hid d3; have P3 := hid (P2.out.more d3.2); have L3 := hid (sq L2.out d3.2); clear d3 kill)
    | (go_at_call 12; have kill := L1.out; refine (pack_at s 2 1 _ HSS.out rfl (by omega) HDS.out [x * 16 + y] HPS.out).mono ?_; rintro e w2 ⟨rfl, d2⟩; have P2 := hid d2; have L2 := hid (sq (sq L1.out (bel1 w1 (.cells #[.int .u8 (48 + x), .int .u8 (48 + y)] 5))) d2.2); clear d2 kill)
    | (go_at_call 6; refine (known6 _).mono ?_; rintro e w1 ⟨rfl, l1⟩; have L1 := hid l1; clear l1))
  all_goals
    go_ret
    exact ⟨rfl, sq (sq L5.out (bel1 _ _)) (bel1 _ _)⟩
theorem halves_walk (a b : Int) (w : World) (ha : 0 ≤ a ∧ a < 256) (hb : 0 ≤ b ∧ b < 256) :
    Calls Try.prog 4 #[.int .u8 a, .int .u8 b] w fun e w' => e = .returned (.bool true) ∧ Below w.heap.size w w' :=
  halves_go a b w _ _ ha hb rfl rfl _ _ rfl rfl
theorem bcdHalves_own : ownKnob Try.prog.godebug = none := by kernel_rfl
theorem bcdHalves_laid : laidOutB Try.prog = true := by kernel_rfl

set_option maxRecDepth 100000 in
set_option maxHeartbeats 1000000 in
theorem bcdHalves_lifted (os : Os) (started : os.Started) (H : Type) (enc : TypeId × Value → H) :
    ReturnsInHanded {} Try.checked os 4 .any (Rows.bcdHalvesSpec.pre6 enc Try.prog Try.f4 Rows.bcdHalvesRow.domain false) (Rows.bcdHalvesSpec.post enc Try.prog Try.f4 false true false false) := by
  refine returnsInHanded_of_change (C := Try.checked) bcdHalves_own started (by kernel_rfl) Try.func4
    (ChangeSpec.witness6 (enc := enc) (C := Try.checked) false ⟨#[], #[.int .u8 0, .int .u8 0], []⟩ 8 (by kernel_rfl) (by kernel_rfl) (by kernel_rfl) (by kernel_rfl)) ?_
  intro W base args ds gs before hval0 hW hcnd _
  have hval : ∀ (j : Nat) t v, Try.f4.params[j]? = some t → args[j]? = some v → Value.okWide Try.prog W .any base t v := hval0
  have hW' := hW
  obtain ⟨p, q, hA0, hV, rfl, hfz, hnd⟩ := hW
  have hA : DataW.TrodAll enc Try.prog W 0 (fun _ => true) true Try.f4.params.toList args.toList ds p := hA0
  rw [Try.params4] at hA hval
  obtain ⟨v0, vs0, d0, ds0, p0, q0, hargs, rfl, rfl, h0, r0⟩ := trodAll_cons hA
  obtain ⟨v1, vs1, d1, ds1, p1, q1, rfl, rfl, rfl, h1, r1⟩ := trodAll_cons r0
  obtain ⟨rfl, rfl, rfl⟩ := trodAll_nil r1
  obtain rfl : args = #[v0, v1] := by cases args; simp_all
  obtain ⟨rfl, rfl⟩ := trodVars_none hV
  obtain ⟨a0, rfl, rfl, rfl, w0⟩ := open_int Try.underlying5 (hval 0 5 v0 rfl rfl) h0
  obtain ⟨a1, rfl, rfl, rfl, w1⟩ := open_int Try.underlying5 (hval 1 5 v1 rfl rfl) h1
  clear hA0 hval0
  refine (halves_walk a0 a1 W (by have := bounds_u8 w0; omega) (by have := bounds_u8 w1; omega)).mono fun e W' ⟨he, bel⟩ => ?_
  subst he
  exact ⟨_, rfl, _, _, _, [], _, [], hW', trodAll_mk1 (shut_bool Try.underlying4 _), (trodAll_cons_mk (shut_int Try.underlying5 w0) (trodAll_cons_mk (shut_int Try.underlying5 w1) trodAll_mk0)), rfl, bel.frame _, fun h => by cases h⟩

theorem bcdHalves_over : Rows.bcdHalvesRow.holds Try.pinned (OpenSpec.ofChange Rows.bcdHalvesSpec) :=
  OpenClaim.holds_of_wide 4 Try.f4 rfl rfl rfl rfl rfl rfl rfl ⟨rfl, rfl, rfl, rfl, rfl⟩ rfl rfl rfl rfl rfl (by kernel_rfl) Try.func4 (by kernel_rfl)
    (of_decide_eq_true (by kernel_rfl)) (by unfold Func.isWrapper; first | (rw [if_pos (by decide +kernel)]; kernel_rfl) | (rw [if_neg (by decide +kernel)]; exact ⟨rfl, rfl⟩))
    (fun os started H enc _ => bcdHalves_lifted os started H enc)

/-- The statement. -/
theorem bcdHalves_holds : Rows.BcdHalvesSaid := bcdHalves_over
#print axioms bcdHalves_holds
end Go.Proofs.Ytinkdiomepjneaa
