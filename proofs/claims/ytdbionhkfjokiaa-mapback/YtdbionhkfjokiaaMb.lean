/- For every raw, mask and more the function MapBack answers true: any numbers are a bitmap as the document says, or none, and come back. -/
import Derived.Test.YtdbionhkfjokiaaBackA
namespace Go.Proofs.Ytdbionhkfjokiaa
open Go.ChangeShapes Go.WideShapes Go.ChangeAt Go.RowKit

set_option maxHeartbeats 1000000 in
theorem back_long (ao : Option Addr) (len cap : Nat) (m0 m1 : Int) (a2 : Option Addr) (n2 c2 : Nat) (w : World) (hlen : 130 < len ∨ 60 < n2) :
    Calls Try.prog 3 #[.slice ao len cap, .agg #[.int .u64 m0, .int .u64 m1], .slice a2 n2 c2] w fun e w' => e = .returned (.bool true) ∧ Below w.heap.size w w' := by
  have L0 : Hid (Below w.heap.size w (w.alloc (.cells #[.int .u64 m0, .int .u64 m1] 24))) := hid (bel1 w _)
  by_cases h : 130 < len
  · have h' : (130 : Int) < (len : Int) := by omega
    clear hlen
    go_enter Try.func3, Try.ntmps3
    go_wp2_with (go_at_call 6; refine (known6 _).mono ?_; rintro e w1 ⟨rfl, l1⟩; have L1 := hid (sq L0.out l1); clear l1)
    go_ret
    exact ⟨rfl, L1.out⟩
  · have h' : decide ((130 : Int) < (len : Int)) = false := decide_eq_false (by omega)
    have h'' : decide (130 < len) = false := decide_eq_false h
    have g' : (60 : Int) < (n2 : Int) := by omega
    clear hlen
    go_enter Try.func3, Try.ntmps3
    go_wp2_with (go_at_call 6; refine (known6 _).mono ?_; rintro e w1 ⟨rfl, l1⟩; have L1 := hid (sq L0.out l1); clear l1)
    go_ret
    exact ⟨rfl, L1.out⟩
theorem and1 (x : Int) (r : Nat) (h0 : 0 ≤ x) (h1 : x < 18446744073709551616) : bits .and .u64 (x / 2 ^ r) 1 = x / 2 ^ r % 2 := by
  have hp := two_pow_pos r
  have a0 : 0 ≤ x / 2 ^ r := Int.ediv_nonneg h0 (by omega)
  have a1 : x / 2 ^ r < 18446744073709551616 := Int.lt_of_le_of_lt (Int.ediv_le_self _ h0) h1
  have := bits_mask .u64 64 (by decide) (fun n a b => by rw [IntKind.wrap_u64]; omega) 1 (by decide) (x / 2 ^ r) a0 (by omega)
  rw [show (2 : Int) ^ 1 = 2 by decide, show (2 : Int) - 1 = 1 by decide] at this
  exact this
theorem wid_snoc {l : List Int} {x : Int} (h : Wid l) (x0 : 0 ≤ x) (x1 : x ≤ 1000) : Wid (l ++ [x]) := by
  intro y hy
  rcases List.mem_append.1 hy with hy | hy
  · exact h y hy
  · simp at hy; subst hy; omega
set_option maxHeartbeats 4000000 in
theorem back_short (ao : Option Addr) (len cap : Nat) (l : List Int) (m0 m1 : Int) (a2 : Option Addr) (n2 c2 : Nat) (l2 : List Int) (w : World) (hR : I.InI w ao len cap l) (hm0 : 0 ≤ m0 ∧ m0 < 18446744073709551616) (hm1 : 0 ≤ m1 ∧ m1 < 18446744073709551616) (hM : InB w a2 n2 c2 l2) (hl : len ≤ 130) (hn : n2 ≤ 60) :
    Calls Try.prog 3 #[.slice ao len cap, .agg #[.int .u64 m0, .int .u64 m1], .slice a2 n2 c2] w fun e w' => e = .returned (.bool true) ∧ Below w.heap.size w w' := by
  have HR := hid hR
  have HM := hid hM
  have h1 : decide ((130 : Int) < (len : Int)) = false := decide_eq_false (by omega)
  have h1' : decide (130 < len) = false := decide_eq_false (by omega)
  have h2 : decide ((60 : Int) < (n2 : Int)) = false := decide_eq_false (by omega)
  have h2' : decide (60 < n2) = false := decide_eq_false (by omega)
  have h3 : ¬ (130 : Int) < (len : Int) := by omega
  have h4 : ¬ (60 : Int) < (n2 : Int) := by omega
  have L0 : Hid (Below w.heap.size w (w.alloc (.cells #[.int .u64 m0, .int .u64 m1] 24))) := hid (bel1 w _)
  have hnew := heap_alloc_new w (.cells #[.int .u64 m0, .int .u64 m1] 24)
  have HC : Hid (∀ j, j < 2 → ∃ m, (w.alloc (.cells #[.int .u64 m0, .int .u64 m1] 24)).cell? ⟨w.heap.size, j, none⟩ = some (.int .u64 m) ∧ 0 ≤ m ∧ m < 18446744073709551616) := by
    intro j hj
    have hj' : j = 0 ∨ j = 1 := by omega
    rcases hj' with rfl | rfl
    · exact ⟨m0, by rw [cell_of_head hnew]; rfl, hm0⟩
    · exact ⟨m1, by rw [cell_of_head hnew]; rfl, hm1⟩
  clear hR hM hnew hm0 hm1
  go_enter Try.func3, Try.ntmps3
  go_wp2_with (go_at_call 6; refine (known6 _).mono ?_; rintro e w1 ⟨rfl, l1⟩; have K1 := hid l1; clear l1)
  have HC1 : Hid (∀ j, j < 2 → ∃ m, w1.cell? ⟨w.heap.size, j, none⟩ = some (.int .u64 m) ∧ 0 ≤ m ∧ m < 18446744073709551616) := by
    intro j hj
    obtain ⟨m, hc, hb⟩ := HC.out j hj
    exact ⟨m, (K1.out.cell (p := ⟨w.heap.size, j, none⟩) (World.block_lt_of_cell? _ ⟨w.heap.size, j, none⟩ hc)).trans hc, hb⟩
  have L1 := hid (sq L0.out K1.out)
  clear HC K1
  go_loopw [7, 8] (fun out i wr => ∃ (k : Nat) (a3 : Option Addr) (n3 c3 : Nat) (L : List Int), 2 ≤ k ∧ k ≤ 129 ∧ i = .int .i64 (k : Int) ∧ out = .slice a3 n3 c3 ∧ n3 ≤ k ∧ Wid L ∧ I.Mk w1 wr (.slice a3 n3 c3) n3 L) (fun _ i _ => 129 - (intOf i).toNat)
  case atStart => exact ⟨2, _, _, _, [], by omega, by omega, rfl, rfl, by omega, (fun x hx => by simp at hx), I.Mk.nil _⟩
  case round =>
    obtain ⟨k, a3, n3, c3, L, k2, hk, rfl, rfl, hn3, hw, hD⟩ := hrel
    have D := hid hD
    have W := hid hw
    clear hD hw
    by_cases hlt : k ≤ 128
    · have j1 : (k : Int) ≤ 128 := by omega
      obtain ⟨j, hj⟩ : ∃ j, (k - 1) / 64 = j := ⟨_, rfl⟩
      obtain ⟨r, hr⟩ : ∃ r, (k - 1) % 64 = r := ⟨_, rfl⟩
      have hj2 : j < 2 := by omega
      obtain ⟨m, hc, hb0, hb1⟩ := HC1.out j hj2
      have hc' := (D.out.2.cell (p := ⟨w.heap.size, j, none⟩) (World.block_lt_of_cell? _ ⟨w.heap.size, j, none⟩ hc)).trans hc
      have e4 : ((k : Int) - 1).tdiv 64 = (j : Int) := by rw [Int.tdiv_eq_ediv_of_nonneg (by omega)]; omega
      have e5 : ((k : Int) - 1).tmod 64 = (r : Int) := by rw [Int.tmod_eq_emod_of_nonneg (by omega)]; omega
      have e6 : ((k : Int) - 1) / 64 = (j : Int) := by omega
      have e7 : ((k : Int) - 1) % 64 = (r : Int) := by omega
      have e8 := and1 m r hb0 hb1
      have r1 : r < 64 := by omega
      generalize m / 2 ^ r % 2 = bt at *
      clear hc hj hr hb0 hb1
      have D3 : Hid (I.Mk w1 (wr.alloc (.cells #[.int .i64 (k : Int)] 3)) (.slice a3 n3 c3) n3 L) := D.out.more (bel1 wr _)
      have R3 : Hid (I.RowAt (wr.alloc (.cells #[.int .i64 (k : Int)] 3)) (some ⟨wr.heap.size, 0, none⟩) [(k : Int)]) := (I.row_new wr [(k : Int)] 1 rfl (by omega)).at
      have L3 : Hid ([(k : Int)].length = 1) := rfl
      have W3 : Hid (Wid (L ++ [(k : Int)])) := wid_snoc W.out (by omega) (by omega)
      by_cases hbt : bt = 1
      · subst hbt
        go_wp2_with (at_builtin; refine I.app_row (l2 := [(k : Int)]) D3.out.1 R3.out L3.out (fun e => by cases e) D3.out.2.size (by omega) rfl _ _ rfl rfl rfl ?_; intro ao4 cap4 w4 r4 t4; have D4 := hid (D3.out.next r4 t4); clear r4 t4)
        go_roundw
        case rel => exact ⟨k + 1, _, _, _, _, by omega, by omega, by go_num, rfl, by omega, W3.out, D4.out⟩
        case measure => simp [intOf]; omega
      · have hbt' : (bt == 1) = false := by simp; exact hbt
        go_wp2
        go_roundw
        case rel => exact ⟨k + 1, _, _, _, _, by omega, by omega, by go_num, rfl, by omega, W.out, D.out⟩
        case measure => simp [intOf]; omega
    · have j1 : ¬ (k : Int) ≤ 128 := by omega
      have GL := hid (D.out.given W.out)
      have GR := hid (HR.out.giv.below (sq L1.out D.out.2))
      have L4 := hid (sq L1.out D.out.2)
      have T5 : Hid (Two wr.heap.size (wr.alloc (.cells #[.slice ao len cap, .slice a3 n3 c3] 22))) := hid (Two.new 22 fun v hv => by
        rcases hv with rfl | rfl
        · exact ⟨_, _, _, _, rfl, GR.out⟩
        · exact ⟨_, _, _, _, rfl, GL.out⟩)
      have L5 : Hid (Below w.heap.size w (wr.alloc (.cells #[.slice ao len cap, .slice a3 n3 c3] 22))) := hid (sq L4.out (bel1 _ _))
      generalize wr = wz at *
      clear GL GR
      go_wp2
      generalize wz.alloc (.cells #[.slice ao len cap, .slice a3 n3 c3] 22) = w6 at *
      go_loopw [51] (fun i wr => ∃ j : Nat, j ≤ 2 ∧ i = .int .i64 (j : Int) ∧ Below w6.heap.size w6 wr) (fun i _ => 2 - (intOf i).toNat)
      case atStart => exact ⟨0, by omega, rfl, Below.refl _ _⟩
      case round =>
        obtain ⟨j, hj, rfl, hb⟩ := hrel
        have B := hid hb
        clear hb
        by_cases hlt : j < 2
        · have j0 : (j : Int) < 2 := by omega
          obtain ⟨xa, xn, xc, zs, hc, hg⟩ := T5.out.below B.out j hlt
          have GX := hid hg
          have HW := hid hg.byt
          have BY := hid (putL_byt zs)
          have HLN := hid (putL_len zs)
          clear hg
          cases hr : riseL zs 1
          · have HRI := hid hr
            clear hr
            go_wp2_with (first | (go_at_call 8; have kill := L7.out; refine (putR_no _ _ _ zs _ (GX.out.below L7.out) HRI.out).mono ?_; rintro e w8 ⟨rfl, l8⟩; have L8 := hid (sq L7.out l8); have cv := run_str w8 none [] 0 0 rfl (.inl rfl); clear l8 kill) | (go_at_call 7; refine (put_no _ _ _ zs _ GX.out HRI.out).mono ?_; rintro e w7 ⟨rfl, rfl⟩; have L7 := hid (Below.refl wr.heap.size wr)))
            go_roundw
            case rel => exact ⟨j + 1, by omega, by go_num, sq B.out L8.out⟩
            case measure => simp [intOf]; omega
          · have HRI := hid hr
            clear hr
            obtain ⟨m, hm⟩ : ∃ m, sizeL zs = m := ⟨_, rfl⟩
            have HMM := hid hm
            have hm3 : m ≤ 16 := by rcases size_or zs with ⟨_, e⟩ | ⟨_, e⟩ <;> omega
            rw [hm] at HLN
            clear hm
            go_wp2_with (first | (go_at_call 10; have kill := L11.out; refine (ints10 _ _ _ _ _ _ zs zs _ G11.out (GX.out.below L11.out)).mono ?_; rintro e w12 ⟨rfl, l12⟩; rw [decide_eq_true rfl]; have L12 := hid (sq L11.out l12); clear l12 kill) | (go_at_call 9; have kill := D10.out; refine (read_back _ _ _ m zs l2 _ (D10.out.given (byt_app BY.out HM.out.giv.byt)) HRI.out HMM.out HW.out).mono ?_; rintro e w11 ⟨a11, n11, c11, rfl, g11, l11⟩; have G11 := hid g11; have L11 := hid (sq L10.out l11); clear g11 l11 kill) | (at_builtin; have kill := D9.out; refine app_row D9.out.1 M9.out.row M9.out.leq HM.out.nil D9.out.2.size (by omega) rfl _ _ rfl rfl rfl ?_; intro a10 c10 w10 r10 t10; have D10 := hid (D9.out.next r10 t10); have L10 := hid (sq L8.out D10.out.2); clear r10 t10 kill) | (at_builtin; have kill := R8.out; refine app_copy R8.out HLN.out (by omega) rfl _ rfl rfl ?_; intro a9 c9 w9 d9; have D9 := hid d9; have M9 := hid (HM.out.giv.below (sq L5.out (sq B.out (sq L8.out d9.2)))); clear d9 kill) | (go_at_call 8; have kill := D7.out; refine (putR_yes _ _ _ m zs _ (GX.out.below D7.out.2) HRI.out HMM.out).mono ?_; rintro e w8 ⟨b8, rfl, r8, l8⟩; have L8 := hid (sq D7.out.2 l8); have R8 := hid ((D7.out.more l8).1.at); have cv := run_str w8 _ (putL zs) m m HLN.out R8.out; have cw := run_str w8 _ (putL zs) m 16 HLN.out r8; clear l8 r8 kill) | (go_at_call 7; refine (put_mk _ _ _ m zs _ GX.out HRI.out HMM.out).mono ?_; rintro e w7 ⟨b7, rfl, d7⟩; have D7 := hid d7; clear d7))
            go_roundw
            case rel => exact ⟨j + 1, by omega, by go_num, sq B.out L12.out⟩
            case measure => simp [intOf]; omega
        · have j0 : ¬ (j : Int) < 2 := by omega
          go_wp2
          go_ret
          exact ⟨rfl, sq L5.out B.out⟩
theorem back_walk (ao : Option Addr) (len cap : Nat) (l : List Int) (m0 m1 : Int) (a2 : Option Addr) (n2 c2 : Nat) (l2 : List Int) (w : World) (hR : I.InI w ao len cap l) (hm0 : 0 ≤ m0 ∧ m0 < 18446744073709551616) (hm1 : 0 ≤ m1 ∧ m1 < 18446744073709551616) (hM : InB w a2 n2 c2 l2) :
    Calls Try.prog 3 #[.slice ao len cap, .agg #[.int .u64 m0, .int .u64 m1], .slice a2 n2 c2] w fun e w' => e = .returned (.bool true) ∧ Below w.heap.size w w' := by
  by_cases h : 130 < len ∨ 60 < n2
  · exact back_long ao len cap m0 m1 a2 n2 c2 w h
  · exact back_short ao len cap l m0 m1 a2 n2 c2 l2 w hR hm0 hm1 hM (by omega) (by omega)
theorem mapBack_own : ownKnob Try.prog.godebug = none := by kernel_rfl
theorem mapBack_laid : laidOutB Try.prog = true := by kernel_rfl

set_option maxRecDepth 100000 in
set_option maxHeartbeats 1000000 in
theorem mapBack_lifted (os : Os) (started : os.Started) (H : Type) (enc : TypeId × Value → H) :
    ReturnsInHanded {} Try.checked os 3 .any (Rows.mapBackSpec.pre6 enc Try.prog Try.f3 Rows.mapBackRow.domain false) (Rows.mapBackSpec.post enc Try.prog Try.f3 false true false false) := by
  refine returnsInHanded_of_change (C := Try.checked) mapBack_own started (by kernel_rfl) Try.func3
    (ChangeSpec.witness6 (enc := enc) (C := Try.checked) false ⟨#[], #[.slice none 0 0, .agg #[.int .u64 0, .int .u64 0], .slice none 0 0], []⟩ 8 (by kernel_rfl) (by kernel_rfl) (by kernel_rfl) (by kernel_rfl)) ?_
  intro W base args ds gs before hval0 hW hcnd _
  have hval : ∀ (j : Nat) t v, Try.f3.params[j]? = some t → args[j]? = some v → Value.okWide Try.prog W .any base t v := hval0
  have hW' := hW
  obtain ⟨p, q, hA0, hV, rfl, hfz, hnd⟩ := hW
  have hA : DataW.TrodAll enc Try.prog W 0 (fun _ => true) true Try.f3.params.toList args.toList ds p := hA0
  rw [Try.params3] at hA hval
  obtain ⟨v0, vs0, d0, ds0, p0, q0, hargs, rfl, rfl, h0, r0⟩ := trodAll_cons hA
  obtain ⟨v1, vs1, d1, ds1, p1, q1, rfl, rfl, rfl, h1, r1⟩ := trodAll_cons r0
  obtain ⟨v2, vs2, d2, ds2, p2, q2, rfl, rfl, rfl, h2, r2⟩ := trodAll_cons r1
  obtain ⟨rfl, rfl, rfl⟩ := trodAll_nil r2
  obtain rfl : args = #[v0, v1, v2] := by cases args; simp_all
  obtain ⟨rfl, rfl⟩ := trodVars_none hV
  obtain ⟨x0, y0, z0, rfl⟩ := okWide_slice Try.underlying22 (hval 0 22 v0 rfl rfl)
  have k0 := h0
  have lt0 : ∀ x ∈ p0, x.block < W.heap.size := by obtain ⟨m, hm⟩ := k0; exact DataW.trod_lt m _ _ _ hm
  obtain ⟨a0, len0, cap0, l0, e0, w0⟩ : ∃ a len cap l, Value.slice x0 y0 z0 = .slice a len cap ∧ I.InI W a len cap l := by
    obtain ⟨fuel, hf⟩ := h0
    exact I.open_inI hf
  cases e0
  have k1 := h1
  have lt1 : ∀ x ∈ p1, x.block < W.heap.size := by obtain ⟨m, hm⟩ := k1; exact DataW.trod_lt m _ _ _ hm
  obtain ⟨ma1, mb1, rfl, wa1, wb1⟩ := open_mask (hval 1 24 v1 rfl rfl) h1
  obtain ⟨x2, y2, z2, rfl⟩ := okWide_slice Try.underlying25 (hval 2 25 v2 rfl rfl)
  have k2 := h2
  have lt2 : ∀ x ∈ p2, x.block < W.heap.size := by obtain ⟨m, hm⟩ := k2; exact DataW.trod_lt m _ _ _ hm
  obtain ⟨a2, len2, cap2, l2, e2, w2⟩ : ∃ a len cap l, Value.slice x2 y2 z2 = .slice a len cap ∧ InB W a len cap l := by
    obtain ⟨fuel, hf⟩ := h2
    exact open_inB hf
  cases e2
  clear hA0 hval0
  refine (back_walk x0 y0 z0 l0 ma1 mb1 x2 y2 z2 l2 W w0 wa1 wb1 w2).mono fun e W' ⟨he, bel⟩ => ?_
  subst he
  exact ⟨_, rfl, _, _, _, [], _, [], hW', trodAll_mk1 (shut_bool Try.underlying4 _), (trodAll_cons_mk (Below.trod mapBack_laid (by kernel_rfl) (of_decide_eq_true (by kernel_rfl)) k0 bel lt0) (trodAll_cons_mk (Below.trod mapBack_laid (by kernel_rfl) (of_decide_eq_true (by kernel_rfl)) k1 bel lt1) (trodAll_cons_mk (Below.trod mapBack_laid (by kernel_rfl) (of_decide_eq_true (by kernel_rfl)) k2 bel lt2) trodAll_mk0))), rfl, bel.frame _, fun h => by cases h⟩

theorem mapBack_over : Rows.mapBackRow.holds Try.pinned (OpenSpec.ofChange Rows.mapBackSpec) :=
  OpenClaim.holds_of_wide 3 Try.f3 rfl rfl rfl rfl rfl rfl rfl ⟨rfl, rfl, rfl, rfl, rfl⟩ rfl rfl rfl rfl rfl (by kernel_rfl) Try.func3 (by kernel_rfl)
    (of_decide_eq_true (by kernel_rfl)) (by unfold Func.isWrapper; first | (rw [if_pos (by decide +kernel)]; kernel_rfl) | (rw [if_neg (by decide +kernel)]; exact ⟨rfl, rfl⟩))
    (fun os started H enc _ => mapBack_lifted os started H enc)

/-- The statement. -/
theorem mapBack_holds : Rows.MapBackSaid := mapBack_over
#print axioms mapBack_holds
end Go.Proofs.Ytdbionhkfjokiaa
