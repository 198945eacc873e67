/- StanTexts: the text of any key, which key any text is, and which is ahead; for every two keys and text. -/
import Derived.Test.YtahkgbhikkebhaaKnown
import Derived.Test.YtahkgbhikkebhaaPt
import Derived.Test.YtahkgbhikkebhaaOpen
import Derived.Deep.CutRange
namespace Go.Proofs.Ytahkgbhikkebhaa
open Go.ChangeShapes Go.WideShapes Go.ChangeAt Go.RowKit

def base13 : List Int := [45, 48, 48, 48, 49, 50, 45, 48, 48, 48, 51, 52, 53]
theorem text_size (t s : Int) : (textL t s).size ≤ 13 := by
  have z5 : (digS t 5).size ≤ 5 := digS_size t 5
  have z6 : (digS s 6).size ≤ 6 := digS_size s 6
  unfold textL
  split
  · rw [app_size, app_size, app_size, dash_size]; omega
  · exact Nat.zero_le _
/-- Five texts. -/
def Five (w : World) (g : Nat) : Prop := ∀ j, j < 5 → ∃ Y, w.cell? ⟨g, j, none⟩ = some (.string Y)
theorem Five.below {w w' : World} {g : Nat} (h : Five w g) (k : Below w.heap.size w w') : Five w' g := fun j hj => by
  obtain ⟨Y, hY⟩ := h j hj
  exact ⟨Y, (k.cell (p := ⟨g, j, none⟩) (World.block_lt_of_cell? w ⟨g, j, none⟩ hY)).trans hY⟩
theorem Five.new (w : World) (a b c d e : ByteArray) (t : TypeId) : Five (w.alloc (.cells #[.string a, .string b, .string c, .string d, .string e] t)) w.heap.size := by
  intro j hj
  have h := heap_alloc_new w (.cells #[.string a, .string b, .string c, .string d, .string e] t)
  rcases (show j = 0 ∨ j = 1 ∨ j = 2 ∨ j = 3 ∨ j = 4 by omega) with rfl | rfl | rfl | rfl | rfl <;> exact ⟨_, by rw [cell_of_head h]; rfl⟩
theorem seq13 {w : World} {g : Nat} (h : w.heap[g]? = some (.cells (cellsOf base13) 5 (13, 14))) (c : Int) (z : Nat) (hz : z < 13) :
    (∃ y, w.cell? ⟨g, z, none⟩ = some (.int .u8 y)) ∧ w.frozen? ⟨g, z, none⟩ = false ∧ RowAt (w.setCell ⟨g, z, none⟩ (.int .u8 c)) (some ⟨g, 0, none⟩) (base13.set z c) := by
  have hl : base13.length = 13 := rfl
  refine ⟨⟨base13[z]'(by omega), ?_⟩, ?_, .inr ⟨g, 0, rfl, fun i hi => ?_⟩⟩
  · simp [World.cell?, h, cellsOf, hl, hz]
  · simp [World.frozen?, h]; omega
  · rw [List.length_set, hl] at hi
    have e : (w.setCell ⟨g, z, none⟩ (.int .u8 c)).heap[g]? = some (.cells ((cellsOf base13).setIfInBounds z (.int .u8 c)) 5 (13, 14)) := by
      simp [World.setCell, Array.getElem?_modify, h]
    rw [Nat.zero_add]
    simp only [World.cell?, e]
    by_cases ez : z = i
    · subst ez; simp [cellsOf, hl, hi]
    · simp [cellsOf, hl, hi, ez]
theorem KB.set {w : World} {q : Nat} {t s : Int} (h : KB w q t s) (v : Int) : KB (w.setCell ⟨q, 1, none⟩ (.int .u32 v)) q t v := by
  unfold KB at *
  simp [World.setCell, Array.getElem?_modify, h]
theorem KB.other {w : World} {q : Nat} {t s : Int} (h : KB w q t s) (a : Addr) (v : Value) (ha : a.block ≠ q) : KB (w.setCell a v) q t s :=
  (Below.heap_setCell w a v q (fun e => ha e.symm)).trans h
theorem KB.drew {w : World} {q : Nat} {t s : Int} (h : KB w q t s) : KB w.drew q t s := h
theorem KB.set0 {w : World} {q : Nat} {t s : Int} (h : KB w q t s) (v : Int) : KB (w.setCell ⟨q, 0, none⟩ (.int .u16 v)) q v s := by
  unfold KB at *
  simp [World.setCell, Array.getElem?_modify, h]
/-- Two keys in memory of the call's own; what was there before is as it was. -/
structure Two (w0 w : World) (q q' : Nat) (a s b t : Int) : Prop where
  old : Below w0.heap.size w0 w
  k1 : KB w q a s
  k2 : KB w q' b t
  hq : w0.heap.size ≤ q
  hq' : w0.heap.size ≤ q'
theorem Two.below {w0 w w' : World} {q q' : Nat} {a s b t : Int} (h : Two w0 w q q' a s b t) (k : Below w.heap.size w w') : Two w0 w' q q' a s b t :=
  ⟨h.old.trans (k.mono h.old.size), h.k1.below k, h.k2.below k, h.hq, h.hq'⟩
theorem Two.set {w0 w : World} {q q' : Nat} {a s b t : Int} (h : Two w0 w q q' a s b t) (x : Addr) (v : Value) (h0 : w0.heap.size ≤ x.block) (h1 : x.block ≠ q) (h2 : x.block ≠ q') : Two w0 (w.setCell x v) q q' a s b t :=
  ⟨h.old.setCell h0 v, h.k1.other x v h1, h.k2.other x v h2, h.hq, h.hq'⟩
theorem Two.drew {w0 w : World} {q q' : Nat} {a s b t : Int} (h : Two w0 w q q' a s b t) : Two w0 w.drew q q' a s b t := ⟨h.old.drew, h.k1, h.k2, h.hq, h.hq'⟩
set_option maxRecDepth 20000 in
set_option maxHeartbeats 8000000 in
theorem texts4 (a s b t : Int) (X : ByteArray) (p c : Int) (small : Bool) (w : World) (ha : 0 ≤ a ∧ a < 65536) (hs : 0 ≤ s ∧ s < 4294967296) (hb : 0 ≤ b ∧ b < 65536) (ht : 0 ≤ t ∧ t < 4294967296) (_hX : X.size ≤ maxLen) (hp : 0 ≤ p ∧ p < 256) (_hc : 0 ≤ c ∧ c < 256) :
    Calls Try.prog 4 #[.agg #[.int .u16 a, .int .u32 s], .agg #[.int .u16 b, .int .u32 t], .string X, .int .u8 p, .int .u8 c, .bool small] w fun e w' => e = .returned (.bool true) ∧ Below w.heap.size w w' := by
  have TK := hid True.intro
  obtain ⟨q, hq⟩ : ∃ q, w.heap.size = q := ⟨_, rfl⟩
  have A1 := KB.new w a s
  have A2 := KB.new (w.alloc (.cells #[.int .u16 a, .int .u32 s] 33)) b t
  have B1 := bel1 w (.cells #[.int .u16 a, .int .u32 s] 33)
  have B2 := bel1 (w.alloc (.cells #[.int .u16 a, .int .u32 s] 33)) (.cells #[.int .u16 b, .int .u32 t] 33)
  rw [World.size_alloc] at A2
  have R0 : Hid (Two w _ q (q + 1) a s b t) := hid ⟨sq B1 B2, hq ▸ A1.below B2, hq ▸ A2, by omega, by omega⟩
  clear A1 A2 B1 B2
  by_cases h60 : 60 < X.size
  · have hd : (60 : Int) < (X.size : Int) := by omega
    go_enter Try.func4, Try.ntmps4
    go_wp2_with (go_at_call 6; have kill := TK.out; refine (known6 _).mono ?_; rintro e w1 ⟨rfl, l1⟩; have R1 := hid (R0.out.below l1); clear l1 kill TK R0)
    go_ret
    exact ⟨rfl, R1.out.old⟩
  have hd : decide ((60 : Int) < (X.size : Int)) = false := decide_eq_false (by omega)
  have hd2 : ¬ (60 : Int) < (X.size : Int) := by omega
  go_enter Try.func4, Try.ntmps4
  go_upto_if 28 with (go_at_call 6; have kill := TK.out; refine (known6 _).mono ?_; rintro e w1 ⟨rfl, l1⟩; have R1 := hid (R0.out.below l1); clear l1 kill TK R0)
  go_cut [] from 29 to 43 (fun wx => ∃ S B T, (0 ≤ S ∧ S < 4294967296) ∧ (0 ≤ B ∧ B < 65536) ∧ (0 ≤ T ∧ T < 4294967296) ∧ Two w wx q (q + 1) a S B T)
  case first =>
    cases small with
    | false =>
      go_wp2
      go_meet
      exact ⟨s, b, t, hs, hb, ht, R1.out⟩
    | true =>
      obtain ⟨s', es, s0, s1⟩ : ∃ z, s.tmod 1000001 = z ∧ 0 ≤ z ∧ z < 1000001 := ⟨s % 1000001, by rw [Int.tmod_eq_emod_of_nonneg hs.1], by omega, by omega⟩
      obtain ⟨t', et, t0, t1⟩ : ∃ z, t.tmod 5 = z ∧ 0 ≤ z ∧ z < 5 := ⟨t % 5, by rw [Int.tmod_eq_emod_of_nonneg ht.1], by omega, by omega⟩
      obtain ⟨b', eb, b0, b1⟩ : ∃ z, b.tmod 2 = z ∧ 0 ≤ z ∧ z < 2 := ⟨b % 2, by rw [Int.tmod_eq_emod_of_nonneg hb.1], by omega, by omega⟩
      obtain ⟨d, ed, e0, e1⟩ : ∃ z, IntKind.u16.wrap (a + b') = z ∧ 0 ≤ z ∧ z < 65536 := ⟨(a + b') % 65536, by rw [IntKind.wrap_u16], by omega, by omega⟩
      obtain ⟨c0, c1, c2, c3⟩ := R1.out.k1.cells
      obtain ⟨d0, d1, d2, d3⟩ := R1.out.k2.cells
      go_upto_region 6 with (fail)
      go_region
      have E1 := hid (((R1.out.k1.set s').other ⟨q + 1, 1, none⟩ (.int .u32 t') (by simp)).other ⟨q + 1, 0, none⟩ (.int .u16 d) (by simp)).drew
      have E2 := hid (((R1.out.k2.other ⟨q, 1, none⟩ (.int .u32 s') (by simp)).set t').set0 d).drew
      have E4 := hid (((R1.out.old.setCell (p := ⟨q, 1, none⟩) (by simp; omega) (.int .u32 s')).setCell (p := ⟨q + 1, 1, none⟩) (by simp; omega) (.int .u32 t')).setCell (p := ⟨q + 1, 0, none⟩) (by simp; omega) (.int .u16 d)).drew
      go_wp2
      go_meet
      exact ⟨s', d, t', by omega, by omega, by omega, ⟨E4.out, E1.out, E2.out, by omega, by omega⟩⟩
  case rest =>
    obtain ⟨S, B, T, hS, hB, hT, h2⟩ := hcut
    have R2 := hid h2
    clear h2 hs hb ht R1 hd hd2 h60
    obtain ⟨TA, hTA⟩ : ∃ TA, textL a S = TA := ⟨_, rfl⟩
    have HTA := hid hTA
    obtain ⟨m0, m1, hpr, hm⟩ := prs_text ha.1 ha.2 hS.1
    rw [hTA] at hpr
    obtain ⟨ok, hok⟩ : ∃ ok, decide (S ≤ 999999) = ok := ⟨_, rfl⟩
    rw [hok] at hpr
    have HOK := hid hok
    have HPR := hid hpr
    have HM := hid hm
    have HA0 := hid ha.1
    have HA1 := hid ha.2
    have HS0 := hid hS.1
    have HS1 := hid hS.2
    have TK2 := hid True.intro
    clear hTA hpr hm hok
    obtain ⟨c0, c1, -⟩ := R2.out.k1.cells
    go_upto_region 9 with (first
      | (go_at_call 12; have kill := R3.out; refine (parse12 TA _).mono ?_; rw [HPR.out]; rintro e w4 ⟨rfl, l4⟩; have N4 := hid (KB.new w4 m0 m1); have R4 := hid ((R3.out.below l4).below (bel1 w4 (.cells #[.int .u16 m0, .int .u32 m1] 33))); clear l4 kill R3)
      | (go_at_call 11; have kill := TK2.out; refine (text11 a S _ HA0.out HA1.out HS0.out HS1.out).mono ?_; rw [HTA.out]; rintro e w3 ⟨rfl, l3⟩; have R3 := hid (R2.out.below l3); clear l3 kill TK2 R2))
    clear c0 c1
    generalize w4.alloc (.cells #[.int .u16 m0, .int .u32 m1] 33) = w5 at *
    generalize w4.heap.size = q4 at *
    obtain ⟨c0, c1, -⟩ := R4.out.k1.cells
    obtain ⟨k0, k1, -⟩ := N4.out.cells
    go_cut [69] from 51 to 69 (fun v wx => v = .bool false ∧ Two w wx q (q + 1) a S B T)
    case first =>
      by_cases h9 : S ≤ 999999
      · obtain ⟨e0, e1⟩ := HM.out h9
        have eok := HOK.out.symm.trans (decide_eq_true h9)
        subst eok
        rw [e0] at k0
        rw [e1] at k1
        clear e0 e1
        clear HM HPR N4
        have q1 := fun w => (gbin33 a S a S w).2
        have q2 := fun x y w => (eqg33 x y a S a S w).2
        go_wp2_with (go_at_call 13; have kill := R4.out; refine (text13 a S _ HA0.out HA1.out HS0.out HS1.out).mono ?_; rw [HTA.out]; rintro e w6 ⟨rfl, l6⟩; have R6 := hid (R4.out.below l6); obtain ⟨c0, c1, -⟩ := R6.out.k1.cells; have k0 := (l6.cell (World.block_lt_of_cell? _ _ k0)).trans k0; have k1 := (l6.cell (World.block_lt_of_cell? _ _ k1)).trans k1; clear l6 kill R4)
        go_meet
        exact ⟨rfl, R6.out⟩
      · have eok := HOK.out.symm.trans (decide_eq_false h9)
        subst eok
        clear HM HPR N4 k0 k1
        go_wp2_with (go_at_call 13; have kill := R4.out; refine (text13 a S _ HA0.out HA1.out HS0.out HS1.out).mono ?_; rw [HTA.out]; rintro e w6 ⟨rfl, l6⟩; have R6 := hid (R4.out.below l6); obtain ⟨c0, c1, -⟩ := R6.out.k1.cells; clear l6 kill R4)
        go_meet
        exact ⟨congrArg Value.bool (decide_eq_false (by omega)), R6.out⟩
    case rest =>
      obtain ⟨rfl, h6⟩ := hcut
      have R6 := hid h6
      clear h6 c0 c1 k0 k1 N4 R4 HM HPR
      have kc := fun (w : World) (C : Array Value) (n c : Nat) => Lib.run_convert_bytes_const (P := Try.prog) w 40 5 C n c Try.underlying40 Try.underlying5
      go_upto_region 12 with (fail)
      clear kc
      have R7 := hid (R6.out.below (bel1 wc (.cells (cellsOf base13) 5 (13, 14))))
      have G7 := heap_alloc_new wc (.cells (cellsOf base13) 5 (13, 14))
      have L1 := R6.out.k1.lt
      have L2 := R6.out.k2.lt
      have e13 : cellsOf base13 = #[.int .u8 45, .int .u8 48, .int .u8 48, .int .u8 48, .int .u8 49, .int .u8 50, .int .u8 45, .int .u8 48, .int .u8 48, .int .u8 48, .int .u8 51, .int .u8 52, .int .u8 53] := rfl
      rw [← e13]
      clear e13
      generalize wc.alloc (.cells (cellsOf base13) 5 (13, 14)) = w7 at *
      generalize wc.heap.size = g at *
      obtain ⟨z, hz, z1⟩ : ∃ z : Nat, p.tmod 13 = (z : Int) ∧ z < 13 := ⟨(p % 13).toNat, by rw [Int.tmod_eq_emod_of_nonneg hp.1]; omega, by omega⟩
      have hz2 : (z : Int) < 13 := by omega
      have xp : IntKind.i64.wrap p = p := by rw [IntKind.wrap_i64]; omega
      obtain ⟨⟨y, hy⟩, hf, hrow⟩ := seq13 G7 c z z1
      have HROW := hid hrow
      have R8 := hid (R7.out.set ⟨g, z, none⟩ (.int .u8 c) (by have := R7.out.hq; simp; omega) (by simp; omega) (by simp; omega))
      clear hrow G7
      go_upto_region 13 with (fail)
      clear hy hf hz hz2 xp R7 L1 L2
      generalize w7.setCell ⟨g, z, none⟩ (.int .u8 c) = w8 at *
      have rs := run_str w8 (some ⟨g, 0, none⟩) (base13.set z c) 13 13 (by simp [base13]) HROW.out
      generalize strOfNums (base13.set z c) = U at *
      have tz : ¬ 9223372036854775807 < TA.size + (⟨#[48]⟩ : ByteArray).size := by
        have h1 := text_size a S
        rw [HTA.out] at h1
        have h2 : (⟨#[48]⟩ : ByteArray).size = 1 := rfl
        rw [h2]; omega
      clear HROW
      have F9 := hid (Five.new w8 X U (TA ++ ⟨#[48]⟩) ⟨#[45, 57, 57, 57, 57, 57, 45, 48, 48, 48, 48, 48, 49]⟩ ⟨#[45, 54, 53, 53, 51, 54, 45, 48, 48, 48, 48, 48, 49]⟩ 9)
      have R9 := hid (R8.out.below (bel1 w8 (.cells #[.string X, .string U, .string (TA ++ ⟨#[48]⟩), .string ⟨#[45, 57, 57, 57, 57, 57, 45, 48, 48, 48, 48, 48, 49]⟩, .string ⟨#[45, 54, 53, 53, 51, 54, 45, 48, 48, 48, 48, 48, 49]⟩] 9)))
      go_upto_region 14 with (fail)
      clear rs tz R8
      generalize w8.alloc (.cells #[.string X, .string U, .string (TA ++ ⟨#[48]⟩), .string ⟨#[45, 57, 57, 57, 57, 57, 45, 48, 48, 48, 48, 48, 49]⟩, .string ⟨#[45, 54, 53, 53, 51, 54, 45, 48, 48, 48, 48, 48, 49]⟩] 9) = w9 at *
      generalize w8.heap.size = g5 at *
      go_loopw [85] (fun i wr => ∃ k : Nat, k ≤ 5 ∧ i = .int .i64 (k : Int) ∧ Two w wr q (q + 1) a S B T ∧ Five wr g5) (fun i _ => 5 - (intOf i).toNat)
      case atStart => exact ⟨0, by omega, rfl, R9.out, F9.out⟩
      case round =>
        obtain ⟨k, hk, rfl, h10, f10⟩ := hrel
        have R10 := hid h10
        have F10 := hid f10
        clear h10 f10 R9 F9
        by_cases hlt : k < 5
        · obtain ⟨Y, hY⟩ := F10.out k hlt
          obtain ⟨n0, n1, o1, hpy⟩ := prs_any Y
          have HPY := hid hpy
          have j2 : (k : Int) < 5 := by omega
          have q1 := fun w => (gbin33 n0 n1 n0 n1 w).2
          have q2 := fun x y w => (eqg33 x y n0 n1 n0 n1 w).2
          clear hpy
          go_wp2_with (first
            | (go_at_call 14; have kill := R12.out; refine (kparse14 Y _).mono ?_; rw [HPY.out]; rintro e w13 ⟨rfl, l13⟩; have N13 := hid (((N12.out.below l13).below (bel1 w13 (.cells #[.int .u16 n0, .int .u32 n1] 33)))); have M13 := hid (KB.new w13 n0 n1); have F13 := hid ((F12.out.below l13).below (bel1 w13 (.cells #[.int .u16 n0, .int .u32 n1] 33))); have R13 := hid ((R12.out.below l13).below (bel1 w13 (.cells #[.int .u16 n0, .int .u32 n1] 33))); obtain ⟨c0, c1, -⟩ := N13.out.cells; obtain ⟨d0, d1, -⟩ := M13.out.cells; clear l13 kill R12 F12 N12)
            | (go_at_call 12; have kill := R10.out; refine (parse12 Y _).mono ?_; rw [HPY.out]; rintro e w11 ⟨rfl, l11⟩; have N12 := hid (KB.new w11 n0 n1); have F12 := hid ((F10.out.below l11).below (bel1 w11 (.cells #[.int .u16 n0, .int .u32 n1] 33))); have R12 := hid ((R10.out.below l11).below (bel1 w11 (.cells #[.int .u16 n0, .int .u32 n1] 33))); clear l11 kill R10 F10 hY))
          go_roundw
          case rel => exact ⟨k + 1, by omega, by go_num, R13.out, F13.out⟩
          case measure => simp [intOf]; omega
        · have : k = 5 := by omega
          subst this
          have R11 := hid R10.out
          clear R10 F10
          go_upto_region 21 with (fail)
          have xp : IntKind.i64.wrap p = p := by rw [IntKind.wrap_i64]; omega
          obtain ⟨X1, hX1⟩ : ∃ X1, lessL a S B T = X1 := ⟨_, rfl⟩
          obtain ⟨X2, hX2⟩ : ∃ X2, lessL B T a S = X2 := ⟨_, rfl⟩
          have HX1 := hid hX1
          have HX2 := hid hX2
          have HX3 := hid (less_self a S)
          have M1 := hid R11.out.drew
          clear hX1 hX2 R11
          obtain ⟨c0, c1, -⟩ := M1.out.k1.cells
          obtain ⟨d0, d1, -⟩ := M1.out.k2.cells
          refine wp_region_noPanic ?_
          refine wp_region_held_drew (S := (fun w' : World => w'.cell? ⟨q, 0, none⟩ = some (.int .u16 a) ∧ w'.cell? ⟨q, 1, none⟩ = some (.int .u32 S) ∧ w'.cell? ⟨q + 1, 0, none⟩ = some (.int .u16 B) ∧ w'.cell? ⟨q + 1, 1, none⟩ = some (.int .u32 T))) (by kernel_rfl) ⟨c0, c1, d0, d1⟩ (fun hHeld => ?_)
          (refine tk_yes (v := ?_) 0 (some 108) rfl rfl (by kernel_rfl) (by kernel_rfl) (by kernel_rfl) (fun _ _ _ h => h) (by rfl) ?_ hHeld ?_; rotate_left; focus (intro w hSw; go_simp; try with_reducible rfl))
          simp only [Act.put, List.setIfInBounds_toArray, List.set_cons_zero, List.set_cons_succ]
          (refine tk_yes (v := ?_) 1 (some 109) rfl rfl (by kernel_rfl) (by kernel_rfl) (by kernel_rfl) (fun _ _ _ h => h) (by rfl) ?_ hHeld ?_; rotate_left; focus (intro w hSw; go_simp; try with_reducible rfl))
          simp only [Act.put, List.setIfInBounds_toArray, List.set_cons_zero, List.set_cons_succ]
          (refine tk_yes (v := ?_) 3 (some 111) rfl rfl (by kernel_rfl) (by kernel_rfl) (by kernel_rfl) (fun _ _ _ h => h) (by rfl) ?_ hHeld ?_; rotate_left; focus (intro w hSw; go_simp; try with_reducible rfl))
          simp only [Act.put, List.setIfInBounds_toArray, List.set_cons_zero, List.set_cons_succ]
          (refine tk_yes (v := ?_) 4 (some 112) rfl rfl (by kernel_rfl) (by kernel_rfl) (by kernel_rfl) (fun _ _ _ h => h) (by rfl) ?_ hHeld ?_; rotate_left; focus (intro w hSw; go_simp; try with_reducible rfl))
          simp only [Act.put, List.setIfInBounds_toArray, List.set_cons_zero, List.set_cons_succ]
          refine wpAnyH_ready (rs := [2]) (by kernel_rfl) (by simp) ?_
          refine AllReadyH.cons rfl (fun K hK => ?_) AllReadyH.nil
          go_simp
          go_at_call 15
          refine (less15 a S B T _).mono ?_
          rw [HX1.out]
          rintro e v1 ⟨rfl, l⟩
          have M2 := hid (M1.out.below l)
          obtain ⟨c0, c1, -⟩ := M2.out.k1.cells
          obtain ⟨d0, d1, -⟩ := M2.out.k2.cells
          clear l M1
          go_wp2_with fail
          refine hK.out _ _ ⟨c0, c1, d0, d1⟩ (fun hHeld => ?_)
          clear hK K
          try simp only [Act.put, List.setIfInBounds_toArray, List.set_cons_zero, List.set_cons_succ]
          refine wpAnyH_ready (rs := [5]) (by kernel_rfl) (by simp) ?_
          refine AllReadyH.cons rfl (fun K hK => ?_) AllReadyH.nil
          go_simp
          go_at_call 16
          refine (less16 a S B T _).mono ?_
          rw [HX1.out]
          rintro e v2 ⟨rfl, l⟩
          have M3 := hid (M2.out.below l)
          obtain ⟨c0, c1, -⟩ := M3.out.k1.cells
          obtain ⟨d0, d1, -⟩ := M3.out.k2.cells
          clear l M2
          go_wp2_with fail
          refine hK.out _ _ ⟨c0, c1, d0, d1⟩ (fun hHeld => ?_)
          clear hK K
          try simp only [Act.put, List.setIfInBounds_toArray, List.set_cons_zero, List.set_cons_succ]
          (refine tk_yes (v := .bool true) 6 (some 114) rfl rfl (by kernel_rfl) (by kernel_rfl) (by kernel_rfl) (fun _ _ _ h => h) (by rfl) ?_ hHeld ?_; focus (intro w hSw; go_simp))
          simp only [Act.put, List.setIfInBounds_toArray, List.set_cons_zero, List.set_cons_succ]
          (refine tk_yes (v := ?_) 7 (some 115) rfl rfl (by kernel_rfl) (by kernel_rfl) (by kernel_rfl) (fun _ _ _ h => h) (by rfl) ?_ hHeld ?_; rotate_left; focus (intro w hSw; go_simp; try with_reducible rfl))
          simp only [Act.put, List.setIfInBounds_toArray, List.set_cons_zero, List.set_cons_succ]
          (refine tk_yes (v := ?_) 8 (some 116) rfl rfl (by kernel_rfl) (by kernel_rfl) (by kernel_rfl) (fun _ _ _ h => h) (by rfl) ?_ hHeld ?_; rotate_left; focus (intro w hSw; go_simp; try with_reducible rfl))
          simp only [Act.put, List.setIfInBounds_toArray, List.set_cons_zero, List.set_cons_succ]
          (refine tk_yes (v := ?_) 9 (some 117) rfl rfl (by kernel_rfl) (by kernel_rfl) (by kernel_rfl) (fun _ _ _ h => h) (by rfl) ?_ hHeld ?_; rotate_left; focus (intro w hSw; go_simp; try with_reducible rfl))
          simp only [Act.put, List.setIfInBounds_toArray, List.set_cons_zero, List.set_cons_succ]
          (refine tk_yes (v := ?_) 11 (some 119) rfl rfl (by kernel_rfl) (by kernel_rfl) (by kernel_rfl) (fun _ _ _ h => h) (by rfl) ?_ hHeld ?_; rotate_left; focus (intro w hSw; go_simp; try with_reducible rfl))
          simp only [Act.put, List.setIfInBounds_toArray, List.set_cons_zero, List.set_cons_succ]
          (refine tk_yes (v := ?_) 12 (some 120) rfl rfl (by kernel_rfl) (by kernel_rfl) (by kernel_rfl) (fun _ _ _ h => h) (by rfl) ?_ hHeld ?_; rotate_left; focus (intro w hSw; go_simp; try with_reducible rfl))
          simp only [Act.put, List.setIfInBounds_toArray, List.set_cons_zero, List.set_cons_succ]
          refine wpAnyH_ready (rs := [10]) (by kernel_rfl) (by simp) ?_
          refine AllReadyH.cons rfl (fun K hK => ?_) AllReadyH.nil
          go_simp
          go_at_call 15
          refine (less15 B T a S _).mono ?_
          rw [HX2.out]
          rintro e v3 ⟨rfl, l⟩
          have M4 := hid (M3.out.below l)
          obtain ⟨c0, c1, -⟩ := M4.out.k1.cells
          obtain ⟨d0, d1, -⟩ := M4.out.k2.cells
          clear l M3
          go_wp2_with fail
          refine hK.out _ _ ⟨c0, c1, d0, d1⟩ (fun hHeld => ?_)
          clear hK K
          try simp only [Act.put, List.setIfInBounds_toArray, List.set_cons_zero, List.set_cons_succ]
          refine wpAnyH_ready (rs := [13]) (by kernel_rfl) (by simp) ?_
          refine AllReadyH.cons rfl (fun K hK => ?_) AllReadyH.nil
          go_simp
          go_at_call 16
          refine (less16 B T a S _).mono ?_
          rw [HX2.out]
          rintro e v4 ⟨rfl, l⟩
          have M5 := hid (M4.out.below l)
          obtain ⟨c0, c1, -⟩ := M5.out.k1.cells
          obtain ⟨d0, d1, -⟩ := M5.out.k2.cells
          clear l M4
          go_wp2_with fail
          refine hK.out _ _ ⟨c0, c1, d0, d1⟩ (fun hHeld => ?_)
          clear hK K
          try simp only [Act.put, List.setIfInBounds_toArray, List.set_cons_zero, List.set_cons_succ]
          (refine tk_yes (v := .bool true) 14 (some 122) rfl rfl (by kernel_rfl) (by kernel_rfl) (by kernel_rfl) (fun _ _ _ h => h) (by rfl) ?_ hHeld ?_; focus (intro w hSw; go_simp))
          simp only [Act.put, List.setIfInBounds_toArray, List.set_cons_zero, List.set_cons_succ]
          (refine tk_yes (v := ?_) 15 (some 123) rfl rfl (by kernel_rfl) (by kernel_rfl) (by kernel_rfl) (fun _ _ _ h => h) (by rfl) ?_ hHeld ?_; rotate_left; focus (intro w hSw; go_simp; try with_reducible rfl))
          simp only [Act.put, List.setIfInBounds_toArray, List.set_cons_zero, List.set_cons_succ]
          (refine tk_yes (v := ?_) 16 (some 124) rfl rfl (by kernel_rfl) (by kernel_rfl) (by kernel_rfl) (fun _ _ _ h => h) (by rfl) ?_ hHeld ?_; rotate_left; focus (intro w hSw; go_simp; try with_reducible rfl))
          simp only [Act.put, List.setIfInBounds_toArray, List.set_cons_zero, List.set_cons_succ]
          (refine tk_yes (v := ?_) 17 (some 125) rfl rfl (by kernel_rfl) (by kernel_rfl) (by kernel_rfl) (fun _ _ _ h => h) (by rfl) ?_ hHeld ?_; rotate_left; focus (intro w hSw; go_simp; try with_reducible rfl))
          simp only [Act.put, List.setIfInBounds_toArray, List.set_cons_zero, List.set_cons_succ]
          (refine tk_yes (v := ?_) 18 (some 126) rfl rfl (by kernel_rfl) (by kernel_rfl) (by kernel_rfl) (fun _ _ _ h => h) (by rfl) ?_ hHeld ?_; rotate_left; focus (intro w hSw; go_simp; try with_reducible rfl))
          simp only [Act.put, List.setIfInBounds_toArray, List.set_cons_zero, List.set_cons_succ]
          refine wpAnyH_ready (rs := [19]) (by kernel_rfl) (by simp) ?_
          refine AllReadyH.cons rfl (fun K hK => ?_) AllReadyH.nil
          go_simp
          go_at_call 15
          refine (less15 a S a S _).mono ?_
          rw [HX3.out]
          rintro e v5 ⟨rfl, l⟩
          have M6 := hid (M5.out.below l)
          obtain ⟨c0, c1, -⟩ := M6.out.k1.cells
          obtain ⟨d0, d1, -⟩ := M6.out.k2.cells
          clear l M5
          go_wp2_with fail
          refine hK.out _ _ ⟨c0, c1, d0, d1⟩ (fun hHeld => ?_)
          clear hK K
          try simp only [Act.put, List.setIfInBounds_toArray, List.set_cons_zero, List.set_cons_succ]
          (refine tk_yes (v := .bool true) 20 (some 128) rfl rfl (by kernel_rfl) (by kernel_rfl) (by kernel_rfl) (fun _ _ _ h => h) (by rfl) ?_ hHeld ?_; focus (intro w hSw; go_simp))
          simp only [Act.put, List.setIfInBounds_toArray, List.set_cons_zero, List.set_cons_succ]
          (refine tk_yes (v := ?_) 21 (some 129) rfl rfl (by kernel_rfl) (by kernel_rfl) (by kernel_rfl) (fun _ _ _ h => h) (by rfl) ?_ hHeld ?_; rotate_left; focus (intro w hSw; go_simp; try with_reducible rfl))
          simp only [Act.put, List.setIfInBounds_toArray, List.set_cons_zero, List.set_cons_succ]
          (refine tk_yes (v := ?_) 22 (some 130) rfl rfl (by kernel_rfl) (by kernel_rfl) (by kernel_rfl) (fun _ _ _ h => h) (by rfl) ?_ hHeld ?_; rotate_left; focus (intro w hSw; go_simp; try with_reducible rfl))
          simp only [Act.put, List.setIfInBounds_toArray, List.set_cons_zero, List.set_cons_succ]
          (refine tk_yes (v := ?_) 23 (some 131) rfl rfl (by kernel_rfl) (by kernel_rfl) (by kernel_rfl) (fun _ _ _ h => h) (by rfl) ?_ hHeld ?_; rotate_left; focus (intro w hSw; go_simp; try with_reducible rfl))
          simp only [Act.put, List.setIfInBounds_toArray, List.set_cons_zero, List.set_cons_succ]
          (refine tk_yes (v := ?_) 24 (some 132) rfl rfl (by kernel_rfl) (by kernel_rfl) (by kernel_rfl) (fun _ _ _ h => h) (by rfl) ?_ hHeld ?_; rotate_left; focus (intro w hSw; go_simp; try with_reducible rfl))
          simp only [Act.put, List.setIfInBounds_toArray, List.set_cons_zero, List.set_cons_succ]
          refine wpAnyH_ready (rs := [25]) (by kernel_rfl) (by simp) ?_
          refine AllReadyH.cons rfl (fun K hK => ?_) AllReadyH.nil
          go_simp
          go_at_call 17
          refine (place17 p _ hp.1).mono ?_
          rintro e v6 ⟨⟨zz, rfl, zz0⟩, ew⟩
          subst ew
          go_wp2_with fail
          refine hK.out _ _ ⟨c0, c1, d0, d1⟩ (fun hHeld => ?_)
          clear hK K
          try simp only [Act.put, List.setIfInBounds_toArray, List.set_cons_zero, List.set_cons_succ]
          (refine tk_yes (v := .bool true) 26 (some 134) rfl rfl (by kernel_rfl) (by kernel_rfl) (by kernel_rfl) (fun _ _ _ h => h) (by rfl) ?_ hHeld ?_; focus (intro w hSw; go_simp; try omega))
          simp only [Act.put, List.setIfInBounds_toArray, List.set_cons_zero, List.set_cons_succ]
          (refine tk_yes (v := ?_) 27 (some 135) rfl rfl (by kernel_rfl) (by kernel_rfl) (by kernel_rfl) (fun _ _ _ h => h) (by rfl) ?_ hHeld ?_; rotate_left; focus (intro w hSw; go_simp; try with_reducible rfl))
          simp only [Act.put, List.setIfInBounds_toArray, List.set_cons_zero, List.set_cons_succ]
          (refine tk_yes (v := ?_) 28 (some 12) rfl rfl (by kernel_rfl) (by kernel_rfl) (by kernel_rfl) (fun _ _ _ h => h) (by rfl) ?_ hHeld ?_; rotate_left; focus (intro w hSw; go_simp; try with_reducible rfl))
          simp only [Act.put, List.setIfInBounds_toArray, List.set_cons_zero, List.set_cons_succ]
          refine wpAnyH_done (by kernel_rfl) ?_ _
          refine NoPanic.normal ?_
          go_wp2
          go_ret
          exact ⟨rfl, M6.out.old⟩
theorem stanTexts_own : ownKnob Try.prog.godebug = none := by kernel_rfl
theorem stanTexts_laid : laidOutB Try.prog = true := by kernel_rfl

set_option maxRecDepth 100000 in
set_option maxHeartbeats 1000000 in
theorem stanTexts_lifted (os : Os) (started : os.Started) (H : Type) (enc : TypeId × Value → H) :
    ReturnsInHanded {} Try.checked os 4 .any (Rows.stanTextsSpec.pre6 enc Try.prog Try.f4 Rows.stanTextsRow.domain false) (Rows.stanTextsSpec.post enc Try.prog Try.f4 false true false false) := by
  refine returnsInHanded_of_change (C := Try.checked) stanTexts_own started (by kernel_rfl) Try.func4
    (ChangeSpec.witness6 (enc := enc) (C := Try.checked) false ⟨#[], #[.agg #[.int .u16 0, .int .u32 0], .agg #[.int .u16 0, .int .u32 0], .string ⟨#[]⟩, .int .u8 0, .int .u8 0, .bool false], []⟩ 8 (by kernel_rfl) (by kernel_rfl) (by kernel_rfl) (by kernel_rfl)) ?_
  intro W base args ds gs before hval0 hW hcnd _
  have hval : ∀ (j : Nat) t v, Try.f4.params[j]? = some t → args[j]? = some v → Value.okWide Try.prog W .any base t v := hval0
  have hW' := hW
  obtain ⟨p, q, hA0, hV, rfl, hfz, hnd⟩ := hW
  have hA : DataW.TrodAll enc Try.prog W 0 (fun _ => true) true Try.f4.params.toList args.toList ds p := hA0
  rw [Try.params4] at hA hval
  obtain ⟨v0, vs0, d0, ds0, p0, q0, hargs, rfl, rfl, h0, r0⟩ := trodAll_cons hA
  obtain ⟨v1, vs1, d1, ds1, p1, q1, rfl, rfl, rfl, h1, r1⟩ := trodAll_cons r0
  obtain ⟨v2, vs2, d2, ds2, p2, q2, rfl, rfl, rfl, h2, r2⟩ := trodAll_cons r1
  obtain ⟨v3, vs3, d3, ds3, p3, q3, rfl, rfl, rfl, h3, r3⟩ := trodAll_cons r2
  obtain ⟨v4, vs4, d4, ds4, p4, q4, rfl, rfl, rfl, h4, r4⟩ := trodAll_cons r3
  obtain ⟨v5, vs5, d5, ds5, p5, q5, rfl, rfl, rfl, h5, r5⟩ := trodAll_cons r4
  obtain ⟨rfl, rfl, rfl⟩ := trodAll_nil r5
  obtain rfl : args = #[v0, v1, v2, v3, v4, v5] := by cases args; simp_all
  obtain ⟨rfl, rfl⟩ := trodVars_none hV
  have k0 := h0
  have lt0 : ∀ x ∈ p0, x.block < W.heap.size := by obtain ⟨m, hm⟩ := k0; exact DataW.trod_lt m _ _ _ hm
  obtain ⟨ma0, mb0, rfl, wa0, wb0⟩ := open_key (hval 0 33 v0 rfl rfl) h0
  have k1 := h1
  have lt1 : ∀ x ∈ p1, x.block < W.heap.size := by obtain ⟨m, hm⟩ := k1; exact DataW.trod_lt m _ _ _ hm
  obtain ⟨ma1, mb1, rfl, wa1, wb1⟩ := open_key (hval 1 33 v1 rfl rfl) h1
  obtain ⟨a2, rfl, rfl, rfl, w2⟩ := Go.ChangeMaps.open_string Try.underlying9 (hval 2 9 v2 rfl rfl) h2
  obtain ⟨a3, rfl, rfl, rfl, w3⟩ := open_int Try.underlying5 (hval 3 5 v3 rfl rfl) h3
  obtain ⟨a4, rfl, rfl, rfl, w4⟩ := open_int Try.underlying5 (hval 4 5 v4 rfl rfl) h4
  obtain ⟨a5, rfl, rfl, rfl⟩ := open_bool Try.underlying4 (hval 5 4 v5 rfl rfl) h5
  clear hA0 hval0
  refine (texts4 ma0 mb0 ma1 mb1 a2 a3 a4 a5 W wa0 wb0 wa1 wb1 w2 (by have := bounds_u8 w3; omega) (by have := bounds_u8 w4; omega)).mono fun e W' ⟨he, bel⟩ => ?_
  subst he
  exact ⟨_, rfl, _, _, _, [], _, [], hW', trodAll_mk1 (shut_bool Try.underlying4 _), (trodAll_cons_mk (Below.trod stanTexts_laid (by kernel_rfl) (of_decide_eq_true (by kernel_rfl)) k0 bel lt0) (trodAll_cons_mk (Below.trod stanTexts_laid (by kernel_rfl) (of_decide_eq_true (by kernel_rfl)) k1 bel lt1) (trodAll_cons_mk (Go.ChangeMaps.shut_string Try.underlying9 w2) (trodAll_cons_mk (shut_int Try.underlying5 w3) (trodAll_cons_mk (shut_int Try.underlying5 w4) (trodAll_cons_mk (shut_bool Try.underlying4 _) trodAll_mk0)))))), rfl, bel.frame _, fun h => by cases h⟩

theorem stanTexts_over : Rows.stanTextsRow.holds Try.pinned (OpenSpec.ofChange Rows.stanTextsSpec) :=
  OpenClaim.holds_of_wide 4 Try.f4 rfl rfl rfl rfl rfl rfl rfl ⟨rfl, rfl, rfl, rfl, rfl⟩ rfl rfl rfl rfl rfl (by kernel_rfl) Try.func4 (by kernel_rfl)
    (of_decide_eq_true (by kernel_rfl)) (by unfold Func.isWrapper; first | (rw [if_pos (by decide +kernel)]; kernel_rfl) | (rw [if_neg (by decide +kernel)]; exact ⟨rfl, rfl⟩))
    (fun os started H enc _ => stanTexts_lifted os started H enc)

/-- The statement. -/
theorem stanTexts_holds : Rows.StanTextsSaid := stanTexts_over
#print axioms stanTexts_holds
end Go.Proofs.Ytahkgbhikkebhaa
