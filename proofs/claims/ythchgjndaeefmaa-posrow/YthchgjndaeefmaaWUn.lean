/- Unframe: the first good frame. -/
import Derived.Test.YthchgjndaeefmaaWGood
namespace Go.Proofs.Ythchgjndaeefmaa
open Go.ChangeShapes Go.WideShapes Go.ChangeAt Go.RowKit

theorem sub_lh {ao : Option Addr} {len cap : Nat} (i j : Nat) (hi : i ≤ j) (hj : j ≤ len) (hc : len ≤ cap) :
    ∃ ao', (∀ w, (Instr.sliceAt 26 (.slice ao len cap) (some (.int .i64 (i : Int))) (some (.int .i64 (j : Int))) none).run Try.prog w = .ok (.slice ao' (j - i) (cap - i)) w) ∧ (∀ w zs, Given w ao len cap zs → Given w ao' (j - i) (cap - i) (pc zs i (j - i))) ∧ (ao' = none → ao = none) := by
  refine ⟨if cap = i then ao else ao.map (·.add (i * 1)), fun w => ?_, fun w zs h => ?_, fun e => ?_⟩
  · have h1 : (i : Int) ≤ j := by omega
    have h2 : (j : Int) ≤ cap := by omega
    simp [Instr.sliceAt, Instr.slice, Instr.sliceBounds, Instr.sliceBound, run_underlying Try.underlying26, asIntOf]
    rw [if_pos (by omega), if_pos (by omega)]
  · have h1 := h.leq
    have h2 := h.cap2
    refine ⟨pc_len (by omega), byt_take (byt_drop h.byt _) _, ?_, by omega, by omega⟩
    by_cases hc : cap = i
    · left; unfold pc; rw [List.drop_of_length_le (by omega)]; simp
    · rw [if_neg hc]
      rcases h.row with e | ⟨b, o, e, hr⟩
      · left; rw [e]; simp [pc]
      · subst e
        have := (h.row).piece i (j - i) (by omega)
        simpa [Addr.add_mid] using this
  · by_cases hc : cap = i
    · rwa [if_pos hc] at e
    · rw [if_neg hc] at e
      cases ao with
      | none => rfl
      | some a => cases e
theorem sub_l {ao : Option Addr} {len cap : Nat} (i : Nat) (t : Int) (ht : t = i) (hi : i ≤ len) (hc : len ≤ cap) :
    ∃ ao', (∀ w, (Instr.sliceAt 26 (.slice ao len cap) (some (.int .i64 t)) none none).run Try.prog w = .ok (.slice ao' (len - i) (cap - i)) w) ∧ (∀ w zs, Given w ao len cap zs → Given w ao' (len - i) (cap - i) (zs.drop i)) ∧ (ao' = none → ao = none) := by
  subst ht
  refine ⟨if cap = i then ao else ao.map (·.add (i * 1)), fun w => ?_, fun w zs h => ?_, fun e => ?_⟩
  · have h1 : (i : Int) ≤ len := by omega
    have h2 : (len : Int) ≤ cap := by omega
    simp [Instr.sliceAt, Instr.slice, Instr.sliceBounds, Instr.sliceBound, run_underlying Try.underlying26, asIntOf]
    intro hj; omega
  · have h1 := h.leq
    have h2 := h.cap2
    refine ⟨by rw [List.length_drop]; omega, byt_drop h.byt _, ?_, by omega, by omega⟩
    by_cases hc : cap = i
    · left; rw [List.drop_of_length_le (by omega)]
    · rw [if_neg hc]
      rcases h.row with e | ⟨b, o, e, hr⟩
      · left; rw [e]; simp
      · subst e
        have := (h.row).tail i
        simpa [Addr.add_mid] using this
  · by_cases hc : cap = i
    · rwa [if_pos hc] at e
    · rw [if_neg hc] at e
      cases ao with
      | none => rfl
      | some a => cases e
def ufX (zs : List Int) : List Int := match unf none 0 zs with | none => [] | some r => r.1
def ufN (zs : List Int) : Nat := match unf none 0 zs with | none => 0 | some r => r.2
def ufB (zs : List Int) : Bool := match unf none 0 zs with | none => false | some _ => true
theorem uf_none {zs : List Int} (h : unf none 0 zs = none) : ufX zs = [] ∧ ufN zs = 0 ∧ ufB zs = false := by unfold ufX ufN ufB; rw [h]; exact ⟨rfl, rfl, rfl⟩
theorem uf_some {zs x : List Int} {n : Nat} (h : unf none 0 zs = some (x, n)) : ufX zs = x ∧ ufN zs = n ∧ ufB zs = true := by unfold ufX ufN ufB; rw [h]; exact ⟨rfl, rfl, rfl⟩
/-- What Unframe answers. -/
def UfAns (w : World) (zs : List Int) (e : Ending) (w' : World) : Prop :=
  ∃ ao n c, e = .returned (.tuple #[.slice ao n c, .int .i64 (ufN zs : Int), .bool (ufB zs)]) ∧ Mk w w' (.slice ao n c) n (ufX zs)
theorem ans_none {w w' : World} {zs : List Int} (h : unf none 0 zs = none) (hb : Below w.heap.size w w') : UfAns w zs (.returned (.tuple #[.slice none 0 0, .int .i64 0, .bool false])) w' := by
  obtain ⟨h1, h2, h3⟩ := uf_none h
  exact ⟨none, 0, 0, by rw [h2, h3]; rfl, by rw [h1]; exact (Mk.nil w).more hb⟩
theorem ans_some {w w' : World} {zs x : List Int} {n m c : Nat} {ao : Option Addr} (h : unf none 0 zs = some (x, m)) (hm : Mk w w' (.slice ao n c) n x) : UfAns w zs (.returned (.tuple #[.slice ao n c, .int .i64 (m : Int), .bool true])) w' := by
  obtain ⟨h1, h2, h3⟩ := uf_some h
  exact ⟨ao, n, c, by rw [h2, h3], by rw [h1]; exact hm⟩
set_option maxHeartbeats 2000000 in
theorem unf19 (ao : Option Addr) (len cap : Nat) (zs : List Int) (w : World) (h : Given w ao len cap zs) (hl : len ≤ 900000) :
    Calls Try.prog 21 #[.slice ao len cap] w (UfAns w zs) := by
  have HG := hid h
  have HQ := hid h.leq
  have hcap := h.cap1
  clear h
  go_enter Try.func21, Try.ntmps21
  go_wp2
  go_loopw [5, 10] (fun s i wr => ∃ (k t m : Nat), k ≤ len ∧ i = .int .i64 (k : Int) ∧ s = .int .i64 (t : Int) ∧ At zs k t ∧ wr = w.drewN m) (fun _ i _ => len - (intOf i).toNat)
  case atStart => exact ⟨0, 0, 0, by omega, rfl, rfl, At.start zs, rfl⟩
  case round =>
    obtain ⟨k, t, m, hk, rfl, rfl, hat, hwr⟩ := hrel
    have HG2 : Hid (Given wr ao len cap zs) := by unfold Hid; rw [hwr]; exact HG.out.drewN m
    have HW := hid hwr
    clear hwr
    have A := hid hat
    have htk : t ≤ k := hat.1
    clear hat
    by_cases hlt : k < len
    · have HK : Hid (k < zs.length) := by unfold Hid; rw [HQ.out]; exact hlt
      obtain ⟨b, o, rfl, hc⟩ := HG2.out.cell k hlt
      obtain ⟨c, hcd⟩ : ∃ c, zs.getD k 0 = c := ⟨_, rfl⟩
      rw [hcd] at hc
      have HD := hid hcd
      clear hcd
      by_cases c2 : c = 2
      · subst c2
        have AN := hid (A.out.stx HK.out HD.out)
        go_wp2
        go_roundw
        case rel => exact ⟨k + 1, k + 1, m, by omega, by go_num, by go_num, AN.out, HW.out⟩
        case measure => simp [intOf]; omega
      · by_cases c3 : c = 3
        · subst c3
          by_cases h0 : t = 0
          · subst h0
            have AN := hid (A.out.idle HK.out HD.out)
            go_wp2
            go_roundw
            case rel => exact ⟨k + 1, 0, m, by omega, by go_num, rfl, AN.out, HW.out⟩
            case measure => simp [intOf]; omega
          · have hpos : (0 : Int) < (t : Int) := by omega
            obtain ⟨a1, r1, g1, n1⟩ := sub_lh (ao := some ⟨b, o, none⟩) t k htk (by omega : k ≤ len) hcap
            obtain ⟨a2, r2, g2, _⟩ := sub_l (ao := some ⟨b, o, none⟩) (k + 1) ((k : Int) + 1) (by omega) (by omega : k + 1 ≤ len) hcap
            have G1 : Hid (∀ n, Given (wr.drewN n) a1 (k - t) (cap - t) (pc zs t (k - t))) := fun n => g1 _ _ (HG2.out.drewN n)
            have G2 : Hid (∀ n, Given (wr.drewN n) a2 (len - (k + 1)) (cap - (k + 1)) (zs.drop (k + 1))) := fun n => g2 _ _ (HG2.out.drewN n)
            have hw8 : IntKind.i64.wrap ((k : Int) + 1) = (k : Int) + 1 := by rw [IntKind.wrap_i64]; omega
            have hn1 : Hid (a1 = none → k - t = 0 ∧ cap - t = 0) := fun e => by cases n1 e
            clear g1 g2 n1
            have HCC : Hid (∀ n, Calls Try.prog 29 #[.slice a1 (k - t) (cap - t), .slice a2 (len - (k + 1)) (cap - (k + 1))] (wr.drewN n) fun e w'' => e = .returned (.bool (good (pc zs t (k - t)) (zs.drop (k + 1)))) ∧ ∃ m, w'' = wr.drewN m) :=
              fun n => Calls.quiet_of (good24 _ _ _ _ _ _ _ _ _ (G1.out n) (G2.out n))
            cases hg : good (pc zs t (k - t)) (zs.drop (k + 1))
            · have AN := hid (A.out.bad HK.out HD.out (by omega) hg)
              rw [hg] at HCC
              clear hg h0
              go_wp2
              go_quiet ((go_at_call 29; exact HCC.out _))
              go_wp2
              go_roundw
              case rel => exact ⟨k + 1, 0, m + nq, by omega, by go_num, rfl, AN.out, by rw [HW.out]; exact World.drewN_drewN _ _ _⟩
              case measure => simp [intOf]; omega
            · have AN := hid (A.out.found HK.out HD.out (by omega) hg)
              rw [hg] at HCC
              clear hg h0
              go_wp2
              go_quiet ((go_at_call 29; exact HCC.out _))
              have D0 : Hid (Mk w (wr.drewN nq) (.slice none 0 0) 0 []) := by unfold Hid; rw [HW.out]; exact (Mk.nil w).more (bel_drewN (bel_drewN (Below.refl _ _) m) nq)
              have R1 : Hid (RowAt (wr.drewN nq) a1 (pc zs t (k - t))) := (G1.out nq).row
              have L1 : Hid ((pc zs t (k - t)).length = k - t) := (G1.out nq).leq
              have hy9 : k - t ≤ 900000 := by omega
              generalize pc zs t (k - t) = x at *
              generalize k - t = y at *
              generalize cap - t = c1 at *
              clear r2 hw8
              go_wp2_with (at_builtin; refine app_row (l2 := x) D0.out.1 R1.out L1.out hn1.out D0.out.2.size (by omega) rfl _ _ rfl rfl rfl ?_; intro a4 c4 w4 r4 t4; have D4 := hid (D0.out.next r4 t4); clear r4 t4)
              go_ret3
              exact ans_some AN.out (by simpa using D4.out)
        · have AN := hid (A.out.other HK.out (by rw [HD.out]; exact c2) (by rw [HD.out]; exact c3))
          go_wp2
          go_roundw
          case rel => exact ⟨k + 1, t, m, by omega, by go_num, rfl, AN.out, HW.out⟩
          case measure => simp [intOf]; omega
    · have AN := hid (A.out.done (by rw [HQ.out]; omega))
      go_wp2
      go_ret3
      exact ans_none AN.out (by rw [HW.out]; exact bel_drewN (Below.refl _ _) m)
set_option maxHeartbeats 4000000 in
theorem unf20 (ao : Option Addr) (len cap : Nat) (zs : List Int) (w : World) (h : Given w ao len cap zs) (hl : len ≤ 900000) :
    Calls Try.prog 23 #[.slice ao len cap] w (UfAns w zs) := by
  have HG := hid h
  have HQ := hid h.leq
  have hcap := h.cap1
  clear h
  go_enter Try.func23, Try.ntmps23
  go_wp2
  go_loopw [5, 6, 7] (fun s i y wr => ∃ (k t m : Nat), k ≤ len ∧ i = .int .i64 (k : Int) ∧ s = .int .i64 ((t : Int) - 1) ∧ At zs k t ∧ wr = w.drewN m) (fun _ i _ _ => len - (intOf i).toNat)
  case atStart => exact ⟨0, 0, 0, by omega, rfl, rfl, At.start zs, rfl⟩
  case round =>
    obtain ⟨k, t, m, hk, rfl, rfl, hat, hwr⟩ := hrel
    have HG2 : Hid (Given wr ao len cap zs) := by unfold Hid; rw [hwr]; exact HG.out.drewN m
    have HW := hid hwr
    clear hwr
    have A := hid hat
    have htk : t ≤ k := hat.1
    clear hat
    by_cases hlt : k < len
    · have HK : Hid (k < zs.length) := by unfold Hid; rw [HQ.out]; exact hlt
      obtain ⟨b, o, rfl, hc⟩ := HG2.out.cell k hlt
      obtain ⟨c, hcd⟩ : ∃ c, zs.getD k 0 = c := ⟨_, rfl⟩
      rw [hcd] at hc
      have HD := hid hcd
      clear hcd
      by_cases c2 : c = 2
      · subst c2
        have AN := hid (A.out.stx HK.out HD.out)
        have hw1 : ((k + 1 : Nat) : Int) - 1 = (k : Int) := by omega
        go_wp2
        go_roundw
        case rel => exact ⟨k + 1, k + 1, m, by omega, by go_num, by rw [hw1], AN.out, HW.out⟩
        case measure => simp [intOf]; omega
      · by_cases c3 : c = 3
        · subst c3
          by_cases h0 : t = 0
          · subst h0
            have AN := hid (A.out.idle HK.out HD.out)
            go_wp2
            go_roundw
            case rel => exact ⟨k + 1, 0, m, by omega, by go_num, rfl, AN.out, HW.out⟩
            case measure => simp [intOf]; omega
          · obtain ⟨q, hq⟩ : ∃ q : Int, (t : Int) - 1 = q := ⟨_, rfl⟩
            have hpos : ¬ q < 0 := by omega
            have hq1 : q + 1 = (t : Int) := by omega
            have hq2 : IntKind.i64.wrap (q + 1) = (t : Int) := by rw [IntKind.wrap_i64]; omega
            obtain ⟨a1, r1, g1, n1⟩ := sub_lh (ao := some ⟨b, o, none⟩) t k htk (by omega : k ≤ len) hcap
            have G1 : Hid (∀ n, Given (wr.drewN n) a1 (k - t) (cap - t) (pc zs t (k - t))) := fun n => g1 _ _ (HG2.out.drewN n)
            have hn1 : Hid (a1 = none → k - t = 0 ∧ cap - t = 0) := fun e => by cases n1 e
            have hw8 : IntKind.i64.wrap ((k : Int) + 1) = (k : Int) + 1 := by rw [IntKind.wrap_i64]; omega
            obtain ⟨x, hx⟩ : ∃ x, pc zs t (k - t) = x := ⟨_, rfl⟩
            have hxl : x.length = k - t := by have := (G1.out 0).leq; rwa [hx] at this
            have hrl : (zs.drop (k + 1)).length = len - (k + 1) := by rw [List.length_drop, HQ.out]
            obtain ⟨G, hgd⟩ : ∃ G, good x (zs.drop (k + 1)) = G := ⟨_, rfl⟩
            have AB : Hid (G = false → At zs (k + 1) 0) := fun e => A.out.bad HK.out HD.out (by omega) (by rw [hx, hgd, e])
            have AF : Hid (G = true → unf none 0 zs = some (x, k + 2)) := fun e => by have := A.out.found HK.out HD.out (by omega) (by rw [hx, hgd, e]); rwa [hx] at this
            rw [hx] at G1
            have hyb : k - t ≤ 900000 := by omega
            generalize k - t = y at *
            generalize cap - t = c1 at *
            clear g1 n1 hx h0
            by_cases j1 : k + 1 < len
            · have j1' : (k : Int) + 1 < (len : Int) := by omega
              have d1 : decide ((k : Int) + 1 < (len : Int)) = true := decide_eq_true j1'
              have d1' : decide (k + 1 < len) = true := decide_eq_true j1
              by_cases j2 : 500 < y
              · have e1 := good_long (x := x) (r := zs.drop (k + 1)) (by omega)
                rw [hgd] at e1
                have AN := hid (AB.out e1)
                have d2 : decide ((y : Int) ≤ 500) = false := decide_eq_false (by omega)
                have d2' : decide (y ≤ 500) = false := decide_eq_false (by omega)
                clear hxl hrl e1 hgd
                go_wp2
                go_quiet (fail)
                go_wp2
                go_roundw
                case rel => exact ⟨k + 1, 0, m + nq, by omega, by go_num, rfl, AN.out, by rw [HW.out]; exact World.drewN_drewN _ _ _⟩
                case measure => simp [intOf]; omega
              · have e1 := good_eq (x := x) (r := zs.drop (k + 1)) (by omega) (by omega)
                rw [hgd] at e1
                have d2 : decide ((y : Int) ≤ 500) = true := decide_eq_true (by omega)
                have d2' : decide (y ≤ 500) = true := decide_eq_true (by omega)
                have e2 : (zs.drop (k + 1)).getD 0 0 = zs.getD (k + 1) 0 := by simp [List.getElem?_drop]
                obtain ⟨b2, o2, he2, hc2⟩ := HG2.out.cell (k + 1) j1
                cases he2
                obtain ⟨L, hL⟩ : ∃ L, lrcL x = L := ⟨_, rfl⟩
                obtain ⟨S, hS⟩ : ∃ S, bits .xor .u8 L 3 = S := ⟨_, rfl⟩
                obtain ⟨z, hz⟩ : ∃ z, zs.getD (k + 1) 0 = z := ⟨_, rfl⟩
                have hs2 : sumL x = S := by rw [sumL, hL]; exact hS
                rw [e2, hz, hs2] at e1
                rw [hz] at hc2
                have HL : Hid (∀ n, Calls Try.prog 14 #[.slice a1 y c1] (wr.drewN n) fun e w'' => e = .returned (.int .u8 L) ∧ ∃ m, w'' = wr.drewN m) :=
                  fun n => (lrc15 _ _ _ x _ (G1.out n)).mono fun e w' h => ⟨by rw [h.1, hL], n, h.2.symm⟩
                clear hxl hrl hgd e2 hs2 hL hz
                by_cases j3 : z = S
                · have AN := hid (AF.out (by rw [e1]; exact decide_eq_true j3))
                  subst j3
                  clear e1
                  go_wp2
                  go_quiet ((go_at_call 14; exact HL.out _))
                  have D0 : Hid (Mk w (wr.drewN nq) (.slice none 0 0) 0 []) := by unfold Hid; rw [HW.out]; exact (Mk.nil w).more (bel_drewN (bel_drewN (Below.refl _ _) m) nq)
                  have R1 : Hid (RowAt (wr.drewN nq) a1 x) := (G1.out nq).row
                  have L1 : Hid (x.length = y) := (G1.out nq).leq
                  clear r1 hw8
                  go_wp2_with (at_builtin; refine app_row (l2 := x) D0.out.1 R1.out L1.out hn1.out D0.out.2.size (by omega) rfl _ _ rfl rfl rfl ?_; intro a4 c4 w4 r4 t4; have D4 := hid (D0.out.next r4 t4); clear r4 t4)
                  go_ret3
                  exact ans_some AN.out (by simpa using D4.out)
                · have AN := hid (AB.out (by rw [e1]; exact decide_eq_false j3))
                  clear e1
                  go_wp2
                  go_quiet ((go_at_call 14; exact HL.out _))
                  go_wp2
                  go_roundw
                  case rel => exact ⟨k + 1, 0, m + nq, by omega, by go_num, rfl, AN.out, by rw [HW.out]; exact World.drewN_drewN _ _ _⟩
                  case measure => simp [intOf]; omega
            · have e1 := good_none (x := x) (r := zs.drop (k + 1)) (by omega)
              rw [hgd] at e1
              have AN := hid (AB.out e1)
              have j1' : ¬ (k : Int) + 1 < (len : Int) := by omega
              have d1 : decide ((k : Int) + 1 < (len : Int)) = false := decide_eq_false j1'
              have d1' : decide (k + 1 < len) = false := decide_eq_false j1
              clear hxl hrl e1 hgd
              go_wp2
              go_quiet (fail)
              go_wp2
              go_roundw
              case rel => exact ⟨k + 1, 0, m + nq, by omega, by go_num, rfl, AN.out, by rw [HW.out]; exact World.drewN_drewN _ _ _⟩
              case measure => simp [intOf]; omega
        · have AN := hid (A.out.other HK.out (by rw [HD.out]; exact c2) (by rw [HD.out]; exact c3))
          go_wp2
          go_roundw
          case rel => exact ⟨k + 1, t, m, by omega, by go_num, rfl, AN.out, HW.out⟩
          case measure => simp [intOf]; omega
    · have AN := hid (A.out.done (by rw [HQ.out]; omega))
      go_wp2
      go_ret3
      exact ans_none AN.out (by rw [HW.out]; exact bel_drewN (Below.refl _ _) m)
end Go.Proofs.Ythchgjndaeefmaa
