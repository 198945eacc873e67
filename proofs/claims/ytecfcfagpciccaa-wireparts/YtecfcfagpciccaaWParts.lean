/- WireParts: any parts are joined, split, and come back. -/
import Derived.Test.YtecfcfagpciccaaCat
namespace Go.Proofs.Ytecfcfagpciccaa
open Go.ChangeShapes Go.WideShapes Go.ChangeAt Go.RowKit

/-- No text is greater than 60. -/
def sml (L : List ByteArray) : Bool := L.all fun s => decide (s.size ≤ 60)
theorem sml_snoc (L : List ByteArray) (k : Nat) (h : k < L.length) : sml (L.take (k + 1)) = (sml (L.take k) && decide ((L.getD k ⟨#[]⟩).size ≤ 60)) := by
  rw [take_snocG L ⟨#[]⟩ k h, sml, List.all_append]; simp [sml]
theorem sml_all {L : List ByteArray} (h : sml L = true) : ∀ s ∈ L, s.size ≤ 60 := by
  intro s hs; simp [sml] at h; exact h s hs
theorem jn_len {m : Nat} (l : List (List Int)) (h : ∀ p ∈ l, p.length ≤ m) : (jn l).length ≤ l.length * (m + 1) := by
  induction l with
  | nil => simp [jn]
  | cons p r ih =>
    have h1 := h p (by simp)
    have h2 := ih (fun q hq => h q (by simp [hq]))
    by_cases h0 : r = []
    · subst h0; simp [jn]; omega
    · rw [jn_cons _ _ h0, List.length_append, List.length_cons, List.length_cons, Nat.add_mul]; omega
theorem jn_byt (l : List (List Int)) (h : ∀ p ∈ l, Byt p) : Byt (jn l) := by
  induction l with
  | nil => intro x hx; simp [jn] at hx
  | cons p r ih =>
    have h1 := h p (by simp)
    have h2 := ih (fun q hq => h q (by simp [hq]))
    by_cases h0 : r = []
    · subst h0; exact h1
    · rw [jn_cons _ _ h0]
      refine byt_app h1 (fun x hx => ?_)
      rcases List.mem_cons.1 hx with rfl | hx
      · omega
      · exact h2 x hx
theorem jX_len {L : List ByteArray} (h : ∀ s ∈ L, s.size ≤ 60) (hl : L.length ≤ 20) : (jX (pans L)).length ≤ 2000 := by
  unfold jX
  split
  · have := jn_len (m := 60) (pans L) (fun p hp => by
      simp at hp; obtain ⟨s, hs, rfl⟩ := hp; rw [panL_len]; exact h s hs)
    rw [List.length_map] at this; omega
  · simp
theorem jX_byt (L : List ByteArray) : Byt (jX (pans L)) := by
  unfold jX
  split
  · exact jn_byt _ (fun p hp => by simp at hp; obtain ⟨s, hs, rfl⟩ := hp; exact panL_byt s)
  · intro x hx; simp at hx
theorem txts_size {l : List (List Int)} {m : Nat} (h : ∀ p ∈ l, p.length ≤ m) : ∀ s ∈ txts l, s.size ≤ m := by
  intro s hs
  simp at hs
  obtain ⟨p, hp, rfl⟩ := hs
  have := h p hp
  show (List.map (fun n => UInt8.ofNat n.toNat) p).toArray.size ≤ m
  simpa using this
theorem txt_of {L : List ByteArray} {m : Nat} (h : ∀ s ∈ L, s.size ≤ m) (hm : m ≤ 1000) : Txt L := fun s hs => by have := h s hs; omega
set_option maxHeartbeats 16000000 in
set_option maxRecDepth 20000 in
theorem parts_walk (x0 : Option Addr) (y0 z0 : Nat) (l0 : List Int) (x1 : Option Addr) (y1 z1 : Nat) (L1 : List ByteArray) (W : World) (h0 : InB W x0 y0 z0 l0) (h1 : T.InT W x1 y1 z1 L1) :
    Calls Try.prog 3 #[.slice x0 y0 z0, .slice x1 y1 z1] W fun e w' => e = .returned (.bool true) ∧ Below W.heap.size W w' := by
  have H0 := hid h0
  have H1 := hid h1
  have cp0 := Nat.le_trans h0.giv.cap1 h0.giv.cap2
  have cp1 := Nat.le_trans h1.giv.cap1 h1.giv.cap2
  clear h0 h1
  have K0 := hid True.intro
  by_cases j0 : 200 < y0
  · have d0 : decide ((200 : Int) < (y0 : Int)) = true := decide_eq_true (by omega)
    have d0' : decide (200 < y0) = true := decide_eq_true j0
    go_enter Try.func3, Try.ntmps3
    go_wp2_with (go_at_call 9; have kill := K0.out; refine (known9 _).mono ?_; rintro e w1 ⟨rfl, b1⟩; have B1 := hid b1; clear b1 kill K0)
    go_ret
    exact ⟨rfl, B1.out⟩
  have d0 : decide ((200 : Int) < (y0 : Int)) = false := decide_eq_false (by omega)
  have d0' : decide (200 < y0) = false := decide_eq_false j0
  by_cases j1 : 20 < y1
  · have d1 : decide ((20 : Int) < (y1 : Int)) = true := decide_eq_true (by omega)
    have d1' : decide (20 < y1) = true := decide_eq_true j1
    go_enter Try.func3, Try.ntmps3
    go_wp2_with (go_at_call 9; have kill := K0.out; refine (known9 _).mono ?_; rintro e w1 ⟨rfl, b1⟩; have B1 := hid b1; clear b1 kill K0)
    go_ret
    exact ⟨rfl, B1.out⟩
  have d1 : decide ((20 : Int) < (y1 : Int)) = false := decide_eq_false (by omega)
  have d1' : decide (20 < y1) = false := decide_eq_false j1
  go_enter Try.func3, Try.ntmps3
  go_upto_region 5 with (go_at_call 9; have kill := K0.out; refine (known9 _).mono ?_; rintro e w1 ⟨rfl, b1⟩; have B1 := hid b1; clear b1 kill K0)
  have G1 := hid (H1.out.giv.below B1.out)
  have HQ1 := hid H1.out.giv.leq
  go_wp2
  go_loop [5] (fun i => ∃ (k : Nat), k ≤ y1 ∧ i = .int .i64 (k : Int) ∧ sml (L1.take k) = true) (fun i => y1 - (intOf i).toNat)
  case atStart => exact ⟨0, by omega, rfl, rfl⟩
  case round =>
    obtain ⟨k, hk, rfl, hno⟩ := hrel
    have HN := hid hno
    clear hno
    by_cases hlt : k < y1
    · have HS : Hid (sml (L1.take (k + 1)) = decide ((L1.getD k ⟨#[]⟩).size ≤ 60)) := by unfold Hid; rw [sml_snoc L1 k (by rw [HQ1.out]; exact hlt), HN.out, Bool.true_and]
      obtain ⟨b, o, rfl, hc⟩ := G1.out.cell k hlt
      generalize L1.getD k ⟨#[]⟩ = s at *
      by_cases s60 : 60 < s.size
      · clear HS
        go_wp2
        go_ret
        exact ⟨rfl, B1.out⟩
      · have HT := hid (HS.out.trans (decide_eq_true (by omega)))
        clear HS
        go_wp2
        go_round
        case rel => exact ⟨k + 1, by omega, by go_num, HT.out⟩
        case measure => simp [intOf]; omega
    · have hall : sml L1 = true := by rw [← List.take_of_length_le (l := L1) (i := k) (by rw [HQ1.out]; omega)]; exact HN.out
      have SM := hid (sml_all hall)
      clear hall HN
      have G0 := hid (H0.out.giv.below B1.out)
      have hl0 := hid H0.out.giv.leq
      have hb0 := hid H0.out.giv.byt
      obtain ⟨P, hP⟩ : ∃ P, spl [] l0 = P := ⟨_, rfl⟩
      have PB : Hid (∀ p ∈ P, Byt p) := by unfold Hid; rw [← hP]; exact spl_byt (fun x hx => by simp at hx) hb0.out
      have PL : Hid (∀ p ∈ P, p.length ≤ 200) := by unfold Hid; rw [← hP]; intro p hp; have := spl_len p hp; rw [hl0.out] at this; simp at this; omega
      have PJ : Hid (jOk (pans (txts P)) = true ∧ jX (pans (txts P)) = l0) := by unfold Hid; rw [pans_txts PB.out, ← hP]; exact jX_spl l0
      have HP := hid hP
      clear hP
      obtain ⟨Q, hQ⟩ : ∃ Q, txts P = Q := ⟨_, rfl⟩
      have QS : Hid (∀ s ∈ Q, s.size ≤ 200) := by unfold Hid; rw [← hQ]; exact txts_size PL.out
      have QT : Hid (Txt Q) := hid (txt_of QS.out (by omega))
      have HQ := hid hQ
      rw [hQ] at PJ
      clear hQ
      go_upto_region 11 with (go_at_call 10; refine (split10 _ _ _ l0 _ G0.out (by omega)).mono ?_; rintro e w2 ⟨a2, n2, c2, rfl, m2, k2⟩; rw [HP.out, HQ.out] at m2; have M2 := hid m2; have K2 := hid k2; clear m2 k2)
      have hn2 : n2 ≤ 201 := by have := K2.out; rw [hl0.out] at this; omega
      have P2 := hid (T.Given.of_mk M2.out QT.out)
      go_upto_region 12 with (go_at_call 11; refine (join11 _ _ _ Q _ P2.out (by omega) (fun s hs => by have := QS.out s hs; omega)).mono ?_; rintro e w3 ⟨a3, n3, c3, rfl, m3⟩; rw [PJ.out.1]; rw [PJ.out.2] at m3; have M3 := hid m3; clear m3)
      have P3 := hid (P2.out.below M3.out.2)
      have G3 := hid (G0.out.below (sq M2.out.2 M3.out.2))
      have T1 := hid True.intro
      go_upto_region 14 with (first
        | (go_at_call 15; have kill := T3.out; refine (lrc15 _ _ _ l0 _ G5.out).mono ?_; rintro e w9 ⟨rfl, rfl⟩; clear kill T3)
        | (go_at_call 14; have kill := T2.out; refine (lrc14 _ _ _ l0 _ G5.out).mono ?_; rintro e w9 ⟨rfl, rfl⟩; have T3 := hid True.intro; clear kill T2)
        | (go_at_call 12; have kill := M4.out; refine (str12 _ _ _ _ _ _ Q Q _ (P3.out.below M4.out.2) (T.Given.of_mk M4.out QT.out)).mono ?_; rintro e w5 ⟨rfl, mm, h5⟩; rw [decide_eq_true rfl]; have B5 : Hid (Below w3.heap.size w3 w5) := (by unfold Hid; rw [h5]; exact bel_drewN M4.out.2 mm); have G5 := hid (G3.out.below B5.out); have kc1 := run_str w5 a3 l0 n3 c3 M3.out.1.len (row_mono B5.out M3.out.1.at); have kc2 := run_str w5 x0 l0 y0 z0 G5.out.leq G5.out.row; have T2 := hid True.intro; clear h5 kill M4)
        | (go_at_call 13; have kill := T1.out; refine (split13 _ _ _ l0 _ G3.out (by omega)).mono ?_; rintro e w4 ⟨a4, n4, c4, rfl, m4, _⟩; rw [HP.out, HQ.out] at m4; have M4 := hid m4; clear m4 kill T1))
      have G6 := hid (G1.out.below (sq (sq M2.out.2 M3.out.2) B5.out))
      obtain ⟨F, hF⟩ : ∃ F, jOk (pans L1) = F := ⟨_, rfl⟩
      obtain ⟨X, hX⟩ : ∃ X, jX (pans L1) = X := ⟨_, rfl⟩
      have XB : Hid (Byt X) := by unfold Hid; rw [← hX]; exact jX_byt L1
      have XL : Hid (X.length ≤ 2000) := by unfold Hid; rw [← hX]; exact jX_len SM.out (by rw [HQ1.out]; omega)
      have XS : Hid (F = true → txts (spl [] X) = L1) := fun e => by rw [← hX, spl_jX (hF.trans e), txts_pans]
      have HF := hid hF
      have HX := hid hX
      clear hF hX kc1 kc2
      go_upto_region 15 with (go_at_call 11; refine (join11 _ _ _ L1 _ G6.out (by omega) (fun s hs => by have := SM.out s hs; omega)).mono ?_; rintro e w6 ⟨a6, n6, c6, rfl, m6⟩; rw [HF.out]; rw [HX.out] at m6; have M6 := hid m6; clear m6)
      have G7 := hid (G6.out.below M6.out.2)
      go_upto_region 16 with (go_at_call 16; refine (join16 _ _ _ L1 _ G7.out (by omega) (fun s hs => by have := SM.out s hs; omega)).mono ?_; rintro e w7 ⟨a7, n7, c7, rfl, m7⟩; rw [HF.out]; rw [HX.out] at m7; have M7 := hid m7; clear m7)
      have G8 := hid (G7.out.below M7.out.2)
      have X7 := hid ((M6.out.given XB.out).below M7.out.2)
      have kc1 := run_str w7 a6 X n6 c6 X7.out.leq X7.out.row
      have kc2 := run_str w7 a7 X n7 c7 M7.out.1.len M7.out.1.at
      have BB : Hid (Below W.heap.size W w7) := sq (sq (sq (sq (sq B1.out M2.out.2) M3.out.2) B5.out) M6.out.2) M7.out.2
      generalize strOfNums X = S at *
      cases F
      · go_wp2
        go_ret
        exact ⟨rfl, BB.out⟩
      · have hn6 : n6 ≤ 2000 := by have := X7.out.leq; have := XL.out; omega
        have XS1 := hid (XS.out rfl)
        have T7 : Hid (Txt L1) := H1.out.giv.byt
        go_wp2_with (first
          | (go_at_call 12; have kill := M8.out; refine (str12 _ _ _ _ _ _ L1 L1 _ (T.Given.of_mk M8.out T7.out) (G8.out.below M8.out.2)).mono ?_; rintro e w9 ⟨rfl, mm, h9⟩; rw [decide_eq_true rfl]; have B9 : Hid (Below w7.heap.size w7 w9) := (by unfold Hid; rw [h9]; exact bel_drewN M8.out.2 mm); clear h9 kill M8)
          | (go_at_call 10; refine (split10 _ _ _ X _ X7.out (by omega)).mono ?_; rintro e w8 ⟨a8, n8, c8, rfl, m8, _⟩; rw [XS1.out] at m8; have M8 := hid m8; clear m8))
        go_ret
        exact ⟨rfl, sq BB.out B9.out⟩
theorem wireParts_own : ownKnob Try.prog.godebug = none := by kernel_rfl
theorem wireParts_laid : laidOutB Try.prog = true := by kernel_rfl

set_option maxRecDepth 100000 in
set_option maxHeartbeats 1000000 in
theorem wireParts_lifted (os : Os) (started : os.Started) (H : Type) (enc : TypeId × Value → H) :
    ReturnsInHanded {} Try.checked os 3 .any (Rows.wirePartsSpec.pre6 enc Try.prog Try.f3 Rows.wirePartsRow.domain false) (Rows.wirePartsSpec.post enc Try.prog Try.f3 false true false false) := by
  refine returnsInHanded_of_change (C := Try.checked) wireParts_own started (by kernel_rfl) Try.func3
    (ChangeSpec.witness6 (enc := enc) (C := Try.checked) false ⟨#[], #[.slice none 0 0, .slice none 0 0], []⟩ 8 (by kernel_rfl) (by kernel_rfl) (by kernel_rfl) (by kernel_rfl)) ?_
  intro W base args ds gs before hval0 hW hcnd _
  have hval : ∀ (j : Nat) t v, Try.f3.params[j]? = some t → args[j]? = some v → Value.okWide Try.prog W .any base t v := hval0
  have hW' := hW
  obtain ⟨p, q, hA0, hV, rfl, hfz, hnd⟩ := hW
  have hA : DataW.TrodAll enc Try.prog W 0 (fun _ => true) true Try.f3.params.toList args.toList ds p := hA0
  rw [Try.params3] at hA hval
  obtain ⟨v0, vs0, d0, ds0, p0, q0, hargs, rfl, rfl, h0, r0⟩ := trodAll_cons hA
  obtain ⟨v1, vs1, d1, ds1, p1, q1, rfl, rfl, rfl, h1, r1⟩ := trodAll_cons r0
  obtain ⟨rfl, rfl, rfl⟩ := trodAll_nil r1
  obtain rfl : args = #[v0, v1] := by cases args; simp_all
  obtain ⟨rfl, rfl⟩ := trodVars_none hV
  obtain ⟨x0, y0, z0, rfl⟩ := okWide_slice Try.underlying22 (hval 0 22 v0 rfl rfl)
  have k0 := h0
  have lt0 : ∀ x ∈ p0, x.block < W.heap.size := by obtain ⟨m, hm⟩ := k0; exact DataW.trod_lt m _ _ _ hm
  obtain ⟨a0, len0, cap0, l0, e0, w0⟩ : ∃ a len cap l, Value.slice x0 y0 z0 = .slice a len cap ∧ InB W a len cap l := by
    obtain ⟨fuel, hf⟩ := h0
    exact open_inB hf
  cases e0
  obtain ⟨x1, y1, z1, rfl⟩ := okWide_slice Try.underlying23 (hval 1 23 v1 rfl rfl)
  have k1 := h1
  have lt1 : ∀ x ∈ p1, x.block < W.heap.size := by obtain ⟨m, hm⟩ := k1; exact DataW.trod_lt m _ _ _ hm
  obtain ⟨a1, len1, cap1, l1, e1, w1⟩ : ∃ a len cap l, Value.slice x1 y1 z1 = .slice a len cap ∧ T.InT W a len cap l := by
    obtain ⟨fuel, hf⟩ := h1
    exact T.open_inT hf
  cases e1
  clear hA0 hval0
  refine (parts_walk x0 y0 z0 l0 x1 y1 z1 l1 W w0 w1).mono fun e W' ⟨he, bel⟩ => ?_
  subst he
  exact ⟨_, rfl, _, _, _, [], _, [], hW', trodAll_mk1 (shut_bool Try.underlying4 _), (trodAll_cons_mk (Below.trod wireParts_laid (by kernel_rfl) (of_decide_eq_true (by kernel_rfl)) k0 bel lt0) (trodAll_cons_mk (Below.trod wireParts_laid (by kernel_rfl) (of_decide_eq_true (by kernel_rfl)) k1 bel lt1) trodAll_mk0)), rfl, bel.frame _, fun h => by cases h⟩

theorem wireParts_over : Rows.wirePartsRow.holds Try.pinned (OpenSpec.ofChange Rows.wirePartsSpec) :=
  OpenClaim.holds_of_wide 3 Try.f3 rfl rfl rfl rfl rfl rfl rfl ⟨rfl, rfl, rfl, rfl, rfl⟩ rfl rfl rfl rfl rfl (by kernel_rfl) Try.func3 (by kernel_rfl)
    (of_decide_eq_true (by kernel_rfl)) (by unfold Func.isWrapper; first | (rw [if_pos (by decide +kernel)]; kernel_rfl) | (rw [if_neg (by decide +kernel)]; exact ⟨rfl, rfl⟩))
    (fun os started H enc _ => wireParts_lifted os started H enc)

/-- The statement. -/
theorem wireParts_holds : Rows.WirePartsSaid := wireParts_over
#print axioms wireParts_holds
end Go.Proofs.Ytecfcfagpciccaa
