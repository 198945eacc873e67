/- Read: the message that bytes are. -/
import Derived.Test.YtfpjjdlfofejcaaPutI
import Derived.Test.YtfpjjdlfofejcaaRds
import Derived.Test.YtfpjjdlfofejcaaMReads
namespace Go.Proofs.Ytfpjjdlfofejcaa
open Go.ChangeShapes Go.WideShapes Go.ChangeAt Go.RowKit

/-- The type that bytes begin with: is there one, which. -/
def rtB (zs : List Int) : Bool := decide (2 ≤ zs.length) && unOk (zs.take 2) 4 && numOk (unS (zs.take 2) 4) && typB (numV (unS (zs.take 2) 4))
def rtN (zs : List Int) : Int := numV (unS (zs.take 2) 4)
theorem sub_l {ao : Option Addr} {len cap : Nat} (k : Nat) (hk : k ≤ len) (hc : len ≤ cap) :
    ∃ ao', (∀ w, (Instr.sliceAt 52 (.slice ao len cap) (some (.int .i64 (k : Int))) none none).run Try.prog w = .ok (.slice ao' (len - k) (cap - k)) w) ∧ ∀ w zs, Given w ao len cap zs → Given w ao' (len - k) (cap - k) (zs.drop k) := by
  refine ⟨if cap = k then ao else ao.map (·.add (k * 1)), fun w => ?_, fun w zs h => ?_⟩
  · simp [Instr.sliceAt, Instr.slice, Instr.sliceBounds, Instr.sliceBound, run_underlying Try.underlying52, asIntOf, hk]
  · have h1 := h.leq
    have h2 := h.cap2
    refine ⟨by rw [List.length_drop]; omega, byt_drop h.byt _, ?_, by omega, by omega⟩
    by_cases hc : cap = k
    · left; exact List.drop_of_length_le (by omega)
    · rw [if_neg hc]
      rcases h.row with e | ⟨b, o, e, hr⟩
      · left; rw [e]; simp
      · subst e
        have := (h.row).tail k
        simpa [Addr.add_mid] using this
set_option maxHeartbeats 1000000 in
theorem type30 (ao : Option Addr) (len cap : Nat) (zs : List Int) (w : World) (h : Given w ao len cap zs) (hb : rtB zs = true) :
    Calls Try.prog 30 #[.slice ao len cap] w fun e w' => e = .returned (.tuple #[.int .i64 (rtN zs), .bool true]) ∧ Below w.heap.size w w' := by
  unfold rtB at hb
  simp only [Bool.and_eq_true, decide_eq_true_eq] at hb
  obtain ⟨⟨⟨h2, hu⟩, hn⟩, ht⟩ := hb
  rw [h.leq] at h2
  obtain ⟨a1, hrun, hgv⟩ := sub_h (ao := ao) 2 h2 h.cap1
  have HG := hid (hgv _ _ h)
  have hE : rtN zs = numV (unS (zs.take 2) 4) := rfl
  have hup := unpack_any a1 2 cap (zs.take 2) 4 w HG.out (by omega) (by omega)
  rw [hu] at hup
  obtain ⟨u, hu'⟩ : ∃ u, unS (zs.take 2) 4 = u := ⟨_, rfl⟩
  have hus : u.size ≤ 9223372036854775807 := by
    rw [← hu']; unfold unS; rw [if_pos hu, strOfNums_size, List.length_drop, unL_len, List.length_take]; omega
  rw [hu'] at hn ht hup hE
  have hnm := fun w => number8 u w hus
  rw [hn] at hnm
  rw [hE]
  generalize numV u = x at *
  have HT := hid ht
  clear hgv hu hn ht hu' hus hE h
  have j : ¬ (len : Int) < 2 := by omega
  have c2 : ((2 : Nat) : Int) = 2 := rfl
  rw [c2] at hrun
  go_enter Try.func30, Try.ntmps30
  go_wp2_with (first | (go_at_call 25; have kill := L2.out; refine (type25 x _).mono ?_; rintro e w4 ⟨rfl, rfl⟩; rw [HT.out]; clear kill) | (go_at_call 44; have kill := L1.out; refine (hnm _).mono ?_; rintro e w3 ⟨rfl, rfl⟩; have L2 := hid L1.out; clear kill L1) | (go_at_call 43; refine hup.mono ?_; rintro e w2 ⟨rfl, l2⟩; have L1 := hid l2; clear l2))
  go_ret2
  exact ⟨rfl, L2.out⟩
/-- The fields of those numbers that bytes are. -/
def rdFs : List Int → List Int → Option (List Fd)
  | [], zs => if zs.length = 0 then some [] else none
  | n :: r, zs => if rdOk n zs = true then (rdFs r (zs.drop (rdN n zs))).map (⟨n, rdS n zs⟩ :: ·) else none
theorem rdFs_step {ns : List Int} {k : Nat} (h : k < ns.length) (zs : List Int) : rdFs (ns.drop k) zs = if rdOk (ns.getD k 0) zs = true then (rdFs (ns.drop (k + 1)) (zs.drop (rdN (ns.getD k 0) zs))).map (⟨ns.getD k 0, rdS (ns.getD k 0) zs⟩ :: ·) else none := by
  rw [List.drop_eq_getElem_cons h]
  have : ns.getD k 0 = ns[k] := by simp [h]
  rw [this]; rfl
theorem rd_fits {n : Int} {zs : List Int} (h : rdOk n zs = true) : rdN n zs ≤ zs.length := by
  have e : rdN n zs = rlA (fV n) + rdZ n zs := by unfold rdN; rw [if_pos h]
  unfold rdOk at h
  simp only [Bool.and_eq_true, decide_eq_true_eq] at h
  omega
theorem rd_err {n : Int} {zs : List Int} (h : rdOk n zs = true) : rdE n zs = 0 := by
  have hk : fK n = true := by
    unfold rdOk at h
    simp only [Bool.and_eq_true] at h
    exact h.1.1.1
  unfold rdE; rw [hk, h]; rfl
theorem rd_small {n : Int} {zs : List Int} (h : rdOk n zs = true) : (rdS n zs).size ≤ 9223372036854775807 := by
  have hz : rdZ n zs ≤ 999 := by
    unfold rdOk at h
    simp only [Bool.and_eq_true] at h
    have := rl_small h.1.1.2
    exact szD_small _ _ (by unfold rdK; omega)
  have hp : (rdP n zs).length ≤ 999 := by unfold rdP pc; rw [List.length_take]; omega
  unfold rdS
  rw [if_pos h]
  unfold rsS
  split
  · split
    · unfold unS; split
      · rw [strOfNums_size, List.length_drop, unL_len]; omega
      · decide
    · rw [strOfNums_size]; omega
  · decide
set_option maxHeartbeats 2000000 in
theorem fields32 (a1 : Option Addr) (n1 c1 : Nat) (ns : List Int) (ao : Option Addr) (len cap : Nat) (zs : List Int) (w : World) (h1 : I.Given w a1 n1 c1 ns) (hn : n1 ≤ 1000) (h : Given w ao len cap zs) (l : List Fd) (hl : rdFs ns zs = some l) :
    Calls Try.prog 32 #[.slice a1 n1 c1, .slice ao len cap] w fun e w' => ∃ a n c, e = .returned (.tuple #[.slice a n c, .bool true]) ∧ MkF w w' (.slice a n c) n l := by
  have HG := hid h
  have HC1 : Hid (∀ i, i < n1 → ∃ b o, a1 = some ⟨b, o, none⟩ ∧ w.cell? ⟨b, o + i, none⟩ = some (.int .i64 (ns.getD i 0))) := fun i hi => h1.cell i hi
  have HQ := hid h1.leq
  have HW := hid h1.byt
  have HL := hid hl
  clear h h1 hl
  go_enter Try.func32, Try.ntmps32
  go_wp2
  go_loopw [1, 6, 14] (fun bs fs i wr => ∃ (k c m d : Nat) (a a' : Option Addr) (L : List Fd) (ys : List Int), k ≤ n1 ∧ i = .int .i64 (k : Int) ∧ fs = .slice a k c ∧ bs = .slice a' m d ∧ MkF w wr (.slice a k c) k L ∧ Given w a' m d ys ∧ (rdFs (ns.drop k) ys).map (L ++ ·) = some l) (fun _ _ i _ => n1 - (intOf i).toNat)
  case atStart => exact ⟨0, 0, len, cap, none, ao, [], zs, by omega, rfl, rfl, rfl, MkF.nil w, HG.out, by rw [List.drop_zero, HL.out]; rfl⟩
  case round =>
    obtain ⟨k, c, m, d, a, a', L, ys, hk, rfl, rfl, rfl, hm, hg, hr⟩ := hrel
    have M1 := hid hm
    have G1 := hid hg
    have R1 := hid hr
    have hmd := hg.cap1
    have hql := hg.leq
    clear hm hg hr HG HL
    by_cases hlt : k < n1
    · obtain ⟨b, o, rfl, e0⟩ := HC1.out k hlt
      have c0 := (M1.out.2.cell (World.block_lt_of_cell? w _ e0)).trans e0
      clear e0
      have HS := hid (rdFs_step (ns := ns) (k := k) (by rw [HQ.out]; exact hlt) ys)
      have hx := HW.out (ns.getD k 0) (by
        have : ns.getD k 0 = ns[k]'(by rw [HQ.out]; exact hlt) := by simp [HQ.out, hlt]
        rw [this]; exact List.getElem_mem _)
      generalize ns.getD k 0 = N at *
      have HRD := fun w => read11 N a' m d ys w
      cases hok : rdOk N ys
      · have := R1.out
        rw [HS.out, hok] at this
        cases this
      · have HE := hid (rd_err hok)
        have hfit := rd_fits hok
        have HK : Hid ((⟨N, rdS N ys⟩ : Fd).ok) := ⟨hx.1, hx.2, rd_small hok⟩
        have HF : Hid ((rdFs (ns.drop (k + 1)) (ys.drop (rdN N ys))).map ((L ++ [⟨N, rdS N ys⟩]) ++ ·) = some l) := by
          unfold Hid
          rw [← R1.out, HS.out, hok, if_pos rfl, Option.map_map]
          congr 1
          funext t
          simp
        have hu : ∃ u, rdN N ys = u := ⟨_, rfl⟩
        obtain ⟨u, hu⟩ := hu
        have hv : ∃ v, rdS N ys = v := ⟨_, rfl⟩
        obtain ⟨v, hv⟩ := hv
        rw [hu, hv] at HF
        rw [hv] at HK
        rw [hu, hql] at hfit
        have HRD2 : Hid (∀ w', Given w' a' m d ys → Calls Try.prog 48 #[.int .i64 N, .slice a' m d] w' fun e w'' => e = .returned (.tuple #[.string v, .int .i64 (u : Int), .int .i64 0]) ∧ Below w'.heap.size w' w'') := by
          intro w' hgv
          have := HRD w' hgv
          rwa [hv, hu, HE.out] at this
        obtain ⟨a'', hrun, hgv⟩ := sub_l (ao := a') (len := m) (cap := d) u hfit hmd
        have G2 := hid (hgv _ _ G1.out)
        clear hgv hok HE HS R1 HRD hu hv hx hql
        go_wp2_with (first | (refine app_flds (W0 := w) M3.out F3.out rfl (by omega) rfl _ _ rfl rfl rfl ?_; intro ao4 cap4 w4 d4 t4; have M4 := hid d4; clear d4 t4) | (have kill := M2.out; clear kill; refine bsF HK.out rfl _ rfl rfl ?_; intro ag w3 g3 l3; have F3 := hid g3; have M3 := hid (M2.out.more l3); clear g3 l3) | (go_at_call 48; refine (HRD2.out _ (G1.out.below M1.out.2)).mono ?_; rintro e w2 ⟨rfl, l2⟩; have M2 := hid (M1.out.more l2); clear l2))
        go_roundw
        case rel => exact ⟨k + 1, _, _, _, _, _, _, _, by omega, by go_num, rfl, rfl, M4.out, G2.out, HF.out⟩
        case measure => simp [intOf]; omega
    · have e : rdFs [] ys = some [] ∧ L = l := by
        have := R1.out
        rw [List.drop_of_length_le (by rw [HQ.out]; omega)] at this
        unfold rdFs at this ⊢
        split at this
        · rename_i h0
          rw [if_pos h0]
          simpa using this
        · simp at this
      have hm0 : m = 0 := by
        have := e.1
        unfold rdFs at this
        split at this
        · omega
        · cases this
      have hL := e.2
      clear e R1
      subst hm0 hL
      go_wp2
      go_ret2
      exact ⟨_, _, _, rfl, M1.out⟩
theorem MkF.from {W0 w w' : World} {v : Value} {n : Nat} {l : List Fd} (b : Below W0.heap.size W0 w) (h : MkF w w' v n l) : MkF W0 w' v n l := by
  refine ⟨⟨⟨h.1.1.1, ?_⟩, h.1.2⟩, sq b h.2⟩
  rcases h.1.1.2 with h0 | ⟨g, cap, cur, hv, hg, r⟩
  · exact .inl h0
  · exact .inr ⟨g, cap, cur, hv, Nat.le_trans b.size hg, r⟩
/-- The message that bytes are. -/
def rdI (zs : List Int) : Option (Int × List Fd) :=
  if rtB zs && Map.readOk (zs.drop 2) then (rdFs (Map.numR (zs.drop 2)) ((zs.drop 2).drop (Map.tookR (zs.drop 2)))).map (fun l => (rtN zs, l)) else none
theorem nums_few (zs : List Int) : (Map.numR zs).length ≤ 1000 := by
  unfold Map.numR
  split
  · have := Map.nums_len (Map.hasN zs) (8 * Map.tookL zs + 1)
    unfold Map.numL
    rcases Map.took_or zs with ⟨_, h⟩ | ⟨_, h⟩ <;> rw [h] at this ⊢ <;> omega
  · simp
theorem numR_wid (zs : List Int) : Wid (Map.numR zs) := by
  unfold Map.numR
  split
  · exact Map.wid_num zs
  · intro x hx; simp at hx
set_option maxHeartbeats 2000000 in
theorem read20_yes (ao : Option Addr) (len cap : Nat) (zs : List Int) (w : World) (h : Given w ao len cap zs) (m : Int) (l : List Fd) (hr : rdI zs = some (m, l)) :
    Calls Try.prog 20 #[.slice ao len cap] w fun e w' => ∃ a n c, e = .returned (.tuple #[.agg #[.int .i64 m, .slice a n c], .int .i64 0]) ∧ MkF w w' (.slice a n c) n l := by
  have X1 := hid (VB.new w 0 (.slice none 0 0))
  have B1 := hid (bel1 w (.cells #[.int .i64 0, .slice none 0 0] 24))
  unfold rdI at hr
  split at hr
  · rename_i hb
    rw [Bool.and_eq_true] at hb
    obtain ⟨hb1, hb2⟩ := hb
    have h2 : 2 ≤ len := by
      unfold rtB at hb1
      simp only [Bool.and_eq_true, decide_eq_true_eq] at hb1
      have := h.leq
      omega
    have hT := fun (w' : World) (g : Given w' ao len cap zs) => type30 ao len cap zs w' g hb1
    obtain ⟨a2, hrun2, hg2⟩ := sub_l (ao := ao) (len := len) (cap := cap) 2 h2 h.cap1
    have c2 : ((2 : Nat) : Int) = 2 := rfl
    rw [c2] at hrun2
    have G2 := hid (hg2 _ _ h)
    obtain ⟨ys, hys⟩ : ∃ ys, zs.drop 2 = ys := ⟨_, rfl⟩
    rw [hys] at hb2 hr G2
    have htk : Map.tookR ys ≤ len - 2 := by
      have hq := G2.out.leq
      have : Map.tookR ys = Map.tookL ys := by unfold Map.tookR; rw [if_pos hb2]
      unfold Map.readOk at hb2
      simp only [Bool.and_eq_true, decide_eq_true_eq] at hb2
      omega
    obtain ⟨t, ht⟩ : ∃ t, Map.tookR ys = t := ⟨_, rfl⟩
    rw [ht] at hr htk
    obtain ⟨a3, hrun3, hg3⟩ := sub_l (ao := a2) (len := len - 2) (cap := cap - 2) t htk G2.out.cap1
    have G3 := hid (hg3 _ _ G2.out)
    obtain ⟨l', hl', e⟩ := Option.map_eq_some_iff.1 hr
    cases e
    have hM := fun (w' : World) (g : Given w' a2 (len - 2) (cap - 2) ys) => Map.read9 a2 (len - 2) (cap - 2) ys w' g
    have HL := hid hl'
    have HT := hid ht
    have HB := hid hb2
    have HG := hid h
    have HN := hid (nums_few ys)
    have HW := hid (numR_wid ys)
    generalize rtN zs = m at *
    clear hr hl' ht hb2 hb1 hg2 hg3 hys h
    go_enter Try.func20, Try.ntmps20
    go_wp2_with (first | (go_at_call 32; have kill := N4.out; refine (fields32 _ _ _ (Map.numR ys) _ _ _ _ _ (N4.out.given HW.out) (by rw [← N4.out.1.len]; exact HN.out) (G3.out.below B4.out) l HL.out).mono ?_; rintro e w5 ⟨a5, n5, c5, rfl, m5⟩; have M5 := hid m5; have X5 := hid (X4.out.more m5.2); obtain ⟨x0, x1, x2, x3⟩ := X5.out.facts; clear m5 kill) | (go_at_call 31; have kill := X2.out; refine (hM _ (G2.out.below B2.out)).mono ?_; rintro e w4 ⟨a4, n4, c4, rfl, m4⟩; rw [HT.out, HB.out]; have N4 := hid m4; have X4 := hid (X2.out.more m4.2); have B4 := hid (sq B2.out m4.2); clear m4 X2 kill) | (go_at_call 30; refine (hT _ (HG.out.below B1.out)).mono ?_; rintro e w2 ⟨rfl, l2⟩; have X2 := hid (X1.out.more l2); have B2 := hid (sq B1.out l2); clear l2))
    have M6 : Hid (MkF w w5 (.slice a5 n5 c5) n5 l) := MkF.from B4.out M5.out
    have D9 := hid (M6.out.set X5.out (Nat.le_refl _) (.int .i64 m) (.slice a5 n5 c5))
    have X9 := hid (X5.out.set m (.slice a5 n5 c5))
    obtain ⟨W8, hW8⟩ : ∃ W8, W8 = (w5.setCell ⟨w.heap.size, 0, none⟩ (.int .i64 m)).setCell ⟨w.heap.size, 1, none⟩ (.slice a5 n5 c5) := ⟨_, rfl⟩
    rw [← hW8] at D9 X9 ⊢
    obtain ⟨d0, d1⟩ := X9.out.ib
    simp [bodyPost, results, Try.results20, go_sem, d0, d1]
    exact ⟨_, _, _, ⟨rfl, rfl, rfl⟩, D9.out⟩
  · cases hr
end Go.Proofs.Ytfpjjdlfofejcaa
