/- The document's Put. -/
import Derived.Test.YtbipikbefokihaaDoorRightR
import Derived.Test.YtbipikbefokihaaDoorPutD
namespace Go.Proofs.YtbipikbefokihaaDoor
open Go.ChangeShapes Go.WideShapes Go.ChangeAt Go.RowKit

theorem dec22b (v : Int) (w : World) (h0 : 0 ≤ v) (h1 : v ≤ 2147483647) : Calls Tryd.prog 22 #[.int .i64 v] w fun e w' => e = .returned (.string (decS v)) ∧ Below w.heap.size w w' := by
  refine (dec22 v.toNat v w h0 (by omega) (Nat.le_refl _)).mono ?_
  rintro e w' ⟨rfl, m, rfl⟩
  exact ⟨rfl, Go.Joins.below_draws _ _ _⟩
theorem let_at {k : Int} (hk : okK k = true) (i : Nat) (h : i < (letK k).size) : i < (hasK k).length ∧ ((letK k)[i].toNat : Int) = chF ((hasK k).getD i 0) := by
  have e := let_all hk
  have hl : (hasK k).length = (letK k).size := by
    have := congrArg List.length e
    rw [panL_len, List.length_map] at this; exact this.symm
  refine ⟨by omega, ?_⟩
  rw [← pan_getD (letK k) i h, e]
  have hi : i < (hasK k).length := by omega
  simp [hi]
theorem let_len {k : Int} (hk : okK k = true) : (letK k).size = (hasK k).length := by
  have := congrArg List.length (let_all hk)
  rwa [panL_len, List.length_map] at this
theorem right_in {m : Ms} {f : Int} (h2 : ¬ f = 2) (h : rightF m f = true) : ∀ v ∈ numsF m f, 0 ≤ v ∧ v ≤ 2147483647 := fun v hv => by
  unfold rightF at h
  rw [if_neg h2, List.all_eq_true] at h
  have := most_le f
  have : 0 ≤ v ∧ v ≤ mostF f := by simpa [inB] using h v hv
  omega
theorem put_two (m : Ms) : putF m 2 = [m.pan] := rfl
theorem put_one {m : Ms} {f x : Int} (h2 : ¬ f = 2) (h : numsF m f = [x]) : putF m f = [decS x] := by unfold putF; rw [if_neg h2, h]; rfl
theorem put_row {m : Ms} {f : Int} {L : List Int} (h2 : ¬ f = 2) (h : numsF m f = L) : putF m f = L.map decS := by unfold putF; rw [if_neg h2, h]
theorem RV.cells4 {w : World} {b : Nat} {r : Ms} (h : RV w b r) (o : Nat) {x0 x1 x2 x3 : Int} (he : (r.cells.drop o).take 4 = c4 x0 x1 x2 x3) (j : Nat) (hj : j < 4) : w.cell? ⟨b, o + j, none⟩ = some (.int .i64 ([x0, x1, x2, x3].getD j 0)) := by
  have := h.four o he j
  have h4 : j = 0 ∨ j = 1 ∨ j = 2 ∨ j = 3 := by omega
  rcases h4 with rfl | rfl | rfl | rfl <;> exact this _ rfl
set_option maxRecDepth 20000 in
set_option maxHeartbeats 16000000 in
theorem put10 (m : Ms) (w : World) (hm : m.Ok) (hp : m.pan.size ≤ 9223372036854775807) :
    Calls Tryd.prog 10 #[m.val] w (PtAns w m) := by
  have HM := hid hm
  have HP := hid hp
  obtain ⟨⟨t0, t1⟩, s0, s1⟩ := hm
  clear hp
  cases hr : rightL m
  · have HR := hid hr
    clear hr
    go_enter Tryd.func10, Tryd.ntmps10
    go_wp2_with (first | (go_at_call 12; have kill := V1.out; refine (right12 m _ HM.out HP.out).mono ?_; rintro e w2 ⟨rfl, l2⟩; rw [HR.out]; have L2 := hid (sq L1.out l2); clear l2 kill V1) | (have kill := V1.out; refine ld27 V1.out rfl _ rfl rfl ?_) | (refine bx27 rfl _ rfl rfl ?_; intro b1 w1 hb1 v1 l1; have V1 := hid v1; have L1 := hid l1; clear v1 l1))
    go_ret2
    exact pt_no HR.out L2.out
  · have HR := hid hr
    have HO : Hid (okK m.kind = true) := (right_iff.1 hr).1
    have HF : Hid (∀ f ∈ hasK m.kind, rightF m f = true) := (right_iff.1 hr).2.1
    have HTX := hid (parts_txt hr)
    have HSZ := hid (parts_size hr)
    have HPN := hid (parts_len m)
    clear hr
    obtain ⟨l, hl⟩ : ∃ l, letK m.kind = l := ⟨_, rfl⟩
    have HLL : Hid (l.size = (hasK m.kind).length) := by unfold Hid; rw [← hl]; exact let_len HO.out
    have HLA : Hid (∀ i (h : i < l.size), i < (hasK m.kind).length ∧ (l[i].toNat : Int) = chF ((hasK m.kind).getD i 0)) := by subst hl; exact fun i h => let_at HO.out i h
    obtain ⟨H, hH⟩ : ∃ H, hasK m.kind = H := ⟨_, rfl⟩
    have HTN : Hid (∀ f ∈ H, f ∈ tenF) := fun f hf => has_ten (k := m.kind) (by rw [hH]; exact hf)
    have HPL : Hid (partsL m = codeK m.kind :: H.flatMap (putF m)) := by unfold Hid partsL; rw [hH]
    have h8 : l.size ≤ 8 := by rw [HLL.out]; exact has_len _
    rw [hH] at HF HLL HLA
    obtain ⟨C, hC⟩ : ∃ C, codeK m.kind = C := ⟨_, rfl⟩
    rw [hC] at HPL
    have HC := hid hC
    have HL := hid hl
    clear hH hC hl
    go_enter Tryd.func10, Tryd.ntmps10
    go_wp2_with (first | (go_at_call 21; have kill := V2.out; refine (parts21 _ _).mono ?_; rintro e w3 ⟨rfl, rfl⟩; rw [HO.out, HC.out, HL.out]; clear kill) | (go_at_call 12; have kill := V1.out; refine (right12 m _ HM.out HP.out).mono ?_; rintro e w2 ⟨rfl, l2⟩; rw [HR.out]; have V2 := hid (V1.out.below l2); have cc : w2.cell? ⟨b1, 0, none⟩ = some (.int .i64 m.kind) := V2.out.cell 0 rfl; have L2 := hid (sq L1.out l2); clear l2 kill V1) | (have kill := V1.out; refine ld27 V1.out rfl _ rfl rfl ?_) | (refine bx27 rfl _ rfl rfl ?_; intro b1 w1 hb1 v1 l1; have V1 := hid v1; have L1 := hid l1; clear v1 l1))
    clear cc
    go_loopw [7, 8] (fun x i wr => ∃ (k n c : Nat) (a : Option Addr), k ≤ l.size ∧ i = .int .i64 (k : Int) ∧ x = .slice a n c ∧ n ≤ 1 + 4 * k ∧ T.Mk w2 wr (.slice a n c) n (C :: (H.take k).flatMap (putF m))) (fun _ i _ => l.size - (intOf i).toNat)
    case atStart => exact ⟨0, 1, 1, _, by omega, rfl, rfl, by omega, T.Mk.new w2 [C] 1 rfl (by omega)⟩
    case round =>
      obtain ⟨k, n, c, a, hk, rfl, rfl, hnk, hmk⟩ := hrel
      have M := hid hmk
      have VR := hid (V2.out.below hmk.2)
      have ca := hmk.1.caps
      have ca1 := ca.2.1
      have ca2 := ca.2.2
      clear hmk ca
      by_cases hlt : k < l.size
      · obtain ⟨hkH, hcc⟩ := HLA.out k hlt
        have HS := hid (flat_take m H k hkH)
        have HFM := hid (getD_mem hkH)
        generalize H.getD k 0 = f at *
        have HFT := hid (HTN.out f HFM.out)
        have HFR := hid (HF.out f HFM.out)
        obtain ⟨PX, hPX⟩ : ∃ X, C :: (H.take k).flatMap (putF m) = X := ⟨_, rfl⟩
        have HS2 : Hid (C :: (H.take (k + 1)).flatMap (putF m) = PX ++ putF m f) := by unfold Hid; rw [HS.out, ← hPX]; rfl
        rw [hPX] at M
        clear HS hPX hkH
        rcases ten_cases HFT.out with e | e | e | e | e | e | e | e | e | e
        · have hcf : (l[k].toNat : Int) = 116 := by rw [hcc, e]; rfl
          obtain ⟨x, hx⟩ : ∃ x, m.term = x := ⟨_, rfl⟩
          obtain ⟨S, hS⟩ : ∃ S, decS x = S := ⟨_, rfl⟩
          have HS3 : Hid (C :: (H.take (k + 1)).flatMap (putF m) = PX ++ [S]) := by unfold Hid; rw [HS2.out, e, put_one (x := x) (by omega) (by rw [← hx]; rfl), hS]
          have HX : Hid (0 ≤ x ∧ x ≤ 2147483647) := by
            have h := HFR.out
            rw [e] at h
            exact right_in (by omega) h x (by rw [← hx]; exact List.mem_singleton.2 rfl)
          have HSS := hid hS
          have cxx : wr.cell? ⟨b1, 1, none⟩ = some (.int .u16 m.term) := VR.out.cell 1 rfl
          rw [hx] at cxx
          rw [hx] at t0 t1
          clear hcc HS2 e HFM HFT HFR hS hx
          go_wp2_with (first | (at_builtin; have kill := M1.out; refine T.app_row (l2 := [S]) M1.out.1 R1.out Q1.out (fun e => by cases e) M1.out.2.size (by omega) rfl _ _ rfl rfl rfl ?_; intro a5 c5 w5 r5 t5; have D5 := hid (M1.out.next r5 t5); clear r5 t5 kill M1) | (go_at_call 22; have kill := HX.out; refine (dec22b x _ HX.out.1 HX.out.2).mono ?_; rintro e w4 ⟨rfl, l4⟩; rw [HSS.out]; have M1 : Hid (T.Mk w2 (w4.alloc (.cells #[.string S] 9)) (.slice a n c) n PX) := (M.out.more l4).more (bel1 _ _); have R1 := hid (T.one_row w4 S); have Q1 := hid (T.len1 S); clear l4 kill HX))
          go_roundw
          case rel => exact ⟨k + 1, n + 1, c5, a5, by omega, by go_num, rfl, by omega, by rw [HS3.out]; exact D5.out⟩
          case measure => simp [intOf]; omega
        · have hcf : (l[k].toNat : Int) = 115 := by rw [hcc, e]; rfl
          obtain ⟨x, hx⟩ : ∃ x, m.stan = x := ⟨_, rfl⟩
          obtain ⟨S, hS⟩ : ∃ S, decS x = S := ⟨_, rfl⟩
          have HS3 : Hid (C :: (H.take (k + 1)).flatMap (putF m) = PX ++ [S]) := by unfold Hid; rw [HS2.out, e, put_one (x := x) (by omega) (by rw [← hx]; rfl), hS]
          have HX : Hid (0 ≤ x ∧ x ≤ 2147483647) := by
            have h := HFR.out
            rw [e] at h
            exact right_in (by omega) h x (by rw [← hx]; exact List.mem_singleton.2 rfl)
          have HSS := hid hS
          have cxx : wr.cell? ⟨b1, 2, none⟩ = some (.int .u32 m.stan) := VR.out.cell 2 rfl
          rw [hx] at cxx
          rw [hx] at s0 s1
          clear hcc HS2 e HFM HFT HFR hS hx
          go_wp2_with (first | (at_builtin; have kill := M1.out; refine T.app_row (l2 := [S]) M1.out.1 R1.out Q1.out (fun e => by cases e) M1.out.2.size (by omega) rfl _ _ rfl rfl rfl ?_; intro a5 c5 w5 r5 t5; have D5 := hid (M1.out.next r5 t5); clear r5 t5 kill M1) | (go_at_call 22; have kill := HX.out; refine (dec22b x _ HX.out.1 HX.out.2).mono ?_; rintro e w4 ⟨rfl, l4⟩; rw [HSS.out]; have M1 : Hid (T.Mk w2 (w4.alloc (.cells #[.string S] 9)) (.slice a n c) n PX) := (M.out.more l4).more (bel1 _ _); have R1 := hid (T.one_row w4 S); have Q1 := hid (T.len1 S); clear l4 kill HX))
          go_roundw
          case rel => exact ⟨k + 1, n + 1, c5, a5, by omega, by go_num, rfl, by omega, by rw [HS3.out]; exact D5.out⟩
          case measure => simp [intOf]; omega
        · have hcf : (l[k].toNat : Int) = 112 := by rw [hcc, e]; rfl
          have HS3 : Hid (C :: (H.take (k + 1)).flatMap (putF m) = PX ++ [m.pan]) := by unfold Hid; rw [HS2.out, e]; rfl
          clear hcc HS2 e HFM HFT HFR
          have cpa : wr.cell? ⟨b1, 3, none⟩ = some (.string m.pan) := VR.out.cell 3 rfl
          obtain ⟨S, hS⟩ : ∃ S, m.pan = S := ⟨_, rfl⟩
          rw [hS] at cpa HS3
          clear hS
          have M1 : Hid (T.Mk w2 (wr.alloc (.cells #[.string S] 9)) (.slice a n c) n PX) := M.out.more (bel1 _ _)
          have R1 := hid (T.one_row wr S)
          have Q1 := hid (T.len1 S)
          go_wp2_with (first | (at_builtin; have kill := M1.out; refine T.app_row (l2 := [S]) M1.out.1 R1.out Q1.out (fun e => by cases e) M1.out.2.size (by omega) rfl _ _ rfl rfl rfl ?_; intro a5 c5 w5 r5 t5; have D5 := hid (M1.out.next r5 t5); clear r5 t5 kill M1))
          go_roundw
          case rel => exact ⟨k + 1, n + 1, c5, a5, by omega, by go_num, rfl, by omega, by rw [HS3.out]; exact D5.out⟩
          case measure => simp [intOf]; omega
        · have hcf : (l[k].toNat : Int) = 97 := by rw [hcc, e]; rfl
          obtain ⟨x, hx⟩ : ∃ x, m.amt = x := ⟨_, rfl⟩
          obtain ⟨S, hS⟩ : ∃ S, decS x = S := ⟨_, rfl⟩
          have HS3 : Hid (C :: (H.take (k + 1)).flatMap (putF m) = PX ++ [S]) := by unfold Hid; rw [HS2.out, e, put_one (x := x) (by omega) (by rw [← hx]; rfl), hS]
          have HX : Hid (0 ≤ x ∧ x ≤ 2147483647) := by
            have h := HFR.out
            rw [e] at h
            exact right_in (by omega) h x (by rw [← hx]; exact List.mem_singleton.2 rfl)
          have HSS := hid hS
          have cxx : wr.cell? ⟨b1, 4, none⟩ = some (.int .i64 m.amt) := VR.out.cell 4 rfl
          rw [hx] at cxx
          skip
          clear hcc HS2 e HFM HFT HFR hS hx
          go_wp2_with (first | (at_builtin; have kill := M1.out; refine T.app_row (l2 := [S]) M1.out.1 R1.out Q1.out (fun e => by cases e) M1.out.2.size (by omega) rfl _ _ rfl rfl rfl ?_; intro a5 c5 w5 r5 t5; have D5 := hid (M1.out.next r5 t5); clear r5 t5 kill M1) | (go_at_call 22; have kill := HX.out; refine (dec22b x _ HX.out.1 HX.out.2).mono ?_; rintro e w4 ⟨rfl, l4⟩; rw [HSS.out]; have M1 : Hid (T.Mk w2 (w4.alloc (.cells #[.string S] 9)) (.slice a n c) n PX) := (M.out.more l4).more (bel1 _ _); have R1 := hid (T.one_row w4 S); have Q1 := hid (T.len1 S); clear l4 kill HX))
          go_roundw
          case rel => exact ⟨k + 1, n + 1, c5, a5, by omega, by go_num, rfl, by omega, by rw [HS3.out]; exact D5.out⟩
          case measure => simp [intOf]; omega
        · have hcf : (l[k].toNat : Int) = 110 := by rw [hcc, e]; rfl
          have F4 : Hid ((m.cells.drop 5).take 4 = c4 m.n0 m.n1 m.n2 m.n3) := rfl
          obtain ⟨L, hL⟩ : ∃ L, [m.n0, m.n1, m.n2, m.n3] = L := ⟨_, rfl⟩
          have HS3 : Hid (C :: (H.take (k + 1)).flatMap (putF m) = PX ++ L.map decS) := by unfold Hid; rw [HS2.out, e, put_row (L := L) (by omega) (by rw [← hL]; rfl)]
          have HX : Hid (∀ j, j < 4 → 0 ≤ L.getD j 0 ∧ L.getD j 0 ≤ 2147483647) := fun j hj => by
            have h := HFR.out
            rw [e] at h
            refine right_in (by omega) h _ ?_
            have : numsF m 4 = L := by rw [← hL]; rfl
            rw [this]
            exact getD_mem (by rw [← hL]; exact hj)
          have HLN : Hid (L.length = 4) := by unfold Hid; rw [← hL]; rfl
          have HCE : Hid (∀ w j, RV w b1 m → j < 4 → w.cell? ⟨b1, 5 + j, none⟩ = some (.int .i64 (L.getD j 0))) := fun w j hv hj => by
            rw [← hL]; exact hv.cells4 5 F4.out j hj
          have HNN : Hid (∀ w, Calls Tryd.prog 23 #[.pointer (some ⟨b1, 0, none⟩), .int .u8 110] w fun e w' => e = .returned (.tuple #[.pointer (some ⟨b1, 5, none⟩), .int .i64 (mostF 4)]) ∧ w = w') := fun w => notes23 b1 110 w (by omega)
          clear hcc HS2 e HFM HFT HFR hL F4
          go_wp2_with (first | (go_at_call 23; refine (HNN.out _).mono ?_; rintro e w3 ⟨rfl, rfl⟩))
          generalize wr = wa at *
          go_loopw [7, 11] (fun x i wr => ∃ (j n2 c : Nat) (a : Option Addr), j ≤ 4 ∧ i = .int .i64 (j : Int) ∧ x = .slice a n2 c ∧ n2 = n + j ∧ T.Mk w2 wr (.slice a n2 c) n2 (PX ++ (L.map decS).take j)) (fun _ i _ => 4 - (intOf i).toNat)
          case atStart => exact ⟨0, n, c, a, by omega, rfl, rfl, rfl, by rw [List.take_zero, List.append_nil]; exact M.out⟩
          case round =>
            obtain ⟨j, n2, c, a, hj, rfl, rfl, hn2, hmk⟩ := hrel
            have HN2 := hid hn2
            have hn2b : n2 ≤ 100 := by omega
            clear hn2
            have MM := hid hmk
            have VV := hid (V2.out.below hmk.2)
            have ca := hmk.1.caps
            have ca1 := ca.2.1
            have ca2 := ca.2.2
            clear hmk ca M VR
            by_cases hjt : j < 4
            · have cxx := HCE.out wr j VV.out hjt
              have HS4 : Hid (PX ++ (L.map decS).take (j + 1) = (PX ++ (L.map decS).take j) ++ [decS (L.getD j 0)]) := by unfold Hid; rw [map_take L j (by rw [HLN.out]; exact hjt), List.append_assoc]
              have HXX := hid (HX.out j hjt)
              generalize L.getD j 0 = x at *
              obtain ⟨S, hS⟩ : ∃ S, decS x = S := ⟨_, rfl⟩
              rw [hS] at HS4
              have HSS := hid hS
              clear hS
              go_wp2_with (first | (at_builtin; have kill := M1.out; refine T.app_row (l2 := [S]) M1.out.1 R1.out Q1.out (fun e => by cases e) M1.out.2.size (by omega) rfl _ _ rfl rfl rfl ?_; intro a5 c5 w5 r5 t5; have D5 := hid (M1.out.next r5 t5); clear r5 t5 kill M1) | (go_at_call 22; have kill := HXX.out; refine (dec22b x _ HXX.out.1 HXX.out.2).mono ?_; rintro e w4 ⟨rfl, l4⟩; rw [HSS.out]; have M1 : Hid (T.Mk w2 (w4.alloc (.cells #[.string S] 9)) (.slice a n2 c) n2 (PX ++ (L.map decS).take j)) := (MM.out.more l4).more (bel1 _ _); have R1 := hid (T.one_row w4 S); have Q1 := hid (T.len1 S); clear l4 kill HXX))
              go_roundw
              case rel => exact ⟨j + 1, n2 + 1, c5, a5, by omega, by go_num, rfl, (by have := HN2.out; omega), by rw [HS4.out]; exact D5.out⟩
              case measure => simp [intOf]; omega
            · have hall : (L.map decS).take j = L.map decS := List.take_of_length_le (by rw [List.length_map, HLN.out]; omega)
              rw [hall, ← HS3.out] at MM
              clear hall
              go_wp2
              go_roundw
              case rel => exact ⟨k + 1, n2, c, a, by omega, by go_num, rfl, (by have := HN2.out; omega), MM.out⟩
              case measure => simp [intOf]; omega
        · have hcf : (l[k].toNat : Int) = 114 := by rw [hcc, e]; rfl
          have F4 : Hid ((m.cells.drop 9).take 4 = c4 m.j0 m.j1 m.j2 m.j3) := rfl
          obtain ⟨L, hL⟩ : ∃ L, [m.j0, m.j1, m.j2, m.j3] = L := ⟨_, rfl⟩
          have HS3 : Hid (C :: (H.take (k + 1)).flatMap (putF m) = PX ++ L.map decS) := by unfold Hid; rw [HS2.out, e, put_row (L := L) (by omega) (by rw [← hL]; rfl)]
          have HX : Hid (∀ j, j < 4 → 0 ≤ L.getD j 0 ∧ L.getD j 0 ≤ 2147483647) := fun j hj => by
            have h := HFR.out
            rw [e] at h
            refine right_in (by omega) h _ ?_
            have : numsF m 5 = L := by rw [← hL]; rfl
            rw [this]
            exact getD_mem (by rw [← hL]; exact hj)
          have HLN : Hid (L.length = 4) := by unfold Hid; rw [← hL]; rfl
          have HCE : Hid (∀ w j, RV w b1 m → j < 4 → w.cell? ⟨b1, 9 + j, none⟩ = some (.int .i64 (L.getD j 0))) := fun w j hv hj => by
            rw [← hL]; exact hv.cells4 9 F4.out j hj
          have HNN : Hid (∀ w, Calls Tryd.prog 23 #[.pointer (some ⟨b1, 0, none⟩), .int .u8 114] w fun e w' => e = .returned (.tuple #[.pointer (some ⟨b1, 9, none⟩), .int .i64 (mostF 5)]) ∧ w = w') := fun w => notes23 b1 114 w (by omega)
          clear hcc HS2 e HFM HFT HFR hL F4
          go_wp2_with (first | (go_at_call 23; refine (HNN.out _).mono ?_; rintro e w3 ⟨rfl, rfl⟩))
          generalize wr = wa at *
          go_loopw [7, 11] (fun x i wr => ∃ (j n2 c : Nat) (a : Option Addr), j ≤ 4 ∧ i = .int .i64 (j : Int) ∧ x = .slice a n2 c ∧ n2 = n + j ∧ T.Mk w2 wr (.slice a n2 c) n2 (PX ++ (L.map decS).take j)) (fun _ i _ => 4 - (intOf i).toNat)
          case atStart => exact ⟨0, n, c, a, by omega, rfl, rfl, rfl, by rw [List.take_zero, List.append_nil]; exact M.out⟩
          case round =>
            obtain ⟨j, n2, c, a, hj, rfl, rfl, hn2, hmk⟩ := hrel
            have HN2 := hid hn2
            have hn2b : n2 ≤ 100 := by omega
            clear hn2
            have MM := hid hmk
            have VV := hid (V2.out.below hmk.2)
            have ca := hmk.1.caps
            have ca1 := ca.2.1
            have ca2 := ca.2.2
            clear hmk ca M VR
            by_cases hjt : j < 4
            · have cxx := HCE.out wr j VV.out hjt
              have HS4 : Hid (PX ++ (L.map decS).take (j + 1) = (PX ++ (L.map decS).take j) ++ [decS (L.getD j 0)]) := by unfold Hid; rw [map_take L j (by rw [HLN.out]; exact hjt), List.append_assoc]
              have HXX := hid (HX.out j hjt)
              generalize L.getD j 0 = x at *
              obtain ⟨S, hS⟩ : ∃ S, decS x = S := ⟨_, rfl⟩
              rw [hS] at HS4
              have HSS := hid hS
              clear hS
              go_wp2_with (first | (at_builtin; have kill := M1.out; refine T.app_row (l2 := [S]) M1.out.1 R1.out Q1.out (fun e => by cases e) M1.out.2.size (by omega) rfl _ _ rfl rfl rfl ?_; intro a5 c5 w5 r5 t5; have D5 := hid (M1.out.next r5 t5); clear r5 t5 kill M1) | (go_at_call 22; have kill := HXX.out; refine (dec22b x _ HXX.out.1 HXX.out.2).mono ?_; rintro e w4 ⟨rfl, l4⟩; rw [HSS.out]; have M1 : Hid (T.Mk w2 (w4.alloc (.cells #[.string S] 9)) (.slice a n2 c) n2 (PX ++ (L.map decS).take j)) := (MM.out.more l4).more (bel1 _ _); have R1 := hid (T.one_row w4 S); have Q1 := hid (T.len1 S); clear l4 kill HXX))
              go_roundw
              case rel => exact ⟨j + 1, n2 + 1, c5, a5, by omega, by go_num, rfl, (by have := HN2.out; omega), by rw [HS4.out]; exact D5.out⟩
              case measure => simp [intOf]; omega
            · have hall : (L.map decS).take j = L.map decS := List.take_of_length_le (by rw [List.length_map, HLN.out]; omega)
              rw [hall, ← HS3.out] at MM
              clear hall
              go_wp2
              go_roundw
              case rel => exact ⟨k + 1, n2, c, a, by omega, by go_num, rfl, (by have := HN2.out; omega), MM.out⟩
              case measure => simp [intOf]; omega
        · have hcf : (l[k].toNat : Int) = 99 := by rw [hcc, e]; rfl
          have F4 : Hid ((m.cells.drop 13).take 4 = c4 m.c0 m.c1 m.c2 m.c3) := rfl
          obtain ⟨L, hL⟩ : ∃ L, [m.c0, m.c1, m.c2, m.c3] = L := ⟨_, rfl⟩
          have HS3 : Hid (C :: (H.take (k + 1)).flatMap (putF m) = PX ++ L.map decS) := by unfold Hid; rw [HS2.out, e, put_row (L := L) (by omega) (by rw [← hL]; rfl)]
          have HX : Hid (∀ j, j < 4 → 0 ≤ L.getD j 0 ∧ L.getD j 0 ≤ 2147483647) := fun j hj => by
            have h := HFR.out
            rw [e] at h
            refine right_in (by omega) h _ ?_
            have : numsF m 6 = L := by rw [← hL]; rfl
            rw [this]
            exact getD_mem (by rw [← hL]; exact hj)
          have HLN : Hid (L.length = 4) := by unfold Hid; rw [← hL]; rfl
          have HCE : Hid (∀ w j, RV w b1 m → j < 4 → w.cell? ⟨b1, 13 + j, none⟩ = some (.int .i64 (L.getD j 0))) := fun w j hv hj => by
            rw [← hL]; exact hv.cells4 13 F4.out j hj
          have HNN : Hid (∀ w, Calls Tryd.prog 23 #[.pointer (some ⟨b1, 0, none⟩), .int .u8 99] w fun e w' => e = .returned (.tuple #[.pointer (some ⟨b1, 13, none⟩), .int .i64 (mostF 6)]) ∧ w = w') := fun w => notes23 b1 99 w (by omega)
          clear hcc HS2 e HFM HFT HFR hL F4
          go_wp2_with (first | (go_at_call 23; refine (HNN.out _).mono ?_; rintro e w3 ⟨rfl, rfl⟩))
          generalize wr = wa at *
          go_loopw [7, 11] (fun x i wr => ∃ (j n2 c : Nat) (a : Option Addr), j ≤ 4 ∧ i = .int .i64 (j : Int) ∧ x = .slice a n2 c ∧ n2 = n + j ∧ T.Mk w2 wr (.slice a n2 c) n2 (PX ++ (L.map decS).take j)) (fun _ i _ => 4 - (intOf i).toNat)
          case atStart => exact ⟨0, n, c, a, by omega, rfl, rfl, rfl, by rw [List.take_zero, List.append_nil]; exact M.out⟩
          case round =>
            obtain ⟨j, n2, c, a, hj, rfl, rfl, hn2, hmk⟩ := hrel
            have HN2 := hid hn2
            have hn2b : n2 ≤ 100 := by omega
            clear hn2
            have MM := hid hmk
            have VV := hid (V2.out.below hmk.2)
            have ca := hmk.1.caps
            have ca1 := ca.2.1
            have ca2 := ca.2.2
            clear hmk ca M VR
            by_cases hjt : j < 4
            · have cxx := HCE.out wr j VV.out hjt
              have HS4 : Hid (PX ++ (L.map decS).take (j + 1) = (PX ++ (L.map decS).take j) ++ [decS (L.getD j 0)]) := by unfold Hid; rw [map_take L j (by rw [HLN.out]; exact hjt), List.append_assoc]
              have HXX := hid (HX.out j hjt)
              generalize L.getD j 0 = x at *
              obtain ⟨S, hS⟩ : ∃ S, decS x = S := ⟨_, rfl⟩
              rw [hS] at HS4
              have HSS := hid hS
              clear hS
              go_wp2_with (first | (at_builtin; have kill := M1.out; refine T.app_row (l2 := [S]) M1.out.1 R1.out Q1.out (fun e => by cases e) M1.out.2.size (by omega) rfl _ _ rfl rfl rfl ?_; intro a5 c5 w5 r5 t5; have D5 := hid (M1.out.next r5 t5); clear r5 t5 kill M1) | (go_at_call 22; have kill := HXX.out; refine (dec22b x _ HXX.out.1 HXX.out.2).mono ?_; rintro e w4 ⟨rfl, l4⟩; rw [HSS.out]; have M1 : Hid (T.Mk w2 (w4.alloc (.cells #[.string S] 9)) (.slice a n2 c) n2 (PX ++ (L.map decS).take j)) := (MM.out.more l4).more (bel1 _ _); have R1 := hid (T.one_row w4 S); have Q1 := hid (T.len1 S); clear l4 kill HXX))
              go_roundw
              case rel => exact ⟨j + 1, n2 + 1, c5, a5, by omega, by go_num, rfl, (by have := HN2.out; omega), by rw [HS4.out]; exact D5.out⟩
              case measure => simp [intOf]; omega
            · have hall : (L.map decS).take j = L.map decS := List.take_of_length_le (by rw [List.length_map, HLN.out]; omega)
              rw [hall, ← HS3.out] at MM
              clear hall
              go_wp2
              go_roundw
              case rel => exact ⟨k + 1, n2, c, a, by omega, by go_num, rfl, (by have := HN2.out; omega), MM.out⟩
              case measure => simp [intOf]; omega
        · have hcf : (l[k].toNat : Int) = 100 := by rw [hcc, e]; rfl
          have F4 : Hid ((m.cells.drop 17).take 4 = c4 m.d0 m.d1 m.d2 m.d3) := rfl
          obtain ⟨L, hL⟩ : ∃ L, [m.d0, m.d1, m.d2, m.d3] = L := ⟨_, rfl⟩
          have HS3 : Hid (C :: (H.take (k + 1)).flatMap (putF m) = PX ++ L.map decS) := by unfold Hid; rw [HS2.out, e, put_row (L := L) (by omega) (by rw [← hL]; rfl)]
          have HX : Hid (∀ j, j < 4 → 0 ≤ L.getD j 0 ∧ L.getD j 0 ≤ 2147483647) := fun j hj => by
            have h := HFR.out
            rw [e] at h
            refine right_in (by omega) h _ ?_
            have : numsF m 7 = L := by rw [← hL]; rfl
            rw [this]
            exact getD_mem (by rw [← hL]; exact hj)
          have HLN : Hid (L.length = 4) := by unfold Hid; rw [← hL]; rfl
          have HCE : Hid (∀ w j, RV w b1 m → j < 4 → w.cell? ⟨b1, 17 + j, none⟩ = some (.int .i64 (L.getD j 0))) := fun w j hv hj => by
            rw [← hL]; exact hv.cells4 17 F4.out j hj
          have HNN : Hid (∀ w, Calls Tryd.prog 23 #[.pointer (some ⟨b1, 0, none⟩), .int .u8 100] w fun e w' => e = .returned (.tuple #[.pointer (some ⟨b1, 17, none⟩), .int .i64 (mostF 7)]) ∧ w = w') := fun w => notes23 b1 100 w (by omega)
          clear hcc HS2 e HFM HFT HFR hL F4
          go_wp2_with (first | (go_at_call 23; refine (HNN.out _).mono ?_; rintro e w3 ⟨rfl, rfl⟩))
          generalize wr = wa at *
          go_loopw [7, 11] (fun x i wr => ∃ (j n2 c : Nat) (a : Option Addr), j ≤ 4 ∧ i = .int .i64 (j : Int) ∧ x = .slice a n2 c ∧ n2 = n + j ∧ T.Mk w2 wr (.slice a n2 c) n2 (PX ++ (L.map decS).take j)) (fun _ i _ => 4 - (intOf i).toNat)
          case atStart => exact ⟨0, n, c, a, by omega, rfl, rfl, rfl, by rw [List.take_zero, List.append_nil]; exact M.out⟩
          case round =>
            obtain ⟨j, n2, c, a, hj, rfl, rfl, hn2, hmk⟩ := hrel
            have HN2 := hid hn2
            have hn2b : n2 ≤ 100 := by omega
            clear hn2
            have MM := hid hmk
            have VV := hid (V2.out.below hmk.2)
            have ca := hmk.1.caps
            have ca1 := ca.2.1
            have ca2 := ca.2.2
            clear hmk ca M VR
            by_cases hjt : j < 4
            · have cxx := HCE.out wr j VV.out hjt
              have HS4 : Hid (PX ++ (L.map decS).take (j + 1) = (PX ++ (L.map decS).take j) ++ [decS (L.getD j 0)]) := by unfold Hid; rw [map_take L j (by rw [HLN.out]; exact hjt), List.append_assoc]
              have HXX := hid (HX.out j hjt)
              generalize L.getD j 0 = x at *
              obtain ⟨S, hS⟩ : ∃ S, decS x = S := ⟨_, rfl⟩
              rw [hS] at HS4
              have HSS := hid hS
              clear hS
              go_wp2_with (first | (at_builtin; have kill := M1.out; refine T.app_row (l2 := [S]) M1.out.1 R1.out Q1.out (fun e => by cases e) M1.out.2.size (by omega) rfl _ _ rfl rfl rfl ?_; intro a5 c5 w5 r5 t5; have D5 := hid (M1.out.next r5 t5); clear r5 t5 kill M1) | (go_at_call 22; have kill := HXX.out; refine (dec22b x _ HXX.out.1 HXX.out.2).mono ?_; rintro e w4 ⟨rfl, l4⟩; rw [HSS.out]; have M1 : Hid (T.Mk w2 (w4.alloc (.cells #[.string S] 9)) (.slice a n2 c) n2 (PX ++ (L.map decS).take j)) := (MM.out.more l4).more (bel1 _ _); have R1 := hid (T.one_row w4 S); have Q1 := hid (T.len1 S); clear l4 kill HXX))
              go_roundw
              case rel => exact ⟨j + 1, n2 + 1, c5, a5, by omega, by go_num, rfl, (by have := HN2.out; omega), by rw [HS4.out]; exact D5.out⟩
              case measure => simp [intOf]; omega
            · have hall : (L.map decS).take j = L.map decS := List.take_of_length_le (by rw [List.length_map, HLN.out]; omega)
              rw [hall, ← HS3.out] at MM
              clear hall
              go_wp2
              go_roundw
              case rel => exact ⟨k + 1, n2, c, a, by omega, by go_num, rfl, (by have := HN2.out; omega), MM.out⟩
              case measure => simp [intOf]; omega
        · have hcf : (l[k].toNat : Int) = 108 := by rw [hcc, e]; rfl
          obtain ⟨x, hx⟩ : ∃ x, m.loads = x := ⟨_, rfl⟩
          obtain ⟨S, hS⟩ : ∃ S, decS x = S := ⟨_, rfl⟩
          have HS3 : Hid (C :: (H.take (k + 1)).flatMap (putF m) = PX ++ [S]) := by unfold Hid; rw [HS2.out, e, put_one (x := x) (by omega) (by rw [← hx]; rfl), hS]
          have HX : Hid (0 ≤ x ∧ x ≤ 2147483647) := by
            have h := HFR.out
            rw [e] at h
            exact right_in (by omega) h x (by rw [← hx]; exact List.mem_singleton.2 rfl)
          have HSS := hid hS
          have cxx : wr.cell? ⟨b1, 21, none⟩ = some (.int .i64 m.loads) := VR.out.cell 21 rfl
          rw [hx] at cxx
          skip
          clear hcc HS2 e HFM HFT HFR hS hx
          go_wp2_with (first | (at_builtin; have kill := M1.out; refine T.app_row (l2 := [S]) M1.out.1 R1.out Q1.out (fun e => by cases e) M1.out.2.size (by omega) rfl _ _ rfl rfl rfl ?_; intro a5 c5 w5 r5 t5; have D5 := hid (M1.out.next r5 t5); clear r5 t5 kill M1) | (go_at_call 22; have kill := HX.out; refine (dec22b x _ HX.out.1 HX.out.2).mono ?_; rintro e w4 ⟨rfl, l4⟩; rw [HSS.out]; have M1 : Hid (T.Mk w2 (w4.alloc (.cells #[.string S] 9)) (.slice a n c) n PX) := (M.out.more l4).more (bel1 _ _); have R1 := hid (T.one_row w4 S); have Q1 := hid (T.len1 S); clear l4 kill HX))
          go_roundw
          case rel => exact ⟨k + 1, n + 1, c5, a5, by omega, by go_num, rfl, by omega, by rw [HS3.out]; exact D5.out⟩
          case measure => simp [intOf]; omega
        · have hcf : (l[k].toNat : Int) = 109 := by rw [hcc, e]; rfl
          have F4 : Hid ((m.cells.drop 22).take 4 = c4 m.l0 m.l1 m.l2 m.l3) := rfl
          obtain ⟨L, hL⟩ : ∃ L, [m.l0, m.l1, m.l2, m.l3] = L := ⟨_, rfl⟩
          have HS3 : Hid (C :: (H.take (k + 1)).flatMap (putF m) = PX ++ L.map decS) := by unfold Hid; rw [HS2.out, e, put_row (L := L) (by omega) (by rw [← hL]; rfl)]
          have HX : Hid (∀ j, j < 4 → 0 ≤ L.getD j 0 ∧ L.getD j 0 ≤ 2147483647) := fun j hj => by
            have h := HFR.out
            rw [e] at h
            refine right_in (by omega) h _ ?_
            have : numsF m 9 = L := by rw [← hL]; rfl
            rw [this]
            exact getD_mem (by rw [← hL]; exact hj)
          have HLN : Hid (L.length = 4) := by unfold Hid; rw [← hL]; rfl
          have HCE : Hid (∀ w j, RV w b1 m → j < 4 → w.cell? ⟨b1, 22 + j, none⟩ = some (.int .i64 (L.getD j 0))) := fun w j hv hj => by
            rw [← hL]; exact hv.cells4 22 F4.out j hj
          have HNN : Hid (∀ w, Calls Tryd.prog 23 #[.pointer (some ⟨b1, 0, none⟩), .int .u8 109] w fun e w' => e = .returned (.tuple #[.pointer (some ⟨b1, 22, none⟩), .int .i64 (mostF 9)]) ∧ w = w') := fun w => notes23 b1 109 w (by omega)
          clear hcc HS2 e HFM HFT HFR hL F4
          go_wp2_with (first | (go_at_call 23; refine (HNN.out _).mono ?_; rintro e w3 ⟨rfl, rfl⟩))
          generalize wr = wa at *
          go_loopw [7, 11] (fun x i wr => ∃ (j n2 c : Nat) (a : Option Addr), j ≤ 4 ∧ i = .int .i64 (j : Int) ∧ x = .slice a n2 c ∧ n2 = n + j ∧ T.Mk w2 wr (.slice a n2 c) n2 (PX ++ (L.map decS).take j)) (fun _ i _ => 4 - (intOf i).toNat)
          case atStart => exact ⟨0, n, c, a, by omega, rfl, rfl, rfl, by rw [List.take_zero, List.append_nil]; exact M.out⟩
          case round =>
            obtain ⟨j, n2, c, a, hj, rfl, rfl, hn2, hmk⟩ := hrel
            have HN2 := hid hn2
            have hn2b : n2 ≤ 100 := by omega
            clear hn2
            have MM := hid hmk
            have VV := hid (V2.out.below hmk.2)
            have ca := hmk.1.caps
            have ca1 := ca.2.1
            have ca2 := ca.2.2
            clear hmk ca M VR
            by_cases hjt : j < 4
            · have cxx := HCE.out wr j VV.out hjt
              have HS4 : Hid (PX ++ (L.map decS).take (j + 1) = (PX ++ (L.map decS).take j) ++ [decS (L.getD j 0)]) := by unfold Hid; rw [map_take L j (by rw [HLN.out]; exact hjt), List.append_assoc]
              have HXX := hid (HX.out j hjt)
              generalize L.getD j 0 = x at *
              obtain ⟨S, hS⟩ : ∃ S, decS x = S := ⟨_, rfl⟩
              rw [hS] at HS4
              have HSS := hid hS
              clear hS
              go_wp2_with (first | (at_builtin; have kill := M1.out; refine T.app_row (l2 := [S]) M1.out.1 R1.out Q1.out (fun e => by cases e) M1.out.2.size (by omega) rfl _ _ rfl rfl rfl ?_; intro a5 c5 w5 r5 t5; have D5 := hid (M1.out.next r5 t5); clear r5 t5 kill M1) | (go_at_call 22; have kill := HXX.out; refine (dec22b x _ HXX.out.1 HXX.out.2).mono ?_; rintro e w4 ⟨rfl, l4⟩; rw [HSS.out]; have M1 : Hid (T.Mk w2 (w4.alloc (.cells #[.string S] 9)) (.slice a n2 c) n2 (PX ++ (L.map decS).take j)) := (MM.out.more l4).more (bel1 _ _); have R1 := hid (T.one_row w4 S); have Q1 := hid (T.len1 S); clear l4 kill HXX))
              go_roundw
              case rel => exact ⟨j + 1, n2 + 1, c5, a5, by omega, by go_num, rfl, (by have := HN2.out; omega), by rw [HS4.out]; exact D5.out⟩
              case measure => simp [intOf]; omega
            · have hall : (L.map decS).take j = L.map decS := List.take_of_length_le (by rw [List.length_map, HLN.out]; omega)
              rw [hall, ← HS3.out] at MM
              clear hall
              go_wp2
              go_roundw
              case rel => exact ⟨k + 1, n2, c, a, by omega, by go_num, rfl, (by have := HN2.out; omega), MM.out⟩
              case measure => simp [intOf]; omega
      · have hall : H.take k = H := List.take_of_length_le (by rw [← HLL.out]; omega)
        rw [hall, ← HPL.out] at M
        clear hall
        go_wp2_with (go_at_call 24; have kill := M.out; refine (join16 _ _ _ (partsL m) _ (M.out.given HTX.out) (by have := HPN.out; rw [M.out.1.len] at this; omega) HSZ.out).mono ?_; rintro e w4 ⟨a4, n4, c4, rfl, m4⟩; have M4 := hid (Mk.late (sq L2.out M.out.2) m4); clear m4 kill M)
        go_ret2
        exact pt_yes HR.out M4.out
end Go.Proofs.YtbipikbefokihaaDoor
