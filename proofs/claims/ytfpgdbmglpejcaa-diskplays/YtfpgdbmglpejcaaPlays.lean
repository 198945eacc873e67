/- For every n and every script the function DiskPlays answers true: any script of writes, syncs, cuts, crashes comes to just the document's disk. -/
import Derived.Test.YtfpgdbmglpejcaaActs
namespace Go.Proofs.Ytfpgdbmglpejcaa
open Go.ChangeShapes Go.WideShapes Go.ChangeAt Go.RowKit

theorem Own2.drew {t u : Ty} {w0 w : World} {p q : Nat} {d c : Dk} (h : Own2 t u w0 w p d q c) : Own2 t u w0 w.drew p d q c := h.more (Below.refl _ _).drew
theorem Own1.drew {t : Ty} {w0 w : World} {p : Nat} {d : Dk} (h : Own1 t w0 w p d) : Own1 t w0 w.drew p d := h.more (Below.refl _ _).drew
/-- The five cells of a variable that holds an act. -/
theorem act_cells {w : World} {X : Nat} {v0 v1 v2 v3 v4 : Value} (h : w.heap[X]? = some (.cells #[v0, v1, v2, v3, v4] 31 (0, 0))) :
    w.cell? ⟨X, 0, none⟩ = some v0 ∧ w.cell? ⟨X, 1, none⟩ = some v1 ∧ w.cell? ⟨X, 2, none⟩ = some v2 ∧ w.cell? ⟨X, 3, none⟩ = some v3 ∧ w.cell? ⟨X, 4, none⟩ = some v4 := by
  refine ⟨?_, ?_, ?_, ?_, ?_⟩ <;> (rw [cell_of_head h]; rfl)
theorem Bys.row {w : World} {v : Value} {s : List Int} (h : Bys w v s) : ∃ ao cap, v = .slice ao s.length cap ∧ RowOf (Value.int .u8) w ao s := by
  rcases h.2 with ⟨rfl, h0⟩ | ⟨g, cap, cur, rfl, _⟩
  · exact ⟨none, 0, by rw [h0], .inl (List.length_eq_zero_iff.1 h0)⟩
  · refine ⟨_, cap, rfl, .inr ⟨g, 0, rfl, fun i x hx => ?_⟩⟩
    have := World.ownsRow.cells h rfl i (.int .u8 x) (by simp [hx])
    rw [Addr.add_mid] at this; exact this

set_option maxRecDepth 20000 in
set_option maxHeartbeats 16000000 in
theorem plays_walk (n : Int) (a1 : Option Addr) (len1 cap1 : Nat) (l : List Act1) (w : World) (hA : InA w a1 len1 l) (h60 : len1 ≤ 60) :
    Calls Try.prog 3 #[.int .i64 n, .slice a1 len1 cap1] w fun e w' => e = .returned (.bool true) ∧ Below w.heap.size w w' := by
  have dl : decide ((60 : Int) < (len1 : Int)) = false := by simp; omega
  have HA := hid hA
  clear hA
  obtain ⟨z, hz⟩ : ∃ z, n.tmod 6 = z := ⟨_, rfl⟩
  go_enter Try.func3, Try.ntmps3
  go_wp2_with (first | (go_at_call 9; refine (own_newR z D3).mono ?_; rintro e w4 ⟨q, rfl, D4⟩; have HD4 := hid D4; clear D4) | (go_at_call 8; refine (own_new z b2).mono ?_; rintro e w3 ⟨p, rfl, D3⟩) | (go_at_call 7; refine (known_any _).mono ?_; rintro e w2 ⟨rfl, b2⟩))
  generalize (min (max z 0) 4096).toNat = m at *
  go_loopw [8] (fun x wr => ∃ (i : Nat) (d c : Dk), i ≤ len1 ∧ x = .int .i64 (i : Int) ∧ Rel d c ∧ d.waits.length ≤ i ∧ Own2 tc tr w wr p d q c) (fun x _ => len1 - (intOf x).toNat)
  case atStart => exact ⟨0, newD m, newD m, by omega, rfl, rel_new m, Nat.le_refl _, HD4.out⟩
  case round =>
    obtain ⟨i, d, c, hi, rfl, hR, hW, hO⟩ := hrel
    have HR := hid hR
    have HW := hid hW
    have HO := hid hO
    have HL0 := hid hO.one.ok.left.1
    clear hR hW hO HD4
    by_cases hlt : i < len1
    · obtain ⟨hlen, hok, hrow⟩ := HA.out
      have hx : l[i]? = some (l[i]'(by omega)) := by simp
      obtain ⟨b, o, rfl, hb, hr⟩ : ∃ b o, a1 = some ⟨b, o, none⟩ ∧ b < w.heap.size ∧ ∀ i x, l[i]? = some x → w.rangeAt b (o + i * 5) x.cells := by
        rcases hrow with rfl | h
        · simp at hlen; omega
        · exact h
      have hxr := hr i _ hx
      have hxo := hok _ (List.mem_of_getElem? hx)
      generalize l[i]'(by omega) = x at *
      obtain ⟨what, s, nn, ba, bl, bc, bb, ka, kl, kc, kk⟩ := x
      have hxw := range_kept hxr (HO.out.bel.block b hb)
      have e0 := hxw 0 _ rfl
      have e1 := hxw 1 _ rfl
      have e2 := hxw 2 _ rfl
      have e3 := hxw 3 _ rfl
      have e4 := hxw 4 _ rfl
      rw [Nat.add_zero] at e0
      have hs255 : s ≤ 255 := hxo.s
      have hn255 : nn ≤ 255 := hxo.n
      have hw255 : what ≤ 255 := hxo.what
      have HB := hid hxo.b
      have HK := hid hxo.k
      have HX := hid hx
      have hbw : b < wr.heap.size := Nat.lt_of_lt_of_le hb HO.out.bel.size
      clear hlen hok hrow hr hxr hxo hxw hx
      simp only at HB HK
      by_cases hB : 100 < bl
      · go_wp2
        go_ret
        exact ⟨rfl, HO.out.bel.alloc HO.out.bel.size _⟩
      · by_cases hK : 60 < kl
        · have dB : decide ((100 : Int) < (bl : Int)) = false := by simp; omega
          go_wp2
          go_ret
          exact ⟨rfl, HO.out.bel.alloc HO.out.bel.size _⟩
        · have dB : decide ((100 : Int) < (bl : Int)) = false := by simp; omega
          have dK : decide ((60 : Int) < (kl : Int)) = false := by simp; omega
          obtain ⟨S8, hS8⟩ : ∃ S8 : Nat, s % 8 = S8 := ⟨_, rfl⟩
          have eS : ((s : Int) % 8) = (S8 : Int) := by omega
          have hS8' : S8 < 8 := by omega
          obtain ⟨W9, hW9⟩ : ∃ W9 : Nat, what % 9 = W9 := ⟨_, rfl⟩
          have hmany : d.waits.length ≤ 1000000 := by have := HW.out; omega
          have HMANY := hid hmany
          have HMANYC : Hid (c.waits.length ≤ 1000000) := by unfold Hid; rw [HR.out.waits]; exact hmany
          clear hB hK hS8 hmany
          by_cases w4 : W9 = 4
          · have eW : ((what : Int) % 9) = 4 := by omega
            clear hW9 w4
            obtain ⟨hz2, hR2⟩ := HR.out.sync HL0.out
            have HR2 := hid hR2
            clear hR2
            go_wp2_with (first | (go_at_call 11; refine (own3_syncR D7).mono ?_; rintro e w8 ⟨rfl, D8⟩) | (go_at_call 10; refine (own3_sync (HO.out.var _)).mono ?_; rintro e w7 ⟨rfl, D7⟩))
            have HDF := hid D8.two
            obtain ⟨k3, sa, scp, k0⟩ := HDF.out.two.look
            rw [HR2.out.down] at k3
            rw [HR2.out.secs] at k0
            clear D8
            go_region_held3 (fun w' => w' = w8.drew) ((rfl)) ((first | (go_at_call 20; refine (own_down HDF.out.drew.one).mono ?_; rintro e w9 ⟨rfl, rfl⟩) | (go_at_call 21; refine (own_sectors HDF.out.drew.one).mono ?_; rintro e w9 ⟨rfl, rfl⟩)))
            go_wp2
            go_roundw
            case rel => exact ⟨i + 1, _, _, by omega, by go_num, HR2.out, by have := syncD_len d; have := HW.out; omega, HDF.out.drew⟩
            case measure => simp [intOf]; omega
          · by_cases w5 : W9 = 5
            · have eW : ((what : Int) % 9) = 5 := by omega
              obtain ⟨rb, hrb⟩ : ∃ rb, readB d ((S8 : Int) - 1) = rb := ⟨_, rfl⟩
              have hrc : readB c ((S8 : Int) - 1) = rb := by rw [HR.out.read, hrb]
              have hre := HR.out.reach ((S8 : Int) - 1)
              have HRB := hid hrb
              have HRC := hid hrc
              have HR2 := HR
              clear hrb hrc hW9 w4 w5
              go_wp2_with (first | (go_at_call 13; refine (own3_readR ((S8 : Int) - 1) D7).mono ?_; rintro e w8 ⟨v8, rfl, y8, b8, D8⟩; rw [HRC.out] at y8; have y7' := y7.below b8; obtain ⟨o7, c7, rfl, r7⟩ := y7'.row; obtain ⟨o8, c8, rfl, r8⟩ := y8.row; have R7 := hid r7; have R8 := hid r8; clear r7 r8 y7 y8 y7') | (go_at_call 12; refine (own3_read ((S8 : Int) - 1) (HO.out.var _)).mono ?_; rintro e w7 ⟨v7, rfl, y7, b7, D7⟩; rw [HRB.out] at y7) | (refine str_list rfl R7.out rfl _ rfl rfl ?_) | (refine str_list rfl R8.out rfl _ rfl rfl ?_))
              have HDF := hid D8.two
              obtain ⟨k3, sa, scp, k0⟩ := HDF.out.two.look
              rw [HR2.out.down] at k3
              rw [HR2.out.secs] at k0
              clear D8
              go_region_held3 (fun w' => w' = w8.drew) ((rfl)) ((first | (go_at_call 20; refine (own_down HDF.out.drew.one).mono ?_; rintro e w9 ⟨rfl, rfl⟩) | (go_at_call 21; refine (own_sectors HDF.out.drew.one).mono ?_; rintro e w9 ⟨rfl, rfl⟩)))
              go_wp2
              go_roundw
              case rel => exact ⟨i + 1, _, _, by omega, by go_num, HR2.out, by have := Nat.zero_le 0; have := HW.out; omega, HDF.out.drew⟩
              case measure => simp [intOf]; omega
            · by_cases w6 : W9 = 6
              · have eW : ((what : Int) % 9) = 6 := by omega
                obtain ⟨rb, hrb⟩ : ∃ rb, readB d ((S8 : Int) - 1) = rb := ⟨_, rfl⟩
                have hrc : readB c ((S8 : Int) - 1) = rb := by rw [HR.out.read, hrb]
                have hre := HR.out.reach ((S8 : Int) - 1)
                have HRB := hid hrb
                have HRC := hid hrc
                have HR2 := HR
                clear hrb hrc hW9 w4 w5 w6
                go_wp2_with (first | (go_at_call 13; refine (own3_readR ((S8 : Int) - 1) D7).mono ?_; rintro e w8 ⟨v8, rfl, y8, b8, D8⟩; rw [HRC.out] at y8; have y7' := y7.below b8; obtain ⟨o7, c7, rfl, r7⟩ := y7'.row; obtain ⟨o8, c8, rfl, r8⟩ := y8.row; have R7 := hid r7; have R8 := hid r8; clear r7 r8 y7 y8 y7') | (go_at_call 12; refine (own3_read ((S8 : Int) - 1) (HO.out.var _)).mono ?_; rintro e w7 ⟨v7, rfl, y7, b7, D7⟩; rw [HRB.out] at y7) | (refine str_list rfl R7.out rfl _ rfl rfl ?_) | (refine str_list rfl R8.out rfl _ rfl rfl ?_))
                have HDF := hid D8.two
                obtain ⟨k3, sa, scp, k0⟩ := HDF.out.two.look
                rw [HR2.out.down] at k3
                rw [HR2.out.secs] at k0
                clear D8
                go_region_held3 (fun w' => w' = w8.drew) ((rfl)) ((first | (go_at_call 20; refine (own_down HDF.out.drew.one).mono ?_; rintro e w9 ⟨rfl, rfl⟩) | (go_at_call 21; refine (own_sectors HDF.out.drew.one).mono ?_; rintro e w9 ⟨rfl, rfl⟩)))
                go_wp2
                go_roundw
                case rel => exact ⟨i + 1, _, _, by omega, by go_num, HR2.out, by have := Nat.zero_le 0; have := HW.out; omega, HDF.out.drew⟩
                case measure => simp [intOf]; omega
              · by_cases w7 : W9 = 7
                · have eW : ((what : Int) % 9) = 7 := by omega
                  clear hW9 w4 w5 w6 w7
                  by_cases w3 : nn % 3 = 0
                  · have e3' : ((nn : Int) % 3) = 0 := by omega
                    obtain ⟨N16, hN16⟩ : ∃ N16 : Nat, nn % 16 = N16 := ⟨_, rfl⟩
                    have eN16 : ((nn : Int) % 16) = (N16 : Int) := by omega
                    have hN16' : N16 < 16 := by omega
                    have HR2 := hid (HR.out.cut ((N16 : Int) - 1))
                    clear w3 hN16
                    go_wp2_with (first | (go_at_call 15; refine (own3_cutR ((N16 : Int) - 1) (by omega) D7).mono ?_; rintro e w8 ⟨rfl, D8⟩) | (go_at_call 14; refine (own3_cut ((N16 : Int) - 1) (by omega) (HO.out.var _)).mono ?_; rintro e w7 ⟨rfl, D7⟩; obtain ⟨x0, x1, x2, x3, x4⟩ := act_cells D7.cell))
                    have HDF := hid D8.two
                    obtain ⟨k3, sa, scp, k0⟩ := HDF.out.two.look
                    rw [HR2.out.down] at k3
                    rw [HR2.out.secs] at k0
                    clear D8
                    go_region_held3 (fun w' => w' = w8.drew) ((rfl)) ((first | (go_at_call 20; refine (own_down HDF.out.drew.one).mono ?_; rintro e w9 ⟨rfl, rfl⟩) | (go_at_call 21; refine (own_sectors HDF.out.drew.one).mono ?_; rintro e w9 ⟨rfl, rfl⟩)))
                    go_wp2
                    go_roundw
                    case rel => exact ⟨i + 1, _, _, by omega, by go_num, HR2.out, by have := cutD_len d ((N16 : Int) - 1); have := HW.out; omega, HDF.out.drew⟩
                    case measure => simp [intOf]; omega
                  · have e3' : ¬ ((nn : Int) % 3) = 0 := by omega
                    have HR2 := HR
                    have D8 := HO.out.var (.cells #[.int .u8 (what : Int), .int .u8 (s : Int), .int .u8 (nn : Int), .slice ba bl bc, .slice ka kl kc] 31)
                    clear w3
                    go_wp2
                    generalize wr.alloc (.cells #[.int .u8 (what : Int), .int .u8 (s : Int), .int .u8 (nn : Int), .slice ba bl bc, .slice ka kl kc] 31) = w8 at *
                    have HDF := hid D8.two
                    obtain ⟨k3, sa, scp, k0⟩ := HDF.out.two.look
                    rw [HR2.out.down] at k3
                    rw [HR2.out.secs] at k0
                    clear D8
                    go_region_held3 (fun w' => w' = w8.drew) ((rfl)) ((first | (go_at_call 20; refine (own_down HDF.out.drew.one).mono ?_; rintro e w9 ⟨rfl, rfl⟩) | (go_at_call 21; refine (own_sectors HDF.out.drew.one).mono ?_; rintro e w9 ⟨rfl, rfl⟩)))
                    go_wp2
                    go_roundw
                    case rel => exact ⟨i + 1, _, _, by omega, by go_num, HR2.out, by have := Nat.zero_le 0; have := HW.out; omega, HDF.out.drew⟩
                    case measure => simp [intOf]; omega
                · by_cases w8 : W9 = 8
                  · have eW : ((what : Int) % 9) = 8 := by omega
                    clear hW9 w4 w5 w6 w7 w8
                    have HR2 := hid (HR.out.reop kk ((nn : Int) - 20))
                    go_wp2_with (first | (go_at_call 17; refine (own3_reopenR ka kc kl kk ((nn : Int) - 20) D7 HK.out).mono ?_; rintro e w8 ⟨rfl, D8⟩) | (go_at_call 16; refine (own3_reopen ka kc kl kk ((nn : Int) - 20) (HO.out.var _) HK.out).mono ?_; rintro e w7 ⟨rfl, D7⟩; obtain ⟨x0, x1, x2, x3, x4⟩ := act_cells D7.cell))
                    have HDF := hid D8.two
                    obtain ⟨k3, sa, scp, k0⟩ := HDF.out.two.look
                    rw [HR2.out.down] at k3
                    rw [HR2.out.secs] at k0
                    clear D8
                    go_region_held3 (fun w' => w' = w8.drew) ((rfl)) ((first | (go_at_call 20; refine (own_down HDF.out.drew.one).mono ?_; rintro e w9 ⟨rfl, rfl⟩) | (go_at_call 21; refine (own_sectors HDF.out.drew.one).mono ?_; rintro e w9 ⟨rfl, rfl⟩)))
                    go_wp2
                    go_roundw
                    case rel => exact ⟨i + 1, _, _, by omega, by go_num, HR2.out, by have := reopD_len d kk ((nn : Int) - 20); have := HW.out; omega, HDF.out.drew⟩
                    case measure => simp [intOf]; omega
                  · have eW : ((what : Int) % 9) = (W9 : Int) := by omega
                    have v4 : ¬ (W9 : Int) = 4 := by omega
                    have v5 : ¬ (W9 : Int) = 5 := by omega
                    have v6 : ¬ (W9 : Int) = 6 := by omega
                    have v7 : ¬ (W9 : Int) = 7 := by omega
                    have v8 : ¬ (W9 : Int) = 8 := by omega
                    clear hW9 w4 w5 w6 w7 w8
                    obtain ⟨hz2, hR2⟩ := HR.out.write HL0.out ((S8 : Int) - 1) bb
                    have HR2 := hid hR2
                    clear hR2
                    go_wp2
                    have DV := hid ((HO.out.var (.cells #[.int .u8 (what : Int), .int .u8 (s : Int), .int .u8 (nn : Int), .slice ba bl bc, .slice ka kl kc] 31)).more (Below.refl _ _).drew)
                    obtain ⟨_, _, _, s3, _⟩ := act_cells DV.out.cell
                    go_region_held3 (fun w' => w'.cell? ⟨wr.heap.size, 3, none⟩ = some (.slice ba bl bc)) ((first | exact y3 | exact x3 | exact s3)) ((first | (go_at_call 19; refine (own3_writeR ((S8 : Int) - 1) ba bc bl bb D7 HB.out HMANYC.out).mono ?_; rintro e w8 ⟨rfl, D8⟩; obtain ⟨_, _, _, y3, _⟩ := act_cells D8.cell) | (go_at_call 18; refine (own3_write ((S8 : Int) - 1) ba bc bl bb DV.out HB.out HMANY.out).mono ?_; rintro e w7 ⟨rfl, D7⟩; obtain ⟨_, _, _, x3, _⟩ := act_cells D7.cell)))
                    go_wp2
                    have HDF := hid D8.two
                    obtain ⟨k3, sa, scp, k0⟩ := HDF.out.two.look
                    rw [HR2.out.down] at k3
                    rw [HR2.out.secs] at k0
                    clear D8
                    go_region_held3 (fun w' => w' = w8.drew) ((rfl)) ((first | (go_at_call 20; refine (own_down HDF.out.drew.one).mono ?_; rintro e w9 ⟨rfl, rfl⟩) | (go_at_call 21; refine (own_sectors HDF.out.drew.one).mono ?_; rintro e w9 ⟨rfl, rfl⟩)))
                    go_wp2
                    go_roundw
                    case rel => exact ⟨i + 1, _, _, by omega, by go_num, HR2.out, by have := writeD_len d ((S8 : Int) - 1) bb; have := HW.out; omega, HDF.out.drew⟩
                    case measure => simp [intOf]; omega
    · have hsz := HO.out.one.ok.size
      have HMANY : Hid (d.waits.length ≤ 1000000) := by have := HW.out; unfold Hid; omega
      go_wp2_with (go_at_call 22; refine (own_clone HO.out.one HMANY.out).mono ?_; rintro e w5 ⟨r, rfl, D5, b5⟩)
      have HO5 := hid D5.one
      have HC5 := hid D5.two
      have HR5 := hid (HO.out.two.more b5)
      clear D5 b5
      generalize wr = wa at *
      go_loopw [16] (fun x wr => ∃ t : Nat, t ≤ d.secs.length ∧ x = .int .i64 (t : Int) ∧ Own1 tc w wr p d ∧ Own1 tr w wr q c ∧ Own1 tc w wr r d) (fun x _ => d.secs.length - (intOf x).toNat)
      case atStart => exact ⟨0, by omega, rfl, HO5.out, HR5.out, HC5.out⟩
      case round =>
        obtain ⟨t, ht, rfl, h1, h2, h3⟩ := hrel
        obtain ⟨_, sa, scp, k0⟩ := h2.look
        rw [HR.out.secs] at k0
        have H1 := hid h1
        have H2 := hid h2
        have H3 := hid h3
        clear h1 h2 h3 HO5 HR5 HC5
        by_cases hts : t < d.secs.length
        · obtain ⟨rb, hrb⟩ : ∃ rb, readB d (t : Int) = rb := ⟨_, rfl⟩
          have hrc : readB c (t : Int) = rb := by rw [HR.out.read, hrb]
          have hre := HR.out.reach (t : Int)
          have HRB := hid hrb
          have HRC := hid hrc
          clear hrb hrc
          go_wp2_with (first | (go_at_call 12; refine (own_read (t : Int) D8).mono ?_; rintro e w9 ⟨v9, rfl, y9, b9, D9⟩; rw [HRB.out] at y9; have y7' := y7.below (sq b8 b9); have y8' := y8.below b9; obtain ⟨o7, c7, rfl, r7⟩ := y7'.row; obtain ⟨o8, c8, rfl, r8⟩ := y8'.row; obtain ⟨o9, c9, rfl, r9⟩ := y9.row; have R7 := hid r7; have R8 := hid r8; have R9 := hid r9; clear r7 r8 r9 y7 y8 y9 y7' y8'; have E7 := hid ((D7.more b8).more b9); have E8 := hid (F8.more b9); have E9 := hid D9) | (go_at_call 13; refine (own_readR (t : Int) (H2.out.more b7)).mono ?_; rintro e w8 ⟨v8, rfl, y8, b8, F8⟩; rw [HRC.out] at y8; have D8 := (H3.out.more b7).more b8) | (go_at_call 12; refine (own_read (t : Int) H1.out).mono ?_; rintro e w7 ⟨v7, rfl, y7, b7, D7⟩; rw [HRB.out] at y7) | (refine str_list rfl R7.out rfl _ rfl rfl ?_) | (refine str_list rfl R8.out rfl _ rfl rfl ?_) | (refine str_list rfl R9.out rfl _ rfl rfl ?_))
          go_roundw
          case rel => exact ⟨t + 1, by omega, by go_num, E7.out, E8.out, E9.out⟩
          case measure => simp [intOf]; omega
        · go_wp2
          go_ret
          exact ⟨rfl, H1.out.bel⟩

set_option maxRecDepth 20000 in
theorem plays_long (n : Int) (a1 : Option Addr) (len1 cap1 : Nat) (w : World) (h : 60 < len1) :
    Calls Try.prog 3 #[.int .i64 n, .slice a1 len1 cap1] w fun e w' => e = .returned (.bool true) ∧ Below w.heap.size w w' := by
  go_enter Try.func3, Try.ntmps3
  go_wp2_with (go_at_call 7; refine (known_any _).mono ?_; rintro e w2 ⟨rfl, b2⟩)
  go_ret
  exact ⟨rfl, b2⟩
theorem plays_all (n : Int) (a1 : Option Addr) (len1 cap1 : Nat) (l : List Act1) (w : World) (_w0 : (Lit.int .i64 n).wf = true) (w1 : InA w a1 len1 l) :
    Calls Try.prog 3 #[.int .i64 n, .slice a1 len1 cap1] w fun e w' => e = .returned (.bool true) ∧ Below w.heap.size w w' := by
  by_cases h : 60 < len1
  · exact plays_long n a1 len1 cap1 w h
  · exact plays_walk n a1 len1 cap1 l w w1 (by omega)
theorem diskPlays_own : ownKnob Try.prog.godebug = none := by kernel_rfl
theorem diskPlays_laid : laidOutB Try.prog = true := by kernel_rfl

set_option maxRecDepth 100000 in
theorem diskPlays_lifted (os : Os) (started : os.Started) (H : Type) (enc : TypeId × Value → H) :
    ReturnsInHanded {} Try.checked os 3 .any (Rows.diskPlaysSpec.pre6 enc Try.prog Try.f3 Rows.diskPlaysRow.domain false) (Rows.diskPlaysSpec.post enc Try.prog Try.f3 false true false false) := by
  refine returnsInHanded_of_change (C := Try.checked) diskPlays_own started (by kernel_rfl) Try.func3
    (ChangeSpec.witness6 (enc := enc) (C := Try.checked) false ⟨#[], #[.int .i64 0, .slice none 0 0], []⟩ 8 (by kernel_rfl) (by kernel_rfl) (by kernel_rfl) (by kernel_rfl)) ?_
  intro W base args ds gs before hval0 hW hcnd _
  have hval : ∀ (j : Nat) t v, Try.f3.params[j]? = some t → args[j]? = some v → Value.okWide Try.prog W .any base t v := hval0
  have hW' := hW
  obtain ⟨p, q, hA0, hV, rfl, hfz, hnd⟩ := hW
  have hA : DataW.TrodAll enc Try.prog W 0 (fun _ => true) true Try.f3.params.toList args.toList ds p := hA0
  rw [Try.params3] at hA hval
  obtain ⟨v0, vs0, d0, ds0, p0, q0, hargs, rfl, rfl, h0, r0⟩ := trodAll_cons hA
  obtain ⟨v1, vs1, d1, ds1, p1, q1, rfl, rfl, rfl, h1, r1⟩ := trodAll_cons r0
  obtain ⟨rfl, rfl, rfl⟩ := trodAll_nil r1
  obtain rfl : args = #[v0, v1] := by cases args; simp_all
  obtain ⟨rfl, rfl⟩ := trodVars_none hV
  obtain ⟨a0, rfl, rfl, rfl, w0⟩ := open_int Try.underlying3 (hval 0 3 v0 rfl rfl) h0
  obtain ⟨x1, y1, z1, rfl⟩ := okWide_slice Try.underlying22 (hval 1 22 v1 rfl rfl)
  have k1 := h1
  have lt1 : ∀ x ∈ p1, x.block < W.heap.size := by obtain ⟨m, hm⟩ := k1; exact DataW.trod_lt m _ _ _ hm
  obtain ⟨a1, len1, cap1, l1, e1, w1⟩ : ∃ a len cap l, Value.slice x1 y1 z1 = .slice a len cap ∧ InA W a len l := by
    obtain ⟨fuel, hf⟩ := h1
    exact open_inA hf
  cases e1
  clear hA0 hval0
  refine (plays_all a0 x1 y1 z1 l1 W w0 w1).mono fun e W' ⟨he, bel⟩ => ?_
  subst he
  exact ⟨_, rfl, _, _, _, [], _, [], hW', trodAll_mk1 (shut_bool Try.underlying4 _), (trodAll_cons_mk (shut_int Try.underlying3 w0) (trodAll_cons_mk (Below.trod diskPlays_laid (by kernel_rfl) (of_decide_eq_true (by kernel_rfl)) k1 bel lt1) trodAll_mk0)), rfl, bel.frame _, fun h => by cases h⟩

theorem diskPlays_over : Rows.diskPlaysRow.holds Try.pinned (OpenSpec.ofChange Rows.diskPlaysSpec) :=
  OpenClaim.holds_of_wide 3 Try.f3 rfl rfl rfl rfl rfl rfl rfl ⟨rfl, rfl, rfl, rfl, rfl⟩ rfl rfl rfl rfl rfl (by kernel_rfl) Try.func3 (by kernel_rfl)
    (of_decide_eq_true (by kernel_rfl)) (by unfold Func.isWrapper; first | (rw [if_pos (by decide +kernel)]; kernel_rfl) | (rw [if_neg (by decide +kernel)]; exact ⟨rfl, rfl⟩))
    (fun os started H enc _ => diskPlays_lifted os started H enc)

/-- The statement. -/
theorem diskPlays_holds : Rows.DiskPlaysSaid := diskPlays_over
#print axioms diskPlays_holds
end Go.Proofs.Ytfpgdbmglpejcaa
