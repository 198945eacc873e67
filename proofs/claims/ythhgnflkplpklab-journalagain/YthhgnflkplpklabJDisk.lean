/- The journal's calls of its disk: bytes are written from a sector on, the head is settled, another mark is chosen. -/
import Derived.Test.YthhgnflkplpklabJWrite
namespace Go.Proofs.Ythhgnflkplpklab
set_option maxRecDepth 20000
open Go.ChangeShapes Go.WideShapes Go.ChangeAt Go.RowKit
open Dsc (Dk Sec Dat Feet tc hid sq bel1 writeD writeZ syncD errZ stepD reachZ readB)
open Frm (Rc putL rightB bytesL num Given Mk Row RowAt RV al29 st29 ld29)

/-- Bytes in a block of bytes. -/
structure GV (w : World) (ao : Option Addr) (len cap : Nat) (zs : List Int) : Prop where
  giv : Given w ao len cap zs
  far : zs ≠ [] → Far w ao 5
theorem GV.kin {w w' : World} {ao : Option Addr} {len cap : Nat} {zs : List Int} (h : GV w ao len cap zs) (k : Kin w w') : GV w' ao len cap zs := by
  by_cases h0 : zs = []
  · subst h0
    exact ⟨⟨h.giv.leq, h.giv.byt, .inl rfl, h.giv.cap1, h.giv.cap2⟩, fun e => absurd rfl e⟩
  have hf := h.far h0
  refine ⟨Given.more h.giv fun a i e hi => ?_, fun _ => hf.kin k (by decide) (by decide) (by decide) (by decide)⟩
  obtain ⟨c, f, hc⟩ := hf a e
  exact World.cell?_of_block (a := ⟨a.block, a.off + i, none⟩) (k.block _ _ _ _ hc (by decide) (by decide) (by decide) (by decide))
theorem Mk.gv {W0 w : World} {ao : Option Addr} {n cap : Nat} {l : List Int} (h : Mk W0 w (.slice ao n cap) n l) (hb : Frm.Byt l) : GV w ao n cap l := by
  refine ⟨h.given hb, fun hne a e => ?_⟩
  subst e
  rcases h.1.2 with ⟨e, h0⟩ | ⟨g, cap, cur, e, _, hc, _⟩
  · cases e
  · cases e; exact ⟨cur, (0, 0), hc⟩
theorem GV.flat {w : World} {ao : Option Addr} {len cap : Nat} {zs : List Int} (h : GV w ao len cap zs) (hp : 0 < len) : ∃ b o, ao = some ⟨b, o, none⟩ := h.giv.row.some (by rw [h.giv.leq]; exact hp)
theorem GV.sub {w : World} {b o len cap : Nat} {zs : List Int} (h : GV w (some ⟨b, o, none⟩) len cap zs) (k : Nat) (hk : k ≤ len) : GV w (some ⟨b, o + k, none⟩) (len - k) (cap - k) (zs.drop k) := by
  refine ⟨Given.sub h.giv k hk, fun hne a e => ?_⟩
  cases e
  have h0 : zs ≠ [] := fun e => hne (by rw [e]; simp)
  exact h.far h0 ⟨b, o, none⟩ rfl
theorem GV.none {w : World} {ao : Option Addr} {cap : Nat} (hc : cap ≤ 9223372036854775807) : GV w ao 0 cap [] := ⟨⟨rfl, fun x hx => (by cases hx), .inl rfl, by omega, hc⟩, fun e => absurd rfl e⟩
theorem RowAt.of {w : World} {ao : Option Addr} {zs : List Int} (h : RowAt w ao zs) : Dsc.RowOf (Value.int .u8) w ao zs := by
  rcases h with h | ⟨b, o, e, hc⟩
  · exact .inl h
  · refine .inr ⟨b, o, e, fun i x hx => ?_⟩
    obtain ⟨hi, e2⟩ := List.getElem?_eq_some_iff.1 hx
    rw [hc i hi]; simp [hx]
theorem wait_one (d : Dk) (n : Int) (b : List Int) : (writeD d n b).waits.length ≤ d.waits.length + 1 := by
  unfold writeD; split
  · split <;> simp [stepD]
  · omega
section
variable {w0 w : World} {p q : Nat} {d : Dk} {h : Hd} {n : Nat}
/-- What a call of the disk leaves: its disk, and journals as they were. -/
def Left (w0 w w' : World) (p : Nat) (d' : Dk) : Prop := JD w0 w' p d' ∧ Kin w w' ∧ ∀ q h n, LogAt w q p h n → LogAt w' q p h n
theorem Left.jl {w' : World} {d' : Dk} (k : Left w0 w w' p d') (j : JL w0 w p q d h n) : JL w0 w' p q d' h n := ⟨k.1, k.2.2 q h n j.log, j.new⟩
theorem write_jd (j : JD w0 w p d) {ao : Option Addr} {len cap : Nat} {zs : List Int} (g : GV w ao len cap zs) (hmany : d.waits.length ≤ 1000000) (n z : Int) (hz : n = z) :
    Calls Try.prog 40 #[.pointer (some ⟨p, 0, none⟩), .int .i64 z, .slice ao len cap] w fun e w' => e = .returned (.int .i64 (writeZ d n)) ∧ Left w0 w w' p (writeD d n zs) := by
  subst hz
  obtain ⟨sv, wv, hD, hf, hb⟩ := j
  refine (Dsc.write_at n ao cap len zs (dsk_feet hD) g.giv.leq (fun x hx => by have := g.giv.byt x hx; unfold Dsc.Byt; omega) (RowAt.of g.giv.row) (fun hne a e => ?_) hmany).mono ?_
  · obtain ⟨c, f, hc⟩ := g.far hne a e
    exact ⟨(Array.getElem?_eq_some_iff.1 hc).1, not_feet hD hc (by decide) (by decide) (by decide)⟩
  · rintro e w' ⟨rfl, hT, hD'⟩
    exact ⟨rfl, JD.after hf hb hT hD', kin_of hD hT, fun q h n k => k.turned hD hT⟩
theorem sync_jd (j : JD w0 w p d) : Calls Try.prog 50 #[.pointer (some ⟨p, 0, none⟩)] w fun e w' => e = .returned (.int .i64 (errZ (stepD d).down)) ∧ Left w0 w w' p (syncD d) := by
  obtain ⟨sv, wv, hD, hf, hb⟩ := j
  refine (Dsc.sync_any p _ d w (dsk_feet hD)).mono ?_
  rintro e w' ⟨rfl, hT, hD'⟩
  exact ⟨rfl, JD.after hf hb hT hD', kin_of hD hT, fun q h n k => k.turned hD hT⟩
set_option maxHeartbeats 2000000 in
theorem logwrite_any (j : JL w0 w p q d h n) {ao : Option Addr} {len cap : Nat} {zs : List Int} (g : GV w ao len cap zs) (hmany : d.waits.length + len ≤ 900000) (N : Nat) (hN : N ≤ 100000) :
    Calls Try.prog 33 #[.pointer (some ⟨q, 0, none⟩), .int .i64 (N : Int), .slice ao len cap] w fun e w' => e = .returned (.int .i64 (wrP d N zs).1) ∧ JL w0 w' p q (wrP d N zs).2 h n ∧ Kin w w' := by
  have J := hid j
  have G := hid g
  clear j g
  go_enter Try.func33, Try.ntmps33
  go_wp2
  go_loopw [1, 2] (fun i s wr => ∃ (k len2 cap2 : Nat) (ao2 : Option Addr) (d2 : Dk) (zs2 : List Int), k + len2 ≤ len ∧ i = .int .i64 ((N + k : Nat) : Int) ∧ s = .slice ao2 len2 cap2 ∧ GV wr ao2 len2 cap2 zs2 ∧ d2.waits.length + len2 ≤ 900000 ∧ JL w0 wr p q d2 h n ∧ Kin w wr ∧ wrP d N zs = wrP d2 (N + k) zs2) (fun i _ _ => N + len + 1 - (intOf i).toNat)
  case atStart => exact ⟨0, len, cap, ao, d, zs, by omega, rfl, rfl, G.out, hmany, J.out, Kin.refl _, rfl⟩
  case round =>
    obtain ⟨k, len2, cap2, ao2, d2, zs2, hkl, rfl, rfl, g2, hm2, j2, k2, e2⟩ := hrel
    have E2 := hid e2
    have J2 := hid j2
    have G2 := hid g2
    have K2 := hid k2
    have c0 := j2.log.c0
    have hc1 := g2.giv.cap1
    have hc2 := g2.giv.cap2
    have hle := g2.giv.leq
    clear e2 j2 k2
    obtain ⟨z, hz⟩ : ∃ z, N + k = z := ⟨_, rfl⟩
    rw [hz] at E2 ⊢
    by_cases hp : 0 < len2
    · obtain ⟨b, o, rfl⟩ := g2.flat hp
      have hne : zs2 ≠ [] := fun e => by rw [e] at hle; simp at hle; omega
      have HNE := hid hne
      clear g2 hne
      by_cases hw : writeZ d2 (z : Int) = 0
      · have E3 := hid (E2.out.trans (wrP_go HNE.out hw))
        have hwl : (writeD d2 z zs2).waits.length ≤ d2.waits.length + 1 := wait_one _ _ _
        have HW := hid hw
        clear hw
        obtain ⟨m, hm⟩ : ∃ m, min len2 64 = m := ⟨_, rfl⟩
        have emin : min (len2 : Int) 64 = (m : Int) := by omega
        have hm0 : 0 < m := by omega
        by_cases hcm : cap2 = m
        · subst hcm
          have hg : ∀ w', GV w' (some ⟨b, o, none⟩) (len2 - cap2) (cap2 - cap2) (zs2.drop 64) := fun w' => by
            have e1 : len2 - cap2 = 0 := by omega
            rw [e1, List.drop_of_length_le (by omega)]; exact GV.none (by omega)
          have HGV := hid hg
          clear hg
          go_wp2_with (go_at_call 40; refine (write_jd J2.out.disk G2.out (by omega) (z : Int) _ rfl).mono ?_; rintro e w4 ⟨rfl, l4⟩; rw [HW.out]; have L4 := hid l4; clear l4)
          go_roundw
          case rel => exact ⟨k + 1, len2 - cap2, cap2 - cap2, _, writeD d2 z zs2, zs2.drop 64, by omega, by rw [show N + (k + 1) = z + 1 by omega]; go_num, by simp; omega, HGV.out _, by omega, L4.out.jl J2.out, K2.out.trans L4.out.2.1, by rw [show N + (k + 1) = z + 1 by omega]; exact E3.out⟩
          case measure => simp [intOf]; omega
        · have hg : Hid (GV wr (some ⟨b, o + m, none⟩) (len2 - m) (cap2 - m) (zs2.drop 64)) := by
            unfold Hid
            have := G2.out.sub m (by omega)
            have e : zs2.drop m = zs2.drop 64 := by
              by_cases h64 : len2 ≤ 64
              · rw [List.drop_of_length_le (by omega), List.drop_of_length_le (by omega)]
              · rw [show m = 64 by omega]
            rw [e] at this; exact this
          go_wp2_with (go_at_call 40; refine (write_jd J2.out.disk G2.out (by omega) (z : Int) _ rfl).mono ?_; rintro e w4 ⟨rfl, l4⟩; rw [HW.out]; have L4 := hid l4; clear l4)
          go_roundw
          case rel => exact ⟨k + 1, len2 - m, cap2 - m, _, writeD d2 z zs2, zs2.drop 64, by omega, by rw [show N + (k + 1) = z + 1 by omega]; go_num, by simp; constructor <;> (split <;> omega), hg.out.kin L4.out.2.1, by omega, L4.out.jl J2.out, K2.out.trans L4.out.2.1, by rw [show N + (k + 1) = z + 1 by omega]; exact E3.out⟩
          case measure => simp [intOf]; omega
      · have E3 := hid (E2.out.trans (wrP_end HNE.out hw))
        go_wp2_with (go_at_call 40; refine (write_jd J2.out.disk G2.out (by omega) (z : Int) _ rfl).mono ?_; rintro e w4 ⟨rfl, l4⟩; have L4 := hid l4; clear l4)
        go_ret
        rw [E3.out]
        exact ⟨rfl, L4.out.jl J2.out, K2.out.trans L4.out.2.1⟩
    · have h0 : len2 = 0 := by omega
      subst h0
      have e0 : zs2 = [] := List.length_eq_zero_iff.1 hle
      subst e0
      have E3 := hid (E2.out.trans (wrP_nil _ _))
      clear g2
      go_wp2
      go_ret
      rw [E3.out]
      exact ⟨rfl, J2.out, K2.out⟩
end
end Go.Proofs.Ythhgnflkplpklab
