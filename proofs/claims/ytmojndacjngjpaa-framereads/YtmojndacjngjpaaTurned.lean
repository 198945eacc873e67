/- FrameTurned: a record of which one bit is turned is none. For every input. -/
import Derived.Test.YtmojndacjngjpaaKnown
namespace Go.Proofs.Ytmojndacjngjpaa
open Go.ChangeShapes Go.WideShapes Go.ChangeAt Go.RowKit

theorem Mk.set {W0 w : World} {ao : Option Addr} {n cap : Nat} {l : List Int} (h : Mk W0 w (.slice ao n cap) n l) (hb : Byt l) (i : Nat) (hi : i < n) : ∃ g, ao = some ⟨g, 0, none⟩ ∧ w.cell? ⟨g, i, none⟩ = some (.int .u8 (l.getD i 0)) ∧ w.frozen? ⟨g, i, none⟩ = false ∧
    ∀ y, 0 ≤ y ∧ y < 256 → Given (w.setCell ⟨g, i, none⟩ (.int .u8 y)) ao n cap (l.set i y) ∧ Below W0.heap.size W0 (w.setCell ⟨g, i, none⟩ (.int .u8 y)) := by
  have hlen := h.1.len
  have hG := h.given hb
  have hat := h.1.at
  rcases h.1.2 with ⟨e, h0⟩ | ⟨g, cap', cur, e, hg, hc, h1, h2, h3, h4⟩
  · omega
  · cases e
    have hcell : ∀ j, j < n → w.cell? ⟨g, j, none⟩ = some (.int .u8 (l.getD j 0)) := by
      intro j hj
      rcases hat with h0 | ⟨b, o, he, hcl⟩
      · rw [h0] at hlen; simp at hlen; omega
      · cases he; have := hcl j (by omega); rwa [Nat.zero_add] at this
    refine ⟨g, rfl, hcell i hi, froz_of_head hc i, fun y hy => ⟨⟨by rw [List.length_set]; exact hlen, byt_set hb hy, .inr ⟨g, 0, rfl, fun j hj => ?_⟩, hG.cap1, hG.cap2⟩, h.2.setCell hg _⟩⟩
    rw [List.length_set] at hj
    rw [Nat.zero_add]
    by_cases e : i = j
    · subst e
      rw [World.cell?_setCell_same _ _ _ (hcell i hi), getD_set_eq (by omega)]
    · rw [World.cell?_setCell_other _ _ _ _ (fun h => e (by cases h; rfl)), getD_set_ne e]
      exact hcell j (by omega)
theorem shl8 (z : Int) (h0 : 0 ≤ z) (h1 : z < 8) : ∃ s, (2 : Int) ^ z.toNat % 256 = s ∧ 1 ≤ s ∧ s < 256 := by
  have h : z = 0 ∨ z = 1 ∨ z = 2 ∨ z = 3 ∨ z = 4 ∨ z = 5 ∨ z = 6 ∨ z = 7 := by omega
  rcases h with rfl | rfl | rfl | rfl | rfl | rfl | rfl | rfl <;> exact ⟨_, rfl, by decide⟩
theorem xor_nat8 (a b : Nat) (ha : a < 256) (hb : b < 256) : bits .xor .u8 (a : Int) (b : Int) = ((a ^^^ b : Nat) : Int) ∧ a ^^^ b < 256 := by
  have hx : a ^^^ b < 2 ^ 8 := Nat.xor_lt_two_pow (by omega) (by omega)
  have h1 : (BitVec.ofInt 8 (a : Int)).toNat = a := by
    rw [BitVec.ofInt_natCast, BitVec.toNat_ofNat]; exact Nat.mod_eq_of_lt (by omega)
  have h2 : (BitVec.ofInt 8 (b : Int)).toNat = b := by
    rw [BitVec.ofInt_natCast, BitVec.toNat_ofNat]; exact Nat.mod_eq_of_lt (by omega)
  refine ⟨?_, hx⟩
  show IntKind.u8.wrap ((BitVec.ofInt 8 (a : Int) ^^^ BitVec.ofInt 8 (b : Int)).toNat : Int) = _
  rw [BitVec.toNat_xor, h1, h2, IntKind.wrap_u8]
  omega
theorem xor8 {x s : Int} (hx : 0 ≤ x ∧ x < 256) (hs : 0 ≤ s ∧ s < 256) : (0 ≤ bits .xor .u8 x s ∧ bits .xor .u8 x s < 256) ∧ (1 ≤ s → ¬ bits .xor .u8 x s = x) := by
  obtain ⟨a, rfl⟩ : ∃ a : Nat, x = a := ⟨x.toNat, by omega⟩
  obtain ⟨b, rfl⟩ : ∃ b : Nat, s = b := ⟨s.toNat, by omega⟩
  obtain ⟨h1, h2⟩ := xor_nat8 a b (by omega) (by omega)
  rw [h1]
  refine ⟨by omega, fun hb e => ?_⟩
  have e' : a ^^^ b = a := by omega
  have : b = 0 := by
    have := congrArg (a ^^^ ·) e'
    simpa [← Nat.xor_assoc] using this
  omega
set_option maxHeartbeats 2000000 in
theorem turned_walk (d k s m t : Int) (w : World) (hd : 0 ≤ d ∧ d < 256) (hk : 0 ≤ k ∧ k < 256) (hs : 0 ≤ s ∧ s < 256) (hm : 0 ≤ m ∧ m < 65536) (ht : 0 ≤ t ∧ t < 65536) :
    Calls Try.prog 5 #[.int .u8 d, .int .u8 k, .int .u8 s, .int .u16 m, .int .u16 t] w fun e w' => e = .returned (.bool true) ∧ Below w.heap.size w w' := by
  obtain ⟨r, hr⟩ : ∃ r, seatR d k s m = r := ⟨_, rfl⟩
  have HR := hid hr
  have HT : Hid (rightB r = true) := by unfold Hid; rw [← hr]; exact seat_right hk.1 hk.2 hs.1 hs.2
  have HO : Hid r.Ok := by unfold Hid; rw [← hr]; exact seat_ok
  obtain ⟨n, hn⟩ : ∃ n, 42 + r.pan.size = n := ⟨_, rfl⟩
  have HN := hid hn
  have hp := (rt_of HT.out).size
  have hn1 : n ≤ 61 := by omega
  have hn2 : 42 ≤ n := by omega
  have HLN : Hid ((putL r).length = n) := by unfold Hid; rw [putL_len, hn]
  have HBY : Hid (Byt (putL r)) := hid (putL_byt hp)
  obtain ⟨q, hq, q0, q1⟩ : ∃ q, t / 8 = q ∧ 0 ≤ q ∧ q < 8192 := ⟨_, rfl, by omega, by omega⟩
  obtain ⟨i, hi⟩ : ∃ i : Nat, q % (n : Int) = (i : Int) := ⟨(q % (n : Int)).toNat, by have := Int.emod_nonneg q (b := (n : Int)) (by omega); omega⟩
  have hin : i < n := by have := Int.emod_lt_of_pos q (b := (n : Int)) (by omega); omega
  have hi' : q.tmod (n : Int) = (i : Int) := by rw [Int.tmod_eq_emod_of_nonneg q0, hi]
  obtain ⟨z, hz, z0, z1⟩ : ∃ z, t % 8 = z ∧ 0 ≤ z ∧ z < 8 := ⟨_, rfl, by omega, by omega⟩
  obtain ⟨sh, ksh, sh0, sh1⟩ := shl8 z z0 z1
  obtain ⟨x, hx⟩ : ∃ x, (putL r).getD i 0 = x := ⟨_, rfl⟩
  have hxb := byt_getD HBY.out i
  rw [hx] at hxb
  obtain ⟨y, hy⟩ : ∃ y, bits .xor .u8 x sh = y := ⟨_, rfl⟩
  have hyb := xor8 (s := sh) hxb (by omega)
  rw [hy] at hyb
  have HY := hid hyb.1
  have HNE : Hid (¬ errX ((putL r).set i y) = 0) := hid (turned HT.out i y (by rw [HLN.out]; exact hin) hyb.1 (by rw [hx]; exact hyb.2 sh0))
  obtain ⟨er, her⟩ : ∃ er, errX ((putL r).set i y) = er := ⟨_, rfl⟩
  have HLX : Hid (lenX ((putL r).set i y) = 0) := hid (len_none HNE.out)
  have hne : ¬ er = 0 := by rw [← her]; exact HNE.out
  have hne2 : (er != 0) = true := by simp [hne]
  have HER := hid her
  have HXX := hid hx
  obtain ⟨d0, d1⟩ := hd
  obtain ⟨k0, k1⟩ := hk
  obtain ⟨s0, s1⟩ := hs
  obtain ⟨m0, m1⟩ := hm
  obtain ⟨t0, t1⟩ := ht
  have e1 : t.tdiv 8 = q := by rw [Int.tdiv_eq_ediv_of_nonneg t0, hq]
  have e2 : IntKind.u16.wrap q = q := by rw [IntKind.wrap_u16]; omega
  have e3 : wrap64 q = q := by have := IntKind.wrap_i64 q; unfold wrap64; omega
  have e4 : t.tmod 8 = z := by rw [Int.tmod_eq_emod_of_nonneg t0, hz]
  have e5 : IntKind.u16.wrap z = z := by rw [IntKind.wrap_u16]; omega
  have e6 : (i : Int).toNat = i := by omega
  have j1 : (0 : Int) ≤ (i : Int) := by omega
  have j2 : (i : Int) < (n : Int) := by omega
  have j3 : ¬ (n : Int) = 0 := by omega
  have j4 : ¬ n = 0 := by omega
  clear hr hn hp her hx hyb hxb HNE
  go_enter Try.func5, Try.ntmps5
  go_wp2_with (first | (go_at_call 14; refine (read_any (S3.out y HY.out).1).mono ?_; rintro e w4 ⟨rfl, l4⟩; rw [HER.out, HLX.out]; have L4 := hid (sq (sq L2.out (S3.out y HY.out).2) l4); clear l4) | (go_at_call 10; refine (put_yes r _ HT.out HO.out n HN.out).mono ?_; rintro e w3 ⟨ao3, cap3, rfl, d3⟩; obtain ⟨g, rfl, c3, f3, s3⟩ := d3.set HBY.out i hin; rw [HXX.out] at c3; have S3 := hid s3; clear d3 s3) | (go_at_call 9; refine (rec9 d k s m _ d0 d1 k0 k1 s0 s1 m0 m1).mono ?_; rintro e w2 ⟨rfl, l2⟩; rw [HR.out]; have L2 := hid (sq L1.out l2); clear l2) | (go_at_call 8; refine (known8 _).mono ?_; rintro e w1 ⟨rfl, l1⟩; have L1 := hid l1; clear l1) | (refine st29 (r := recX ((putL r).set i y)) V5.out L5.out hb5 rfl _ _ rfl rfl rfl ?_; intro w6 v6 l6; have L6 := hid (sq L4.out l6); clear v6 l6) | (refine al29 rfl rfl ?_; intro b5 w5 hb5 v5 l5; have V5 := hid v5; have L5 := hid l5; clear v5 l5))
  go_ret
  exact ⟨rfl, L6.out⟩
theorem frameTurned_own : ownKnob Try.prog.godebug = none := by kernel_rfl
theorem frameTurned_laid : laidOutB Try.prog = true := by kernel_rfl

set_option maxRecDepth 100000 in
theorem frameTurned_lifted (os : Os) (started : os.Started) (H : Type) (enc : TypeId × Value → H) :
    ReturnsInHanded {} Try.checked os 5 .any (Rows.frameTurnedSpec.pre6 enc Try.prog Try.f5 Rows.frameTurnedRow.domain false) (Rows.frameTurnedSpec.post enc Try.prog Try.f5 false true false false) := by
  refine returnsInHanded_of_change (C := Try.checked) frameTurned_own started (by kernel_rfl) Try.func5
    (ChangeSpec.witness6 (enc := enc) (C := Try.checked) false ⟨#[], #[.int .u8 0, .int .u8 0, .int .u8 0, .int .u16 0, .int .u16 0], []⟩ 8 (by kernel_rfl) (by kernel_rfl) (by kernel_rfl) (by kernel_rfl)) ?_
  intro W base args ds gs before hval0 hW hcnd _
  have hval : ∀ (j : Nat) t v, Try.f5.params[j]? = some t → args[j]? = some v → Value.okWide Try.prog W .any base t v := hval0
  have hW' := hW
  obtain ⟨p, q, hA0, hV, rfl, hfz, hnd⟩ := hW
  have hA : DataW.TrodAll enc Try.prog W 0 (fun _ => true) true Try.f5.params.toList args.toList ds p := hA0
  rw [Try.params5] at hA hval
  obtain ⟨v0, vs0, d0, ds0, p0, q0, hargs, rfl, rfl, h0, r0⟩ := trodAll_cons hA
  obtain ⟨v1, vs1, d1, ds1, p1, q1, rfl, rfl, rfl, h1, r1⟩ := trodAll_cons r0
  obtain ⟨v2, vs2, d2, ds2, p2, q2, rfl, rfl, rfl, h2, r2⟩ := trodAll_cons r1
  obtain ⟨v3, vs3, d3, ds3, p3, q3, rfl, rfl, rfl, h3, r3⟩ := trodAll_cons r2
  obtain ⟨v4, vs4, d4, ds4, p4, q4, rfl, rfl, rfl, h4, r4⟩ := trodAll_cons r3
  obtain ⟨rfl, rfl, rfl⟩ := trodAll_nil r4
  obtain rfl : args = #[v0, v1, v2, v3, v4] := by cases args; simp_all
  obtain ⟨rfl, rfl⟩ := trodVars_none hV
  obtain ⟨a0, rfl, rfl, rfl, w0⟩ := open_int Try.underlying5 (hval 0 5 v0 rfl rfl) h0
  obtain ⟨a1, rfl, rfl, rfl, w1⟩ := open_int Try.underlying5 (hval 1 5 v1 rfl rfl) h1
  obtain ⟨a2, rfl, rfl, rfl, w2⟩ := open_int Try.underlying5 (hval 2 5 v2 rfl rfl) h2
  obtain ⟨a3, rfl, rfl, rfl, w3⟩ := open_int Try.underlying22 (hval 3 22 v3 rfl rfl) h3
  obtain ⟨a4, rfl, rfl, rfl, w4⟩ := open_int Try.underlying22 (hval 4 22 v4 rfl rfl) h4
  clear hA0 hval0
  refine (turned_walk a0 a1 a2 a3 a4 W (by have := bounds_u8 w0; omega) (by have := bounds_u8 w1; omega) (by have := bounds_u8 w2; omega) (by have := bounds_u16 w3; omega) (by have := bounds_u16 w4; omega)).mono fun e W' ⟨he, bel⟩ => ?_
  subst he
  exact ⟨_, rfl, _, _, _, [], _, [], hW', trodAll_mk1 (shut_bool Try.underlying4 _), (trodAll_cons_mk (shut_int Try.underlying5 w0) (trodAll_cons_mk (shut_int Try.underlying5 w1) (trodAll_cons_mk (shut_int Try.underlying5 w2) (trodAll_cons_mk (shut_int Try.underlying22 w3) (trodAll_cons_mk (shut_int Try.underlying22 w4) trodAll_mk0))))), rfl, bel.frame _, fun h => by cases h⟩

theorem frameTurned_over : Rows.frameTurnedRow.holds Try.pinned (OpenSpec.ofChange Rows.frameTurnedSpec) :=
  OpenClaim.holds_of_wide 5 Try.f5 rfl rfl rfl rfl rfl rfl rfl ⟨rfl, rfl, rfl, rfl, rfl⟩ rfl rfl rfl rfl rfl (by kernel_rfl) Try.func5 (by kernel_rfl)
    (of_decide_eq_true (by kernel_rfl)) (by unfold Func.isWrapper; first | (rw [if_pos (by decide +kernel)]; kernel_rfl) | (rw [if_neg (by decide +kernel)]; exact ⟨rfl, rfl⟩))
    (fun os started H enc _ => frameTurned_lifted os started H enc)

/-- The statement. -/
theorem frameTurned_holds : Rows.FrameTurnedSaid := frameTurned_over
#print axioms frameTurned_holds
end Go.Proofs.Ytmojndacjngjpaa
