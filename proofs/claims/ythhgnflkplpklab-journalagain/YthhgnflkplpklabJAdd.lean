/- Add and Replace, for callers: what is there behind them. -/
import Derived.Test.YthhgnflkplpklabJLaid
namespace Go.Proofs.Ythhgnflkplpklab
set_option maxRecDepth 20000
open Go.ChangeShapes Go.WideShapes Go.ChangeAt Go.RowKit
open Dsc (Dk Sec Dat Feet tc hid sq bel1 writeD writeZ syncD errZ stepD reachZ readB)
open Frm (Rc putL rightB bytesL num Given Mk Row RowAt RV al29 st29 ld29)

/-- A disk from which a crash leaves the records l or nw. -/
def Cut2 (d : Dk) (l nw : List Rc) : Prop := ∀ s', From d.waits d.secs s' → (∃ c a b, Holds s' c a b l) ∨ (∃ c a b, Holds s' c a b nw)
/-- What a call answers that lays records, l the old ones, nw the new ones. -/
def Out (w0 w' : World) (p q : Nat) (d : Dk) (l nw : List Rc) (z : Int) : Prop :=
  (z = 0 ∧ (frs nw).length ≤ arS d * 64 ∧ ∃ d' h', JS w0 w' p q d' h' nw ∧ d'.secs.length = d.secs.length ∧ (d.left = 0 → d'.left = 0)) ∨
  (z = 21 ∧ arS d * 64 < (frs nw).length ∧ ∃ h', JS w0 w' p q d h' l) ∨
  (z = 22 ∧ 0 < d.left ∧ ∃ d', JD w0 w' p d' ∧ d'.secs.length = d.secs.length ∧ Cut2 d' l nw)
theorem frs_len_app (a b : List Rc) : (frs (a ++ b)).length = (frs a).length + (frs b).length := by rw [frs_app, List.length_append]
section
variable {w0 w : World} {p q : Nat} {d : Dk} {h : Hd} {l : List Rc}
theorem JL.count {n : Nat} (j : JL w0 w p q d h n) (m : Nat) : JL w0 (w.setCell ⟨q, 6, none⟩ (.int .i64 (m : Int))) p q d h m ∧ Kin w (w.setCell ⟨q, 6, none⟩ (.int .i64 (m : Int))) :=
  ⟨⟨j.disk.logset j.log j.new _ _, j.log.count m, j.new⟩, j.log.kin _ _⟩
set_option maxHeartbeats 2000000 in
theorem add_bad (j : JS w0 w p q d h l) {ao : Option Addr} {len cap : Nat} {rs : List Rc} (R : RG w ao len cap rs) (hw : Wid rs) (hb : ¬ AllR rs) :
    Calls Try.prog 9 #[.pointer (some ⟨q, 0, none⟩), .slice ao len cap] w fun e w' => e = .returned (.int .i64 27) ∧ JS w0 w' p q d h l ∧ Kin w w' := by
  have J := hid j
  have HR := hid R
  have HW := hid hw
  have HB := hid hb
  clear j R hw hb
  go_enter Try.func9, Try.ntmps9
  go_wp2_with (first | (go_at_call 21; refine (lay_bad J1.out J.out.held.n8 (HR.out.below K1.out) HW.out HB.out h.a h.b J.out.held.fit).mono ?_; rintro e w2 ⟨rfl, j2, k2⟩; have J2 := hid j2; have K2 := hid (sq K1.out k2); clear j2 k2) | (go_at_call 22; refine (now_any J.out.log.log J.out.ok).mono ?_; rintro e w1 ⟨rfl, k1⟩; have K1 := hid k1; have J1 := hid (J.out.log.more k1); clear k1))
  go_ret
  exact ⟨rfl, ⟨J2.out, J.out.ok, J.out.up, J.out.rest, J.out.held⟩, Kin.of K2.out⟩
theorem out_ok {w' : World} {d' : Dk} {c a b x y : Nat} {nw : List Rc} (E : Ends d d' 0 c a b (1 - h.c) x y l nw) (hy : y = (frs nw).length) (hb : y < 2147483648) (fit : y ≤ arS d * 64) (ho : h.Ok) (hx : x ≤ 1) (j : JL w0 w' p q d' (h.turn x y) nw.length) : Out w0 w' p q d l nw 0 := by
  obtain ⟨e1, e2, ⟨_, e3, e4, e5⟩ | ⟨e3, _⟩⟩ := E
  · have t := Hd.turn_a ho x y
    exact .inl ⟨rfl, by omega, d', h.turn x y, ⟨j, Hd.turn_ok ho hx hb, e4, e3, by rw [Hd.turn_c, t.1, t.2]; exact e5⟩, e1, e2⟩
  · cases e3
theorem out_cut {w' : World} {d' : Dk} {c a b c2 a2 b2 n : Nat} {z : Int} {H : Hd} {nw : List Rc} (E : Ends d d' z c a b c2 a2 b2 l nw) (hz : ¬ z = 0) (j : JL w0 w' p q d' H n) : Out w0 w' p q d l nw z := by
  obtain ⟨e1, e2, ⟨e3, _⟩ | ⟨e3, e4, _, e5⟩⟩ := E
  · exact absurd e3 hz
  · exact .inr (.inr ⟨e3, e4, d', j.disk, e1, fun s' f => (e5 s' f).imp (fun k => ⟨_, _, _, k⟩) (fun k => ⟨_, _, _, k⟩)⟩)
theorem sub_nat {a : Nat} (h : a ≤ 1) : ((1 - a : Nat) : Int) = 1 - (a : Int) := by omega
theorem lay_fit_v {n : Nat} (j : JL w0 w p q d h n) (ho : h.Ok) (h8 : 8 ≤ d.secs.length) (hw : d.waits = []) (hd : d.down = false) {ao : Option Addr} {len cap : Nat} {rs : List Rc} (R : RG w ao len cap rs) (hg : Good rs) (a : Nat) (ha : a ≤ 1) (F : Nat) (hF : (frs rs).length = F) (hfit : 0 + F ≤ arS d * 64)
    (z : Int) (d' : Dk) (hz : layP d (addN d a 0) (addB d a 0 rs) (headB (h.mark a (0 + F))) (headB (h.turn a (0 + F))) = (z, d')) (v : Int) (hv : (a : Int) = v) :
    Calls Try.prog 21 #[.pointer (some ⟨q, 0, none⟩), .agg #[.int .i64 v, .int .i64 0], .slice ao len cap] w fun e w' => e = .returned (.int .i64 z) ∧ ∃ H, JL w0 w' p q d' H n ∧ Kin w w' ∧ (z = 0 → H = h.turn a (0 + F)) ∧ (¬ z = 0 → H = h) := by
  subst hv
  exact lay_fit j ho h8 hw hd R hg a 0 ha F hF hfit z d' hz
theorem lay_full_v {n : Nat} (j : JL w0 w p q d h n) (h8 : 8 ≤ d.secs.length) {ao : Option Addr} {len cap : Nat} {rs : List Rc} (R : RG w ao len cap rs) (hw : Good rs) (a : Nat) (hb : arS d * 64 < 0 + (frs rs).length) (v : Int) (hv : (a : Int) = v) :
    Calls Try.prog 21 #[.pointer (some ⟨q, 0, none⟩), .agg #[.int .i64 v, .int .i64 0], .slice ao len cap] w fun e w' => e = .returned (.int .i64 21) ∧ JL w0 w' p q d h n ∧ Below w.heap.size w w' := by
  subst hv
  exact lay_full j h8 R hw a 0 (Nat.zero_le _) hb
set_option maxHeartbeats 2000000 in
theorem add_any (j : JS w0 w p q d h l) {ao : Option Addr} {len cap : Nat} {rs : List Rc} (R : RG w ao len cap rs) (hg : Good rs) (hs : l.length + len ≤ 100000000) :
    Calls Try.prog 9 #[.pointer (some ⟨q, 0, none⟩), .slice ao len cap] w fun e w' => ∃ z, e = .returned (.int .i64 z) ∧ Kin w w' ∧ Out w0 w' p q d l (l ++ rs) z := by
  have J := hid j
  have HR := hid R
  have HG := hid hg
  have HLE := hid R.leq
  have HBL := hid j.held.len
  have HA1 := hid j.held.a1
  have ha1 := j.held.a1
  have hA2 : arS d * 64 ≤ 131072 := by have := j.log.disk.ok.size; unfold arS; omega
  have HA2 := hid hA2
  clear j R hg hA2
  by_cases hfit : h.b + (frs rs).length ≤ arS d * 64
  · obtain ⟨F, hF⟩ : ∃ F, (frs rs).length = F := ⟨_, rfl⟩
    rw [hF] at hfit
    have HF := hid hF
    clear hF
    rcases ez : layP d (addN d h.a h.b) (addB d h.a h.b rs) (headB (h.mark h.a (h.b + F))) (headB (h.turn h.a (h.b + F))) with ⟨z, d'⟩
    have HE := hid (add_plain J.out.held J.out.log.disk.ok J.out.up J.out.rest HG.out (by rw [HF.out]; exact hfit) z d' (by rw [← Hd.mark_head J.out.ok, ← Hd.turn_head J.out.ok, HF.out]; exact ez))
    rw [HF.out] at HE
    have EZ := hid ez
    have HFI : Hid (h.b + F ≤ arS d * 64) := by unfold Hid; omega
    have HFN : Hid ((frs (l ++ rs)).length = h.b + F) := by unfold Hid; rw [frs_len_app, HF.out, ← HBL.out]
    clear ez hfit
    by_cases hz : z = 0
    · subst hz
      go_enter Try.func9, Try.ntmps9
      go_wp2_with (first | (go_at_call 21; refine (lay_fit J1.out J.out.ok J.out.held.n8 J.out.rest J.out.up (HR.out.below K1.out) HG.out h.a h.b J.out.held.a1 F HF.out HFI.out 0 d' EZ.out).mono ?_; rintro e w2 ⟨rfl, H, j2, k2, t2, -⟩; have c6 := j2.log.c6; have f6 := j2.log.f 6; have J2 := hid j2; have K2 := hid ((Kin.of K1.out).trans k2); have T2 := hid (t2 rfl); clear j2 k2 t2) | (go_at_call 22; refine (now_any J.out.log.log J.out.ok).mono ?_; rintro e w1 ⟨rfl, k1⟩; have K1 := hid k1; have J1 := hid (J.out.log.more k1); clear k1))
      go_ret
      have T := T2.out
      subst T
      obtain ⟨j3, k3⟩ := J2.out.count (l.length + len)
      have HC : (l ++ rs).length = (l.length + len) := by rw [List.length_append, HLE.out]
      rw [Int.natCast_add] at j3 k3
      exact ⟨0, rfl, K2.out.trans k3, out_ok HE.out HFN.out.symm (by have := HFI.out; have := HA2.out; omega) (by have := HFI.out; omega) J.out.ok J.out.held.a1 (by rw [HC]; exact j3)⟩
    · go_enter Try.func9, Try.ntmps9
      go_wp2_with (first | (go_at_call 21; refine (lay_fit J1.out J.out.ok J.out.held.n8 J.out.rest J.out.up (HR.out.below K1.out) HG.out h.a h.b J.out.held.a1 F HF.out HFI.out z d' EZ.out).mono ?_; rintro e w2 ⟨rfl, H, j2, k2, -, -⟩; have J2 := hid j2; have K2 := hid ((Kin.of K1.out).trans k2); clear j2 k2) | (go_at_call 22; refine (now_any J.out.log.log J.out.ok).mono ?_; rintro e w1 ⟨rfl, k1⟩; have K1 := hid k1; have J1 := hid (J.out.log.more k1); clear k1))
      go_ret
      exact ⟨z, rfl, K2.out, out_cut HE.out hz J2.out⟩
  · have HFI := hid hfit
    have HFN : Hid (arS d * 64 < (frs (l ++ rs)).length) := by unfold Hid; rw [frs_len_app, ← HBL.out]; omega
    clear hfit
    go_enter Try.func9, Try.ntmps9
    go_wp2_with (first | (go_at_call 21; refine (lay_full J1.out J.out.held.n8 (HR.out.below K1.out) HG.out h.a h.b J.out.held.fit (by have := HFI.out; omega)).mono ?_; rintro e w2 ⟨rfl, j2, k2⟩; have J2 := hid j2; have K2 := hid (sq K1.out k2); clear j2 k2) | (go_at_call 22; refine (now_any J.out.log.log J.out.ok).mono ?_; rintro e w1 ⟨rfl, k1⟩; have K1 := hid k1; have J1 := hid (J.out.log.more k1); clear k1))
    go_ret
    exact ⟨21, rfl, Kin.of K2.out, .inr (.inl ⟨rfl, HFN.out, h, J2.out, J.out.ok, J.out.up, J.out.rest, J.out.held⟩)⟩
end
end Go.Proofs.Ythhgnflkplpklab
