/- Add and Replace: what is there behind them, or what a crash behind them leaves. -/
import Derived.Test.YthhgnflkplpklabJChoose
namespace Go.Proofs.Ythhgnflkplpklab
set_option maxRecDepth 20000
open Go.ChangeShapes Go.WideShapes Go.ChangeAt Go.RowKit
open Dsc (Dk Sec Dat Feet tc hid sq bel1 writeD writeZ syncD errZ stepD reachZ readB)
open Frm (Rc putL rightB bytesL num Given Mk Row RowAt RV al29 st29 ld29)

theorem Row.up {B : Nat} {w : World} {v : Value} {n : Nat} {l : List Int} (h : Row 0 w v n l) (hb : ∀ k, v.ownBlock = some k → B ≤ k) : Row B w v n l := by
  refine ⟨h.1, ?_⟩
  rcases h.2 with h0 | ⟨g, cap, cur, rfl, _, r⟩
  · exact .inl h0
  · exact .inr ⟨g, cap, cur, rfl, hb g rfl, r⟩
theorem Mk.cut {W0 w : World} {ao : Option Addr} {n cap m : Nat} {l : List Int} (h : Mk W0 w (.slice ao n cap) n l) (hm : m ≤ n) : Mk W0 w (.slice ao m cap) m (l.take m) := by
  refine ⟨⟨by have := h.1.len; simp; omega, ?_⟩, h.2⟩
  rcases h.1.2 with ⟨e, h0⟩ | ⟨g, cap, cur, e, hg, hc, h1, h2, h3, h4⟩
  · cases e
    have : m = 0 := by omega
    exact .inl ⟨by rw [this], this⟩
  · cases e
    refine .inr ⟨g, cap, cur, rfl, hg, hc, by omega, h2, h3, ?_⟩
    simp only [Nat.mul_one] at h4 ⊢
    have e2 : cur.toList.take m = (cur.toList.take n).take m := by rw [List.take_take, Nat.min_eq_left hm]
    rw [e2, h4]; simp
section
variable {w0 w : World} {p q : Nat} {d : Dk} {h : Hd} {n : Nat}
theorem read_mk (j : JD w0 w p d) (hw : d.waits = []) (hd : d.down = false) (n : Nat) (hn : n < d.secs.length) (z : Int) (hz : (n : Int) = z) :
    Calls Try.prog 16 #[.pointer (some ⟨p, 0, none⟩), .int .i64 z] w fun e w' => ∃ ao cap, e = .returned (.tuple #[.slice ao 64 cap, .int .i64 0]) ∧ Mk w w' (.slice ao 64 cap) 64 (d.secs.getD n []) := by
  subst hz
  have hs : Sec (d.secs.getD n []) := sec_at j.ok.secs hn
  obtain ⟨sv, wv, hD, _⟩ := j
  refine (Dsc.read_any p sv wv d n w hD).mono ?_
  rintro e w' ⟨v, rfl, hb, hB, hk⟩
  obtain ⟨e1, e2⟩ := readB_nil hw hd hn
  rw [e1] at hb
  rw [e2]
  have hr := Bys.row hb
  rw [hs.1] at hr
  obtain ⟨ao, cap, rfl, _⟩ := hr.form
  exact ⟨ao, cap, rfl, Row.up hr hk, hB⟩
def BS (q p b x y : Nat) (w : World) : Prop := w.cell? ⟨q, 0, none⟩ = some (.pointer (some ⟨p, 0, none⟩)) ∧ w.cell? ⟨b, 0, none⟩ = some (.int .i64 (x : Int)) ∧ w.cell? ⟨b, 1, none⟩ = some (.int .i64 (y : Int))
theorem BS.below {w w' : World} {q p b x y : Nat} (h : BS q p b x y w) (k : Below w.heap.size w w') : BS q p b x y w' :=
  ⟨(k.cell (p := ⟨q, 0, none⟩) (World.block_lt_of_cell? w _ h.1)).trans h.1, (k.cell (p := ⟨b, 0, none⟩) (World.block_lt_of_cell? w _ h.2.1)).trans h.2.1, (k.cell (p := ⟨b, 1, none⟩) (World.block_lt_of_cell? w _ h.2.2)).trans h.2.2⟩
set_option maxHeartbeats 2000000 in
theorem begun_any (j : JL w0 w p q d h n) (h8 : 8 ≤ d.secs.length) (hw : d.waits = []) (hd : d.down = false) (a b : Nat) (ha : a ≤ 1) (hb : b ≤ arS d * 64) (m : Nat) (hm : b % 64 = m) :
    Calls Try.prog 32 #[.pointer (some ⟨q, 0, none⟩), mkV a b] w fun e w' => ∃ ao cap, e = .returned (.tuple #[.slice ao m cap, .int .i64 0]) ∧ Mk w w' (.slice ao m cap) m (bgL d.secs (addN d a b) m) := by
  have hs := j.disk.ok.size
  have hA2 : arS d ≤ 2048 := by unfold arS; omega
  have hb2 : b < 2147483648 := by have := Nat.mul_le_mul_right 64 hA2; omega
  have et : ((b : Int)).tmod 64 = (m : Int) := by rw [Int.tmod_eq_emod_of_nonneg (by omega)]; omega
  by_cases h0 : m = 0
  · have J := hid j
    clear j
    subst h0
    simp only [Int.natCast_zero] at et
    have J1 := J.out.log.lt
    clear hm hb ha hb2 hA2 hs J
    go_enter Try.func32, Try.ntmps32
    go_wp2_with (first | (refine bx67 rfl _ rfl rfl ?_; intro b1 w1 hb1 m1 k1; have M1 := hid m1; have c1 := m1.c1; have K1 := hid k1; clear m1 k1))
    go_ret2
    refine ⟨none, 0, rfl, ?_⟩
    have e : bgL d.secs (addN d a b) 0 = [] := by unfold bgL; simp
    rw [e]; exact (Mk.nil w).more K1.out
  · have hn : addN d a b < d.secs.length := by
      have := area_lt (s := d.secs) (a := a) (k := b / 64) h8 ha (by unfold arS at hb; omega)
      unfold addN arS; omega
    have HN := hid hn
    have hm64 : m < 64 := by omega
    obtain ⟨X, hX⟩ : ∃ X, addN d a b = X := ⟨_, rfl⟩
    have HX := hid hX
    rw [hX] at HN
    have J := hid j
    clear j hn
    go_enter Try.func32, Try.ntmps32
    go_wp2_with (first | (refine bx67 rfl _ rfl rfl ?_; intro b1 w1 hb1 m1 k1; have M1 := hid m1; have c1 := m1.c1; have K1 := hid k1; have J1 := hid (J.out.more k1); clear m1 k1))
    have J2 := hid (J1.out.more (Below.refl _ _).drew)
    have S2 : Hid (BS q p b1 a b w1.drew) := ⟨J2.out.log.c0, M1.out.c0, M1.out.c1⟩
    clear hm hX
    go_region_held3 (fun w' => w'.cell? ⟨q, 0, none⟩ = some (.pointer (some ⟨p, 0, none⟩)) ∧ w'.cell? ⟨b1, 0, none⟩ = some (.int .i64 (a : Int)) ∧ w'.cell? ⟨b1, 1, none⟩ = some (.int .i64 (b : Int))) ((first | exact S4.out | exact S3.out | exact S2.out)) ((first | (go_at_call 16; refine (read_mk J3.out.disk hw hd X HN.out _ rfl).mono ?_; rintro e w4 ⟨ao4, cap4, rfl, d4⟩; have D4 := hid d4; have S4 := hid (BS.below S3.out d4.bel); clear d4) | (go_at_call 29; refine (sector_any J2.out h8 a b ha hb2).mono ?_; rintro e w3 ⟨rfl, k3⟩; rw [show 1 + a * arS d + b / 64 = X from HX.out]; have J3 := hid (J2.out.more k3); have S3 := hid (BS.below S2.out k3); have K3 := hid k3; clear k3)))
    have hcap := D4.out.1.caps
    obtain ⟨g4, o4, rfl⟩ := D4.out.1.at.some (by rw [D4.out.1.len]; omega)
    go_wp2
    go_ret2
    refine ⟨_, cap4, rfl, ?_⟩
    have := Frm.Mk.wide (sq (sq K1.out (Below.refl _ _).drew) K3.out) D4.out
    rw [HX.out]
    exact Mk.cut this (by omega)
theorem frames_bad {ao : Option Addr} {len cap : Nat} {rs : List Rc} (R : RG w ao len cap rs) (hw : Wid rs) (hb : ¬ AllR rs) (room : Int) (h0 : 0 ≤ room) (h1 : room ≤ 200000) :
    Calls Try.prog 31 #[.slice ao len cap, .int .i64 room] w fun e w' => ∃ ao' N cap', e = .returned (.tuple #[.slice ao' N cap', .int .i64 27]) ∧ Below w.heap.size w w' := by
  refine (frames_any R hw room h0 h1).mono ?_
  rintro e w' ⟨ao', N, cap', z, rfl, k, ⟨rfl, _⟩ | ⟨_, h, _⟩ | ⟨_, h, _⟩⟩
  · exact ⟨ao', N, cap', rfl, k⟩
  · exact absurd h hb
  · exact absurd h hb
theorem frames_full {ao : Option Addr} {len cap : Nat} {rs : List Rc} (R : RG w ao len cap rs) (hw : Good rs) (room : Int) (hb : room < (frs rs).length) (h0 : 0 ≤ room) (h1 : room ≤ 200000) :
    Calls Try.prog 31 #[.slice ao len cap, .int .i64 room] w fun e w' => ∃ ao' N cap', e = .returned (.tuple #[.slice ao' N cap', .int .i64 21]) ∧ Below w.heap.size w w' := by
  refine (frames_any R hw.wid room h0 h1).mono ?_
  rintro e w' ⟨ao', N, cap', z, rfl, k, ⟨_, h⟩ | ⟨rfl, h, _⟩ | ⟨_, _, h, _⟩⟩
  · exact absurd hw.all h
  · exact ⟨ao', N, cap', rfl, k⟩
  · omega
theorem frames_fit {ao : Option Addr} {len cap : Nat} {rs : List Rc} (R : RG w ao len cap rs) (hw : Good rs) (room : Int) (F : Nat) (hF : (frs rs).length = F) (hb : (F : Int) ≤ room) (h1 : room ≤ 200000) :
    Calls Try.prog 31 #[.slice ao len cap, .int .i64 room] w fun e w' => ∃ ao' cap', e = .returned (.tuple #[.slice ao' F cap', .int .i64 0]) ∧ Mk w w' (.slice ao' F cap') F (frs rs) := by
  refine (frames_any R hw.wid room (by omega) h1).mono ?_
  rintro e w' ⟨ao', N, cap', z, rfl, k, ⟨_, h⟩ | ⟨_, _, h⟩ | ⟨rfl, _, _, h, m⟩⟩
  · exact absurd hw.all h
  · omega
  · have : N = F := by omega
    subst this; exact ⟨ao', cap', rfl, m⟩
theorem wrP_waits {m : Nat} : ∀ {b : List Int} {n : Nat} {d : Dk}, b.length ≤ m → (wrP d n b).2.waits.length ≤ d.waits.length + b.length := by
  induction m with
  | zero =>
    intro b n d hb
    have : b = [] := List.length_eq_zero_iff.1 (by omega)
    subst this; rw [wrP_nil]; simp
  | succ m ih =>
    intro b n d hb
    by_cases h0 : b = []
    · subst h0; rw [wrP_nil]; simp
    have hp := List.length_pos_iff.2 h0
    have hw := wait_one d n b
    by_cases hz : writeZ d n = 0
    · rw [wrP_go h0 hz]
      have := ih (b := b.drop 64) (n := n + 1) (d := writeD d n b) (by rw [List.length_drop]; omega)
      rw [List.length_drop] at this; omega
    · rw [wrP_end h0 hz]; simp only; omega
theorem choose_at (j : JL w0 w p q d h n) (ho : h.Ok) (x y : Nat) (hx : x ≤ 1) (hy : y < 2147483648) (hmany : d.waits.length ≤ 800000) (z : Int) (d' : Dk) (hz : chP d (headB (h.mark x y)) (headB (h.turn x y)) = (z, d')) (vy : Int) (hv : (y : Int) = vy) :
    Calls Try.prog 34 #[.pointer (some ⟨q, 0, none⟩), .agg #[.int .i64 (x : Int), .int .i64 vy]] w fun e w' => e = .returned (.int .i64 z) ∧ ∃ H, JL w0 w' p q d' H n ∧ Kin w w' ∧ (z = 0 → H = h.turn x y) ∧ (¬ z = 0 → H = h) := by
  subst hv
  refine (choose_any j ho x y hx hy hmany z d' hz).mono ?_
  rintro e w' ⟨rfl, j', k'⟩
  exact ⟨rfl, _, j', k', fun e => by rw [if_pos e], fun e => by rw [if_neg e]⟩
set_option maxHeartbeats 2000000 in
theorem lay_bad (j : JL w0 w p q d h n) (h8 : 8 ≤ d.secs.length) {ao : Option Addr} {len cap : Nat} {rs : List Rc} (R : RG w ao len cap rs) (hw : Wid rs) (hb : ¬ AllR rs) (a b : Nat) (hfit : b ≤ arS d * 64) :
    Calls Try.prog 21 #[.pointer (some ⟨q, 0, none⟩), mkV a b, .slice ao len cap] w fun e w' => e = .returned (.int .i64 27) ∧ JL w0 w' p q d h n ∧ Below w.heap.size w w' := by
  have hs := j.disk.ok.size
  obtain ⟨A, hA⟩ : ∃ A, arS d * 64 = A := ⟨_, rfl⟩
  have hA2 : A ≤ 131072 := by rw [← hA]; unfold arS; omega
  obtain ⟨r, hr⟩ : ∃ r : Int, (A : Int) - b = r := ⟨_, rfl⟩
  have hr0 : 0 ≤ r := by omega
  have hr1 : r ≤ 200000 := by omega
  have x1 : IntKind.i64.wrap ((A : Int) - b) = r := by rw [wr64 (by omega)]; exact hr
  have HB := hid hb
  have HRR := hid hr
  clear hr
  have HW := hid hw
  have HR := hid R
  have J := hid j
  clear j R hb hw
  go_enter Try.func21, Try.ntmps21
  go_wp2_with (first | (refine bx67 rfl _ rfl rfl ?_; intro b1 w1 hb1 m1 k1; have M1 := hid m1; have c1 := m1.c1; have K1 := hid k1; have J1 := hid (J.out.more k1); clear m1 k1))
  have J2 := hid (J1.out.more (Below.refl _ _).drew)
  have R2 := hid ((HR.out.below K1.out).below (Below.refl _ _).drew)
  have S2 : Hid (w1.drew.cell? ⟨b1, 1, none⟩ = some (.int .i64 (b : Int))) := c1
  go_region_held3 (fun w' => w'.cell? ⟨b1, 1, none⟩ = some (.int .i64 (b : Int))) ((first | exact S3.out | exact S2.out)) ((first | (go_at_call 31; refine (frames_bad R2.out HW.out HB.out r hr0 hr1).mono ?_; rintro e w3 ⟨ao3, N3, cap3, rfl, k3⟩; have S3 := hid ((k3.cell (p := ⟨b1, 1, none⟩) (World.block_lt_of_cell? w1.drew _ S2.out)).trans S2.out); have K3 := hid k3; clear k3) | (go_at_call 25; refine (room_any J2.out h8).mono ?_; rintro e w2 ⟨rfl, rfl⟩; rw [hA])))
  go_wp2
  go_ret
  exact ⟨rfl, J2.out.more K3.out, sq (sq K1.out (Below.refl _ _).drew) K3.out⟩
set_option maxHeartbeats 2000000 in
theorem lay_full (j : JL w0 w p q d h n) (h8 : 8 ≤ d.secs.length) {ao : Option Addr} {len cap : Nat} {rs : List Rc} (R : RG w ao len cap rs) (hw : Good rs) (a b : Nat) (hfit : b ≤ arS d * 64) (hb : arS d * 64 < b + (frs rs).length) :
    Calls Try.prog 21 #[.pointer (some ⟨q, 0, none⟩), mkV a b, .slice ao len cap] w fun e w' => e = .returned (.int .i64 21) ∧ JL w0 w' p q d h n ∧ Below w.heap.size w w' := by
  have hs := j.disk.ok.size
  obtain ⟨A, hA⟩ : ∃ A, arS d * 64 = A := ⟨_, rfl⟩
  have hA2 : A ≤ 131072 := by rw [← hA]; unfold arS; omega
  obtain ⟨r, hr⟩ : ∃ r : Int, (A : Int) - b = r := ⟨_, rfl⟩
  have hr0 : 0 ≤ r := by omega
  have hr1 : r ≤ 200000 := by omega
  have x1 : IntKind.i64.wrap ((A : Int) - b) = r := by rw [wr64 (by omega)]; exact hr
  have HB : Hid (r < (frs rs).length) := by unfold Hid; omega
  have HRR := hid hr
  clear hr
  have HW := hid hw
  have HR := hid R
  have J := hid j
  clear j R hb hw
  go_enter Try.func21, Try.ntmps21
  go_wp2_with (first | (refine bx67 rfl _ rfl rfl ?_; intro b1 w1 hb1 m1 k1; have M1 := hid m1; have c1 := m1.c1; have K1 := hid k1; have J1 := hid (J.out.more k1); clear m1 k1))
  have J2 := hid (J1.out.more (Below.refl _ _).drew)
  have R2 := hid ((HR.out.below K1.out).below (Below.refl _ _).drew)
  have S2 : Hid (w1.drew.cell? ⟨b1, 1, none⟩ = some (.int .i64 (b : Int))) := c1
  go_region_held3 (fun w' => w'.cell? ⟨b1, 1, none⟩ = some (.int .i64 (b : Int))) ((first | exact S3.out | exact S2.out)) ((first | (go_at_call 31; refine (frames_full R2.out HW.out r HB.out hr0 hr1).mono ?_; rintro e w3 ⟨ao3, N3, cap3, rfl, k3⟩; have S3 := hid ((k3.cell (p := ⟨b1, 1, none⟩) (World.block_lt_of_cell? w1.drew _ S2.out)).trans S2.out); have K3 := hid k3; clear k3) | (go_at_call 25; refine (room_any J2.out h8).mono ?_; rintro e w2 ⟨rfl, rfl⟩; rw [hA])))
  go_wp2
  go_ret
  exact ⟨rfl, J2.out.more K3.out, sq (sq K1.out (Below.refl _ _).drew) K3.out⟩
set_option maxHeartbeats 4000000 in
theorem lay_fit (j : JL w0 w p q d h n) (ho : h.Ok) (h8 : 8 ≤ d.secs.length) (hw : d.waits = []) (hd : d.down = false) {ao : Option Addr} {len cap : Nat} {rs : List Rc} (R : RG w ao len cap rs) (hg : Good rs) (a b : Nat) (ha : a ≤ 1) (F : Nat) (hF : (frs rs).length = F) (hfit : b + F ≤ arS d * 64)
    (z : Int) (d' : Dk) (hz : layP d (addN d a b) (addB d a b rs) (headB (h.mark a (b + F))) (headB (h.turn a (b + F))) = (z, d')) :
    Calls Try.prog 21 #[.pointer (some ⟨q, 0, none⟩), mkV a b, .slice ao len cap] w fun e w' => e = .returned (.int .i64 z) ∧ ∃ H, JL w0 w' p q d' H n ∧ Kin w w' ∧ (z = 0 → H = h.turn a (b + F)) ∧ (¬ z = 0 → H = h) := by
  have hs := j.disk.ok.size
  have HSC := hid j.disk.ok.secs
  obtain ⟨A, hA⟩ : ∃ A, arS d * 64 = A := ⟨_, rfl⟩
  have hA2 : A ≤ 131072 := by rw [← hA]; unfold arS; omega
  have hb : b ≤ arS d * 64 := by omega
  have hb2 : b < 2147483648 := by omega
  obtain ⟨r, hr⟩ : ∃ r : Int, (A : Int) - b = r := ⟨_, rfl⟩
  have hr0 : (F : Int) ≤ r := by omega
  have hr1 : r ≤ 200000 := by omega
  have x1 : IntKind.i64.wrap ((A : Int) - b) = r := by rw [wr64 (by omega)]; exact hr
  obtain ⟨m, hm⟩ : ∃ m, b % 64 = m := ⟨_, rfl⟩
  obtain ⟨X, hX⟩ : ∃ X, addN d a b = X := ⟨_, rfl⟩
  have hX2 : X ≤ 100000 := by
    rw [← hX]; unfold addN
    have e : a = 0 ∨ a = 1 := by omega
    have : arS d ≤ 2048 := by unfold arS; omega
    rcases e with rfl | rfl <;> omega
  have hm64 : m < 64 := by omega
  have eB : addB d a b rs = bgL d.secs X m ++ frs rs := by unfold addB; rw [hX, hm]
  rw [eB, hX] at hz
  have HBY : Hid (Frm.Byt (bgL d.secs X m ++ frs rs)) := by
    unfold Hid
    refine Frm.byt_app ?_ (frs_byt hg)
    intro x hx
    have hx := List.mem_of_mem_take hx
    by_cases hXX : X < d.secs.length
    · exact sec_byt (sec_at HSC.out hXX) x hx
    · rw [List.getD_eq_getElem?_getD, List.getElem?_eq_none (by omega)] at hx; cases hx
  have hlen : (bgL d.secs X m ++ frs rs).length ≤ 200000 := by
    rw [List.length_append, hF]
    have : (bgL d.secs X m).length ≤ m := by unfold bgL; rw [List.length_take]; omega
    omega
  have hwl := wrP_waits (Nat.le_refl _) (b := bgL d.secs X m ++ frs rs) (n := X) (d := d)
  rw [hw] at hwl
  rcases e1 : wrP d X (bgL d.secs X m ++ frs rs) with ⟨z1, d1⟩
  rw [e1] at hwl
  simp only [List.length_nil, Nat.zero_add] at hwl
  have hmany : d1.waits.length ≤ 800000 := by omega
  unfold layP at hz
  rw [e1] at hz
  simp only at hz
  have E1 := hid e1
  have HO := hid ho
  have HX := hid hX
  have HMM := hid hm
  have HF := hid hF
  have HG := hid hg
  have HRR := hid hr
  have HR := hid R
  have J := hid j
  clear hr e1 j R hF hg hm hX hwl eB hlen ho
  by_cases h1 : z1 = 0
  · subst h1
    rw [if_pos rfl] at hz
    have HZ := hid hz
    clear hz
    go_enter Try.func21, Try.ntmps21
    go_wp2_with (first | (refine bx67 rfl _ rfl rfl ?_; intro b1 w1 hb1 m1 k1; have M1 := hid m1; have c1 := m1.c1; have K1 := hid k1; have J1 := hid (J.out.more k1); clear m1 k1))
    have J2 := hid (J1.out.more (Below.refl _ _).drew)
    have KA := hid (sq K1.out (Below.refl _ _).drew)
    have R2 := hid (HR.out.below KA.out)
    have S2 : Hid (w1.drew.cell? ⟨b1, 1, none⟩ = some (.int .i64 (b : Int))) := c1
    go_region_held3 (fun w' => w'.cell? ⟨b1, 1, none⟩ = some (.int .i64 (b : Int))) ((first | exact S3.out | exact S2.out)) ((first | (go_at_call 31; refine (frames_fit R2.out HG.out r F HF.out hr0 hr1).mono ?_; rintro e w3 ⟨ao3, cap3, rfl, d3⟩; have S3 := hid ((d3.bel.cell (p := ⟨b1, 1, none⟩) (World.block_lt_of_cell? w1.drew _ S2.out)).trans S2.out); have D3 := hid d3; clear d3) | (go_at_call 25; refine (room_any J2.out h8).mono ?_; rintro e w2 ⟨rfl, rfl⟩; rw [hA])))
    have J3 := hid (J2.out.more D3.out.bel)
    have M3 := hid ((M1.out.kin (Kin.drew _)).kin (Kin.of D3.out.bel))
    go_wp2_with (first | (go_at_call 34; refine (choose_at J7.out HO.out a (b + F) ha (by omega) hmany z d' HZ.out _ (Int.natCast_add b F)).mono ?_; rintro e w8 ⟨rfl, H, j8, k8, t1, t2⟩; have J8 := hid j8; have K8 := hid (K7.out.trans k8); have T8 := hid (And.intro t1 t2); clear j8 k8 t1 t2) | (go_at_call 33; refine (logwrite_any J6.out G6.out (by rw [hw]; simp; omega) X (by omega)).mono ?_; rintro e w7 ⟨rfl, j7, k7⟩; rw [E1.out] at j7 ⊢; have J7 := hid j7; have K7 := hid ((Kin.of K6.out).trans k7); have M7 := hid (M6.out.kin k7); have c70 := M7.out.c0; have c71 := M7.out.c1; clear j7 k7) | (at_builtin; refine app_to (D4.out.more K5.out) (D3.out.more (sq D4.out.bel K5.out)) (m := m + F) rfl rfl (by omega) rfl _ _ rfl rfl rfl ?_; intro ao6 cap6 w6 d6; have G6 := hid (Mk.gv d6 HBY.out); have K6 := hid (sq KA.out (sq D3.out.bel d6.bel)); have J6 := hid (J3.out.more d6.bel); have M6 := hid (M3.out.kin (Kin.of d6.bel)); clear d6) | (go_at_call 29; refine (sector_any J4.out h8 a b ha hb2).mono ?_; rintro e w5 ⟨rfl, k5⟩; rw [show 1 + a * arS d + b / 64 = X from HX.out]; have K5 := hid k5; clear k5) | (refine ld67 M4.out rfl _ rfl rfl ?_) | (go_at_call 32; refine (begun_any J3.out h8 hw hd a b ha hb m HMM.out).mono ?_; rintro e w4 ⟨ao4, cap4, rfl, d4⟩; rw [HX.out] at d4; have D4 := hid d4; have J4 := hid (J3.out.more d4.bel); have M4 := hid (M3.out.kin (Kin.of d4.bel)); clear d4) | (refine ld67 M3.out rfl _ rfl rfl ?_))
    go_ret
    exact ⟨rfl, H, J8.out, K8.out, T8.out.1, T8.out.2⟩
  · rw [if_neg h1] at hz
    cases hz
    go_enter Try.func21, Try.ntmps21
    go_wp2_with (first | (refine bx67 rfl _ rfl rfl ?_; intro b1 w1 hb1 m1 k1; have M1 := hid m1; have c1 := m1.c1; have K1 := hid k1; have J1 := hid (J.out.more k1); clear m1 k1))
    have J2 := hid (J1.out.more (Below.refl _ _).drew)
    have KA := hid (sq K1.out (Below.refl _ _).drew)
    have R2 := hid (HR.out.below KA.out)
    have S2 : Hid (w1.drew.cell? ⟨b1, 1, none⟩ = some (.int .i64 (b : Int))) := c1
    go_region_held3 (fun w' => w'.cell? ⟨b1, 1, none⟩ = some (.int .i64 (b : Int))) ((first | exact S3.out | exact S2.out)) ((first | (go_at_call 31; refine (frames_fit R2.out HG.out r F HF.out hr0 hr1).mono ?_; rintro e w3 ⟨ao3, cap3, rfl, d3⟩; have S3 := hid ((d3.bel.cell (p := ⟨b1, 1, none⟩) (World.block_lt_of_cell? w1.drew _ S2.out)).trans S2.out); have D3 := hid d3; clear d3) | (go_at_call 25; refine (room_any J2.out h8).mono ?_; rintro e w2 ⟨rfl, rfl⟩; rw [hA])))
    have J3 := hid (J2.out.more D3.out.bel)
    have M3 := hid ((M1.out.kin (Kin.drew _)).kin (Kin.of D3.out.bel))
    go_wp2_with (first | (go_at_call 33; refine (logwrite_any J6.out G6.out (by rw [hw]; simp; omega) X (by omega)).mono ?_; rintro e w7 ⟨rfl, j7, k7⟩; rw [E1.out] at j7 ⊢; have J7 := hid j7; have K7 := hid ((Kin.of K6.out).trans k7); have M7 := hid (M6.out.kin k7); have c70 := M7.out.c0; have c71 := M7.out.c1; clear j7 k7) | (at_builtin; refine app_to (D4.out.more K5.out) (D3.out.more (sq D4.out.bel K5.out)) (m := m + F) rfl rfl (by omega) rfl _ _ rfl rfl rfl ?_; intro ao6 cap6 w6 d6; have G6 := hid (Mk.gv d6 HBY.out); have K6 := hid (sq KA.out (sq D3.out.bel d6.bel)); have J6 := hid (J3.out.more d6.bel); have M6 := hid (M3.out.kin (Kin.of d6.bel)); clear d6) | (go_at_call 29; refine (sector_any J4.out h8 a b ha hb2).mono ?_; rintro e w5 ⟨rfl, k5⟩; rw [show 1 + a * arS d + b / 64 = X from HX.out]; have K5 := hid k5; clear k5) | (refine ld67 M4.out rfl _ rfl rfl ?_) | (go_at_call 32; refine (begun_any J3.out h8 hw hd a b ha hb m HMM.out).mono ?_; rintro e w4 ⟨ao4, cap4, rfl, d4⟩; rw [HX.out] at d4; have D4 := hid d4; have J4 := hid (J3.out.more d4.bel); have M4 := hid (M3.out.kin (Kin.of d4.bel)); clear d4) | (refine ld67 M3.out rfl _ rfl rfl ?_))
    go_ret
    exact ⟨rfl, h, J7.out, K7.out, fun e => absurd e h1, fun _ => rfl⟩
end
end Go.Proofs.Ythhgnflkplpklab
