/- Put: the code's and the document's. -/
import Derived.Test.YthchgjndaeefmaaTiny
namespace Go.Proofs.Ythchgjndaeefmaa
open Go.ChangeShapes Go.WideShapes Go.ChangeAt Go.RowKit

theorem panL_app (a b : ByteArray) : panL (a ++ b) = panL a ++ panL b := by simp [panL]
theorem panL_strN {l : List Int} (h : Byt l) : panL (strOfNums l) = l := by
  have : ∀ x ∈ l, ((UInt8.ofNat x.toNat).toNat : Int) = x := fun x hx => ofNat_toNat x (h x hx).1 (h x hx).2
  unfold panL strOfNums
  simp only [List.map_map]
  conv => rhs; rw [← List.map_id l]
  exact List.map_congr_left fun x hx => this x hx
theorem panL_80 : panL ⟨#[80]⟩ = [80] := rfl
theorem text_put (r : Ps) : panL (⟨#[80]⟩ ++ strOfNums (decL r.term 5) ++ strOfNums (decL r.seq 6) ++ strOfNums (decL r.amt 12) ++ r.pan) = putT r := by
  rw [panL_app, panL_app, panL_app, panL_app, panL_80, panL_strN (decL_byt _ _), panL_strN (decL_byt _ _), panL_strN (decL_byt _ _)]
  simp [putT]
theorem bytes_given (w : World) (s : ByteArray) (c : Nat) (h1 : s.size ≤ c) (h2 : c ≤ 9223372036854775807) (F : Nat × Nat) :
    Given (w.drew.alloc (.cells (bytesRow s c) 5 F)) (some ⟨w.heap.size, 0, none⟩) s.size c (panL s) :=
  ⟨panL_len s, panL_byt s, .inr ⟨_, _, rfl, fun i hi => by
    have h := heap_alloc_new w.drew (.cells (bytesRow s c) 5 F)
    have hi' : i < s.size := by rw [panL_len] at hi; exact hi
    rw [Nat.zero_add, World.cell?]
    simp only [show w.drew.heap.size = w.heap.size from rfl] at h
    simp only [h]
    simp [bytesRow, panL, Array.getElem?_append, hi']⟩, h1, h2⟩
/-- A text turned into bytes. -/
theorem cv_step {ops : Array Oper} {rest : List Oper} {op : Oper} {a : Act} {w : World} {Q : Exit → Act → World → Prop} {s : ByteArray} {zs : List Int} (hz : panL s = zs) (hs : s.size ≤ 1000000) (hgd : op.guard = none) (x : Operand) (ho : op.op = .convert 9 26 x) (hx : a.eval x = .string s)
    (h : ∀ b n c w', Given w' (some ⟨b, 0, none⟩) n c zs → Below w.heap.size w w' → wpList Try.prog ops Q rest (a.put op.dst (.slice (some ⟨b, 0, none⟩) n c)) w') : wpList Try.prog ops Q (op :: rest) a w :=
  wpList_plain hgd fun K hK => by
    have kc := run_bytes_of_string (P := Try.prog) w 9 26 5 s Try.underlying9 Try.underlying26 Try.underlying5
    have h1 := grownCap_ge w s.size 0 5
    have h2 := grownCap_le_maxLen w s.size 0 5 (by unfold maxLen; omega)
    unfold maxLen at h2
    unfold Oper.wp execOp
    simp only [ho, hx]
    simp [kc, go_sem]
    have hg := bytes_given w s _ h1 (by omega) ((bytesRow s (grownCap w s.size 0 5)).size, (bytesRow s (grownCap w s.size 0 5)).size + 1)
    rw [hz] at hg
    exact hK _ _ (h _ _ _ _ hg (((Below.refl _ w).drew).alloc (Nat.le_refl _) _))
def PutAns (w : World) (r : Ps) (e : Ending) (w' : World) : Prop :=
  ∃ ao n c, e = .returned (.tuple #[.slice ao n c, .int .i64 (putE r)]) ∧ Mk w w' (.slice ao n c) n (putL r)
theorem dig_ok {v n : Int} (m : Nat) (hn : n = m) (h0 : 0 ≤ v) (h1 : 1 ≤ m) (h2 : m ≤ 18) (h : v / 10 ^ m = 0) : digS v n = strOfNums (decL v m) ∧ (digS v n).size = m := by
  subst hn
  have := (digOk_yes h0 h1 h2 h).2
  rw [this]
  exact ⟨rfl, by rw [strOfNums_size, decL_length]⟩
theorem put_no {w w' : World} {r : Ps} (h : rightL r = false) (hb : Below w.heap.size w w') : PutAns w r (.returned (.tuple #[.slice none 0 0, .int .i64 27])) w' :=
  ⟨none, 0, 0, by rw [putE_no h], by rw [putL_no h]; exact ⟨Row.nil _ _, hb⟩⟩
theorem put_yes {w w' : World} {r : Ps} {ao : Option Addr} {n c : Nat} (h : rightL r = true) (hm : Mk w w' (.slice ao n c) n (putL r)) : PutAns w r (.returned (.tuple #[.slice ao n c, .int .i64 0])) w' :=
  ⟨ao, n, c, by rw [putE_yes h], hm⟩
theorem fr_put {r : Ps} (h : rightL r = true) : frOk (putT r) = true ∧ frX (putT r) = putL r := by
  have := putT_fr h
  exact ⟨this, by unfold frX; rw [if_pos this, putL_yes h]⟩
theorem cellkept {w w' : World} {b i : Nat} {v : Value} (h : w.cell? ⟨b, i, none⟩ = some v) (hb : Below w.heap.size w w') : w'.cell? ⟨b, i, none⟩ = some v := by
  rw [World.cell?_of_block (w := w) (a := ⟨b, i, none⟩) (hb.block b (World.block_lt_of_cell? w _ h))]; exact h
theorem Mk.of_below {W0 w w' : World} {v : Value} {n : Nat} {l : List Int} (hb : Below W0.heap.size W0 w) (h : Mk w w' v n l) : Mk W0 w' v n l := ⟨h.1.mono hb.size, sq hb h.2⟩
set_option maxHeartbeats 4000000 in
theorem put8 (r : Ps) (w : World) (ho : r.Ok) (hs : r.pan.size ≤ 9223372036854775807) :
    Calls Try.prog 8 #[r.val] w (PutAns w r) := by
  obtain ⟨t, s, p, a⟩ := r
  have HP := hid hs
  clear hs
  cases hr : rightL ⟨t, s, p, a⟩
  · have HR := hid hr
    clear hr
    go_enter Try.func8, Try.ntmps8
    go_wp2_with (first | (go_at_call 10; have kill := L1.out; refine (right10 ⟨t, s, p, a⟩ _ HP.out).mono ?_; rintro e w3 ⟨rfl, l3⟩; rw [HR.out]; have L6 := hid (sq L1.out l3); clear l3 kill L1) | (have kill := V1.out; refine ld25 V1.out rfl _ rfl rfl ?_) | (refine bx25 (r := ⟨t, s, p, a⟩) rfl _ rfl rfl ?_; intro b1 w1 hb1 v1 l1; have L1 := hid l1; have V1 := hid v1; clear v1 l1))
    go_ret2
    exact put_no HR.out L6.out
  · have HR := hid hr
    have HF := hid (fr_put hr)
    have R := right_parts hr
    have t1 : 0 ≤ t := ho.term.1
    have t2 : t < 65536 := ho.term.2
    have s1 : 0 ≤ s := ho.seq.1
    have s3 : s ≤ 999999 := R.seq
    have a1 : 1 ≤ a := R.a1
    have a2 : a ≤ 1000000 := R.a2
    have p2 : p.size ≤ 19 := R.p2
    have e5 := dig_ok (v := t) (n := 5) 5 rfl t1 (by omega) (by omega) (by omega)
    have e6 := dig_ok (v := s) (n := 6) 6 rfl s1 (by omega) (by omega) (by omega)
    have e12 := dig_ok (v := a) (n := 12) 12 rfl (by omega) (by omega) (by omega) (by omega)
    obtain ⟨D5, hd5⟩ : ∃ D, digS t 5 = D := ⟨_, rfl⟩
    obtain ⟨D6, hd6⟩ : ∃ D, digS s 6 = D := ⟨_, rfl⟩
    obtain ⟨D12, hd12⟩ : ∃ D, digS a 12 = D := ⟨_, rfl⟩
    rw [hd5] at e5
    rw [hd6] at e6
    rw [hd12] at e12
    have HT : Hid (panL (⟨#[80]⟩ ++ D5 ++ D6 ++ D12 ++ p) = putT ⟨t, s, p, a⟩) := by
      unfold Hid; rw [e5.1, e6.1, e12.1]; exact text_put ⟨t, s, p, a⟩
    have z5 := e5.2
    have z6 := e6.2
    have z12 := e12.2
    have HTS : Hid ((⟨#[80]⟩ ++ D5 ++ D6 ++ D12 ++ p : ByteArray).size ≤ 1000000) := by
      unfold Hid
      simp only [ByteArray.size_append, z5, z6, z12]
      show 1 + 5 + 6 + 12 + p.size ≤ 1000000
      omega
    have H5 := hid hd5
    have H6 := hid hd6
    have H12 := hid hd12
    have HM : Hid (t ≤ 9223372036854775807) := by unfold Hid; omega
    have HS : Hid (s ≤ 9223372036854775807) := by unfold Hid; omega
    have HA : Hid (a ≤ 9223372036854775807) := by unfold Hid; omega
    clear hr R e5 e6 e12 hd5 hd6 hd12
    go_enter Try.func8, Try.ntmps8
    go_wp2_with (first | (go_at_call 17; have kill := G9.out; refine (frame17 _ _ _ _ _ G9.out (fun e => by cases e)).mono ?_; rintro e wa ⟨aa, na, ca, rfl, ma⟩; rw [HF.out.1]; rw [HF.out.2] at ma; have M10 := hid (Mk.of_below L9.out ma); clear ma kill G9) | (have kill := L6.out; refine cv_step HT.out HTS.out rfl _ rfl rfl ?_; intro b9 n9 k9 w9 g9 l9; have G9 := hid g9; have L9 := hid (sq L6.out l9); clear g9 l9 kill L6) | (go_at_call 16; have kill := K5.out; refine (digits10 _ _ _ HA.out).mono ?_; rintro e w6 ⟨rfl, l6⟩; rw [H12.out]; have L6 := hid (sq L5.out l6); have c2 := cellkept c2 l6; clear l6 L5; clear kill K5) | (go_at_call 16; have kill := K4.out; refine (digits10 _ _ _ HS.out).mono ?_; rintro e w5 ⟨rfl, l5⟩; rw [H6.out]; have L5 := hid (sq L4.out l5); have c2 := cellkept c2 l5; have c3 := cellkept c3 l5; clear l5 L4; have K5 : Hid True := trivial; clear kill K4) | (go_at_call 16; have kill := K3.out; refine (digits10 _ _ _ HM.out).mono ?_; rintro e w4 ⟨rfl, l4⟩; rw [H5.out]; have L4 := hid (sq L3.out l4); have c1 := cellkept c1 l4; have c2 := cellkept c2 l4; have c3 := cellkept c3 l4; clear l4 L3 c0; have K4 : Hid True := trivial; clear kill K3) | (go_at_call 10; have kill := L1.out; refine (right10 ⟨t, s, p, a⟩ _ HP.out).mono ?_; rintro e w3 ⟨rfl, l3⟩; rw [HR.out]; have L3 := hid (sq L1.out l3); have v3 := V1.out.below l3; have c0 := v3.cell 0 rfl; have c1 := v3.cell 1 rfl; have c2 := v3.cell 2 rfl; have c3 := v3.cell 3 rfl; have K3 : Hid True := trivial; clear l3 v3 kill L1 V1) | (have kill := V1.out; refine ld25 V1.out rfl _ rfl rfl ?_) | (refine bx25 (r := ⟨t, s, p, a⟩) rfl _ rfl rfl ?_; intro b1 w1 hb1 v1 l1; have L1 := hid l1; have V1 := hid v1; clear v1 l1))
    go_ret2
    exact put_yes HR.out M10.out
set_option maxHeartbeats 4000000 in
theorem put9 (r : Ps) (w : World) (ho : r.Ok) (hs : r.pan.size ≤ 9223372036854775807) :
    Calls Try.prog 9 #[r.val] w (PutAns w r) := by
  obtain ⟨t, s, p, a⟩ := r
  have HP := hid hs
  clear hs
  cases hr : rightL ⟨t, s, p, a⟩
  · have HR := hid hr
    clear hr
    go_enter Try.func9, Try.ntmps9
    go_wp2_with (first | (go_at_call 11; have kill := L1.out; refine (right11 ⟨t, s, p, a⟩ _ HP.out).mono ?_; rintro e w3 ⟨rfl, l3⟩; rw [HR.out]; have L6 := hid (sq L1.out l3); clear l3 kill L1) | (have kill := V1.out; refine ld25 V1.out rfl _ rfl rfl ?_) | (refine bx25 (r := ⟨t, s, p, a⟩) rfl _ rfl rfl ?_; intro b1 w1 hb1 v1 l1; have L1 := hid l1; have V1 := hid v1; clear v1 l1))
    go_ret2
    exact put_no HR.out L6.out
  · have HR := hid hr
    have HF := hid (fr_put hr)
    have R := right_parts hr
    have t1 : 0 ≤ t := ho.term.1
    have t2 : t < 65536 := ho.term.2
    have s1 : 0 ≤ s := ho.seq.1
    have s3 : s ≤ 999999 := R.seq
    have a1 : 1 ≤ a := R.a1
    have a2 : a ≤ 1000000 := R.a2
    have p2 : p.size ≤ 19 := R.p2
    have e5 := dig_ok (v := t) (n := 5) 5 rfl t1 (by omega) (by omega) (by omega)
    have e6 := dig_ok (v := s) (n := 6) 6 rfl s1 (by omega) (by omega) (by omega)
    have e12 := dig_ok (v := a) (n := 12) 12 rfl (by omega) (by omega) (by omega) (by omega)
    obtain ⟨D5, hd5⟩ : ∃ D, digS t 5 = D := ⟨_, rfl⟩
    obtain ⟨D6, hd6⟩ : ∃ D, digS s 6 = D := ⟨_, rfl⟩
    obtain ⟨D12, hd12⟩ : ∃ D, digS a 12 = D := ⟨_, rfl⟩
    rw [hd5] at e5
    rw [hd6] at e6
    rw [hd12] at e12
    have HT : Hid (panL (⟨#[80]⟩ ++ D5 ++ D6 ++ D12 ++ p) = putT ⟨t, s, p, a⟩) := by
      unfold Hid; rw [e5.1, e6.1, e12.1]; exact text_put ⟨t, s, p, a⟩
    have z5 := e5.2
    have z6 := e6.2
    have z12 := e12.2
    have HTS : Hid ((⟨#[80]⟩ ++ D5 ++ D6 ++ D12 ++ p : ByteArray).size ≤ 1000000) := by
      unfold Hid
      simp only [ByteArray.size_append, z5, z6, z12]
      show 1 + 5 + 6 + 12 + p.size ≤ 1000000
      omega
    have H5 := hid hd5
    have H6 := hid hd6
    have H12 := hid hd12
    have HM : Hid (t ≤ 9223372036854775807) := by unfold Hid; omega
    have HS : Hid (s ≤ 9223372036854775807) := by unfold Hid; omega
    have HA : Hid (a ≤ 9223372036854775807) := by unfold Hid; omega
    clear hr R e5 e6 e12 hd5 hd6 hd12
    go_enter Try.func9, Try.ntmps9
    go_wp2_with (first | (go_at_call 15; have kill := G9.out; refine (frame18 _ _ _ _ _ G9.out (fun e => by cases e)).mono ?_; rintro e wa ⟨aa, na, ca, rfl, ma⟩; rw [HF.out.1]; rw [HF.out.2] at ma; have M10 := hid (Mk.of_below L9.out ma); clear ma kill G9) | (have kill := L6.out; refine cv_step HT.out HTS.out rfl _ rfl rfl ?_; intro b9 n9 k9 w9 g9 l9; have G9 := hid g9; have L9 := hid (sq L6.out l9); clear g9 l9 kill L6) | (go_at_call 18; have kill := K5.out; refine (digits11 _ _ _ HA.out).mono ?_; rintro e w6 ⟨rfl, rfl⟩; rw [H12.out]; clear kill K5) | (go_at_call 18; have kill := K4.out; refine (digits11 _ _ _ HS.out).mono ?_; rintro e w5 ⟨rfl, rfl⟩; rw [H6.out]; have K5 : Hid True := trivial; clear kill K4) | (go_at_call 18; have kill := K3.out; refine (digits11 _ _ _ HM.out).mono ?_; rintro e w4 ⟨rfl, rfl⟩; rw [H5.out]; have K4 : Hid True := trivial; clear kill K3) | (go_at_call 11; have kill := L1.out; refine (right11 ⟨t, s, p, a⟩ _ HP.out).mono ?_; rintro e w3 ⟨rfl, l3⟩; rw [HR.out]; have L6 := hid (sq L1.out l3); have v3 := V1.out.below l3; have c0 := v3.cell 0 rfl; have c1 := v3.cell 1 rfl; have c2 := v3.cell 2 rfl; have c3 := v3.cell 3 rfl; have K3 : Hid True := trivial; clear l3 v3 kill L1 V1) | (have kill := V1.out; refine ld25 V1.out rfl _ rfl rfl ?_) | (refine bx25 (r := ⟨t, s, p, a⟩) rfl _ rfl rfl ?_; intro b1 w1 hb1 v1 l1; have L1 := hid l1; have V1 := hid v1; clear v1 l1))
    go_ret2
    exact put_yes HR.out M10.out
end Go.Proofs.Ythchgjndaeefmaa
