/- Put: the bytes of a message. -/
import Derived.Test.YtfpjjdlfofejcaaRights
import Derived.Test.YtfpjjdlfofejcaaSets
import Derived.Test.YtfpjjdlfofejcaaPuts
import Derived.Test.YtfpjjdlfofejcaaMPuts
namespace Go.Proofs.Ytfpjjdlfofejcaa
open Go.ChangeShapes Go.WideShapes Go.ChangeAt Go.RowKit

theorem type_or {m : Int} (h : typB m = true) : m = 100 ∨ m = 110 ∨ m = 200 ∨ m = 210 ∨ m = 420 ∨ m = 430 ∨ m = 800 ∨ m = 810 := of_decide_eq_true h
theorem type_dig {m : Int} (h : typB m = true) : digOk m 4 = true ∧ (digS m 4).size = 4 ∧ digB (digS m 4).data.toList = true := by
  rcases type_or h with rfl | rfl | rfl | rfl | rfl | rfl | rfl | rfl <;> decide
theorem putT27 (m : Int) (w : World) (ht : typB m = true) :
    Calls Try.prog 27 #[.int .i64 m] w fun e w' => ∃ b, e = .returned (.slice (some ⟨b, 0, none⟩) 2 2) ∧ Mk w w' (.slice (some ⟨b, 0, none⟩) 2 2) 2 (packL (digS m 4)) := by
  obtain ⟨h1, h2, h3⟩ := type_dig ht
  have hm : m ≤ 9223372036854775807 := by rcases type_or ht with h | h | h | h | h | h | h | h <;> omega
  have hd := digits10 m 4 w hm
  rw [h1] at hd
  obtain ⟨s, hs⟩ : ∃ s, digS m 4 = s := ⟨_, rfl⟩
  rw [hs] at h2 h3 hd ⊢
  have H2 := hid h2
  have H3 := hid h3
  clear hs h1 h2 h3 hm ht
  go_enter Try.func27, Try.ntmps27
  go_wp2_with (first | (go_at_call 39; have kill := L1.out; refine (pack_at s 4 2 _ H2.out rfl (by omega) H3.out).mono ?_; rintro e w2 ⟨rfl, m2⟩; have M2 := hid (Mk.from L1.out m2); clear m2 kill) | (go_at_call 38; refine hd.mono ?_; rintro e w1 ⟨rfl, l1⟩; have L1 := hid l1; clear l1))
  go_ret
  exact ⟨_, rfl, M2.out⟩
def numsL (l : List Fd) : List Int := l.map (·.N)
theorem rise_rights : ∀ (l : List Fd) {a : Int}, rightsL l a = true → Map.riseL (numsL l) a = true
  | [], _, _ => rfl
  | f :: r, a, h => by
    have k := rights_cons h
    have h95 := right_95 k.2.1
    show (decide (a < f.N ∧ f.N ≤ 128) && Map.riseL (numsL r) f.N) = true
    rw [rise_rights r k.2.2, decide_eq_true ⟨k.1, by omega⟩]; rfl
theorem numsL_wid {l : List Fd} (h : FOk l) : Wid (numsL l) := by
  intro x hx
  obtain ⟨f, hf, rfl⟩ := List.mem_map.1 hx
  exact ⟨(h f hf).1, (h f hf).2.1⟩
theorem numsL_take {l : List Fd} {k : Nat} {r : Fd} (h : l[k]? = some r) : numsL (l.take (k + 1)) = numsL (l.take k) ++ [r.N] := by
  unfold numsL; rw [List.take_add_one, h]; simp
theorem map_put (ao : Option Addr) (len cap : Nat) (zs : List Int) (w : World) (h : I.Given w ao len cap zs) (hr : Map.riseL zs 1 = true) :
    Calls Try.prog 40 #[.slice ao len cap] w fun e w' => ∃ b, e = .returned (.tuple #[.slice (some ⟨b, 0, none⟩) (Map.sizeL zs) (Map.sizeL zs), .bool true]) ∧ Mk w w' (.slice (some ⟨b, 0, none⟩) (Map.sizeL zs) (Map.sizeL zs)) (Map.sizeL zs) (Map.putL zs) := by
  refine (Map.put_yes ao len cap zs w h hr).mono ?_
  rintro e w' ⟨rfl, rfl⟩
  exact ⟨_, rfl, Mk.new w (Map.putL zs) _ (Map.putL_len zs) (by rcases Map.size_or zs with ⟨_, h⟩ | ⟨_, h⟩ <;> omega)⟩
set_option maxHeartbeats 2000000 in
theorem putN28 (ao : Option Addr) (len cap : Nat) (l : List Fd) (w : World) (h : FG w ao len cap l) (hr : rightsL l 0 = true) :
    Calls Try.prog 28 #[.slice ao len cap] w fun e w' => ∃ b, e = .returned (.slice (some ⟨b, 0, none⟩) (Map.sizeL (numsL l)) (Map.sizeL (numsL l))) ∧ Mk w w' (.slice (some ⟨b, 0, none⟩) (Map.sizeL (numsL l)) (Map.sizeL (numsL l))) (Map.sizeL (numsL l)) (Map.putL (numsL l)) := by
  have HQ := hid h.leq
  have hl9 : len ≤ 95 := by rw [← h.leq]; have := rights_few l (by decide) hr; omega
  have HC := hid h.fc
  have HW := hid (numsL_wid h.ok)
  have HR : Hid (Map.riseL (numsL l) 1 = true) := rise_rights l (by rw [rights_one]; exact hr)
  clear h hr
  go_enter Try.func28, Try.ntmps28
  go_wp2
  go_loopw [3, 10] (fun ns i wr => ∃ (k c : Nat) (a : Option Addr), k ≤ len ∧ i = .int .i64 (k : Int) ∧ ns = .slice a k c ∧ I.Mk w wr (.slice a k c) k (numsL (l.take k))) (fun _ i _ => len - (intOf i).toNat)
  case atStart => exact ⟨0, 0, none, by omega, rfl, rfl, I.Mk.nil w⟩
  case round =>
    obtain ⟨k, c, a1, hk, rfl, rfl, hm⟩ := hrel
    have M1 := hid hm
    clear hm
    by_cases hlt : k < len
    · obtain ⟨r, hr, hok, b, o, rfl, c0, c1⟩ := HC.out.more M1.out.2 k hlt
      have HT := hid (numsL_take hr)
      obtain ⟨N, V⟩ := r
      simp only at c0 c1 HT
      have M2 : Hid (I.Mk w ((wr.alloc (.cells #[.int .i64 N, .string V] 51)).alloc (.cells #[.int .i64 N] 3)) (.slice a1 k c) k (numsL (l.take k))) := M1.out.more (sq (bel1 _ _) (bel1 _ _))
      have G2 := hid (I.Given.new (wr.alloc (.cells #[.int .i64 N, .string V] 51)) [N] 1 rfl (by omega) (fun x hx => by simp at hx; subst hx; exact ⟨hok.1, hok.2.1⟩))
      rw [World.size_alloc] at G2
      have HL1 : Hid ([N].length = 1) := rfl
      clear hr hok M1
      go_wp2_with (refine I.app_row M2.out.1 G2.out.row HL1.out (fun e => by cases e) M2.out.2.size (by omega) rfl _ _ rfl rfl rfl ?_; intro ao3 cap3 w3 r3 t3; have M3 := hid (M2.out.next r3 t3); clear r3 t3)
      go_roundw
      case rel => exact ⟨k + 1, _, _, by omega, by go_num, rfl, HT.out ▸ M3.out⟩
      case measure => simp [intOf]; omega
    · have ek : k = len := by omega
      have M4 : Hid (I.Mk w wr (.slice a1 k c) k (numsL l)) := by
        have := M1.out
        rwa [List.take_of_length_le (by rw [HQ.out]; omega)] at this
      clear M1 ek
      go_wp2_with (go_at_call 40; refine (map_put _ _ _ (numsL l) _ (M4.out.given HW.out) HR.out).mono ?_; rintro e w5 ⟨b5, rfl, m5⟩; have M5 := hid (Mk.from M4.out.2 m5); clear m5)
      go_ret
      exact ⟨_, rfl, M5.out⟩
/-- The fields' bytes. -/
def bodyL (l : List Fd) : List Int := l.flatMap (fun f => putL f.N f.V)
/-- The bytes of a message. -/
def isoL (m : Int) (l : List Fd) : List Int := packL (digS m 4) ++ Map.putL (numsL l) ++ bodyL l
theorem body_take {l : List Fd} {k : Nat} {r : Fd} (h : l[k]? = some r) : bodyL (l.take (k + 1)) = bodyL (l.take k) ++ putL r.N r.V := by
  unfold bodyL; rw [List.take_add_one, h]; simp
theorem putL_few {n : Int} {s : ByteArray} (h : rightB n s = true) : (putL n s).length ≤ 1010 := by
  obtain ⟨_, h1, h2, _⟩ := right_parts h
  unfold putL
  rw [List.length_append]
  have a : (lenL (fV n) s.size).length ≤ 9 := by
    unfold lenL
    split
    · simp
    · rename_i h0
      have := dig_digS (h2.resolve_left h0)
      rw [packL_length]; omega
  have b : (sigL (fD n) s).length ≤ 999 := by
    unfold sigL
    split
    · rw [packL_length]; omega
    · rw [panL_len]; exact h1
  omega
theorem IB.drew {w : World} {b : Nat} {m : Int} {v : Value} (h : IB w b m v) : IB w.drew b m v := h
theorem IB.lt {w : World} {b : Nat} {m : Int} {v : Value} (h : IB w b m v) : b < w.heap.size := World.block_lt_of_cell? w _ h.1
theorem IB.keep {w w' : World} {b B : Nat} {m : Int} {v : Value} (h : IB w b m v) (hB : b < B) (hb : Below B w w') : IB w' b m v :=
  ⟨(hb.cell (p := ⟨b, 0, none⟩) hB).trans h.1, (hb.cell (p := ⟨b, 1, none⟩) hB).trans h.2⟩
theorem put19_no (m : Int) (ao : Option Addr) (len cap : Nat) (l : List Fd) (w : World) (h : FG w ao len cap l) (hr : rightM m l = false) :
    Calls Try.prog 19 #[.agg #[.int .i64 m, .slice ao len cap]] w fun e w' => e = .returned (.tuple #[.slice none 0 0, .int .i64 27]) ∧ Below w.heap.size w w' := by
  have B1 := hid (bel1 w (.cells #[.int .i64 m, .slice ao len cap] 24))
  have HG := hid (h.below B1.out)
  have HM := hid hr
  clear h hr
  go_enter Try.func19, Try.ntmps19
  go_wp2_with (go_at_call 18; refine (right18 m _ _ _ l _ HG.out).mono ?_; rintro e w2 ⟨rfl, l2⟩; rw [HM.out]; have B2 := hid (sq B1.out l2); clear l2)
  go_ret2
  exact ⟨rfl, B2.out⟩
set_option maxHeartbeats 4000000 in
theorem put19_yes (m : Int) (ao : Option Addr) (len cap : Nat) (l : List Fd) (w : World) (h : FG w ao len cap l) (hr : rightM m l = true) :
    Calls Try.prog 19 #[.agg #[.int .i64 m, .slice ao len cap]] w fun e w' => ∃ ao' N cap', e = .returned (.tuple #[.slice ao' N cap', .int .i64 0]) ∧ Mk w w' (.slice ao' N cap') N (isoL m l) := by
  have B1 := hid (bel1 w (.cells #[.int .i64 m, .slice ao len cap] 24))
  have HQ := hid h.leq
  have hl9 : len ≤ 95 := by rw [← h.leq]; exact msg_few hr
  have HG := hid h
  have HC := hid h.fc
  have HM := hid hr
  have I1 := hid (IB.new w m (.slice ao len cap))
  unfold rightM at hr
  rw [Bool.and_eq_true] at hr
  have HT := hid hr.1
  have HR := hid hr.2
  have HZ : Hid (Map.sizeL (numsL l) ≤ 16) := by unfold Hid; rcases Map.size_or (numsL l) with ⟨_, h⟩ | ⟨_, h⟩ <;> omega
  clear h hr
  go_enter Try.func19, Try.ntmps19
  go_wp2_with (go_at_call 18; refine (right18 m _ _ _ l _ (HG.out.below B1.out)).mono ?_; rintro e w2 ⟨rfl, l2⟩; rw [HM.out]; have B2 := hid (sq B1.out l2); have I2 := hid (I1.out.more l2); clear l2)
  refine wp_region_noPanic ?_
  refine wp_region_held_drew (S := fun w' => IB w' w.heap.size m (.slice ao len cap)) (by kernel_rfl) I2.out.drew (fun hHeld => ?_)
  (refine tk_yes (v := ?_) 0 (some 12) rfl rfl (by kernel_rfl) (by kernel_rfl) (by kernel_rfl) (fun _ _ _ h => h) (by rfl) ?_ hHeld ?_; rotate_left; focus (intro w9 hSw; obtain ⟨s1, s2⟩ := id hSw; go_simp; try with_reducible rfl))
  try simp only [Act.put, List.setIfInBounds_toArray, List.set_cons_zero, List.set_cons_succ]
  (refine tk_yes (v := ?_) 3 (some 15) rfl rfl (by kernel_rfl) (by kernel_rfl) (by kernel_rfl) (fun _ _ _ h => h) (by rfl) ?_ hHeld ?_; rotate_left; focus (intro w9 hSw; obtain ⟨s1, s2⟩ := id hSw; go_simp; try with_reducible rfl))
  try simp only [Act.put, List.setIfInBounds_toArray, List.set_cons_zero, List.set_cons_succ]
  (refine tk_yes (v := .int .i64 m) 1 (some 13) rfl rfl (by kernel_rfl) (by kernel_rfl) (by kernel_rfl) (fun _ _ _ h => h) (by rfl) ?_ hHeld ?_; focus (intro w9 hSw; obtain ⟨s1, s2⟩ := id hSw; go_simp))
  try simp only [Act.put, List.setIfInBounds_toArray, List.set_cons_zero, List.set_cons_succ]
  (refine tk_yes (v := .slice ao len cap) 4 (some 16) rfl rfl (by kernel_rfl) (by kernel_rfl) (by kernel_rfl) (fun _ _ _ h => h) (by rfl) ?_ hHeld ?_; focus (intro w9 hSw; obtain ⟨s1, s2⟩ := id hSw; go_simp))
  try simp only [Act.put, List.setIfInBounds_toArray, List.set_cons_zero, List.set_cons_succ]
  refine wpAnyH_ready (rs := [2]) (by kernel_rfl) (by simp) ?_
  refine AllReadyH.cons rfl (fun K hK => ?_) AllReadyH.nil
  go_simp
  go_at_call 27
  refine (putT27 m _ HT.out).mono ?_
  rintro e w3 ⟨b3, rfl, m3⟩
  have M3 := hid m3
  have I3 := hid (I2.out.drew.more m3.2)
  clear m3
  go_simp
  refine hK.out _ _ I3.out (fun hHeld => ?_)
  clear hK K
  try simp only [Act.put, List.setIfInBounds_toArray, List.set_cons_zero, List.set_cons_succ]
  refine wpAnyH_ready (rs := [5]) (by kernel_rfl) (by simp) ?_
  refine AllReadyH.cons rfl (fun K hK => ?_) AllReadyH.nil
  go_simp
  go_at_call 28
  refine (putN28 _ _ _ l _ (HG.out.below (sq B2.out.drew M3.out.2)) HR.out).mono ?_
  rintro e w4 ⟨b4, rfl, m4⟩
  have N4 := hid m4
  have M4 := hid (M3.out.more m4.2)
  have I4 := hid (I3.out.more m4.2)
  clear m4
  go_simp
  refine hK.out _ _ I4.out (fun hHeld => ?_)
  clear hK K
  try simp only [Act.put, List.setIfInBounds_toArray, List.set_cons_zero, List.set_cons_succ]
  refine wpAnyH_ready (rs := [6]) (by kernel_rfl) (by simp) ?_
  refine AllReadyH.cons (o := { dst := some 18, op := _, type := _, pos := _, after := _, guard := none }) rfl (fun K hK => ?_) AllReadyH.nil
  refine app_row_step M4.out.1 N4.out.1.at N4.out.1.len M4.out.2.size (by have := HZ.out; omega) rfl _ _ rfl rfl rfl ?_
  intro ao5 c5 w5 r5 t5
  have M5 := hid (M4.out.next r5 t5)
  have I5 := hid (I4.out.keep I2.out.drew.lt (t5.below (fun k e => M4.out.1.blk k e) M4.out.2.size))
  clear r5 t5
  refine hK.out _ _ I5.out (fun hHeld => ?_)
  clear hK K
  try simp only [Act.put, List.setIfInBounds_toArray, List.set_cons_zero, List.set_cons_succ]
  (refine tk_yes (v := ?_) 7 (some 4) rfl rfl (by kernel_rfl) (by kernel_rfl) (by kernel_rfl) (fun _ _ _ h => h) (by rfl) ?_ hHeld ?_; rotate_left; focus (intro w9 hSw; obtain ⟨s1, s2⟩ := id hSw; go_simp; try with_reducible rfl))
  try simp only [Act.put, List.setIfInBounds_toArray, List.set_cons_zero, List.set_cons_succ]
  refine wpAnyH_done (by kernel_rfl) ?_ _
  refine NoPanic.normal ?_
  have P5 := hid (Mk.from B2.out.drew M5.out)
  obtain ⟨i0, i1⟩ := I5.out
  go_wp2
  go_loopw [4, 22] (fun ou i wr => ∃ (k n c : Nat) (a : Option Addr), k ≤ len ∧ i = .int .i64 (k : Int) ∧ ou = .slice a n c ∧ n ≤ 18 + 1010 * k ∧ Mk w wr (.slice a n c) n (packL (digS m 4) ++ Map.putL (numsL l) ++ bodyL (l.take k))) (fun _ i _ => len - (intOf i).toNat)
  case atStart => exact ⟨0, _, _, _, by omega, rfl, rfl, by have := HZ.out; omega, by rw [List.take_zero]; simpa [bodyL] using P5.out⟩
  case round =>
    obtain ⟨k, n, c, a1, hk, rfl, rfl, hn, hm⟩ := hrel
    have M6 := hid hm
    clear hm P5 M5 I5 i0 i1
    by_cases hlt : k < len
    · obtain ⟨r, hr, hok, b, o, rfl, c0, c1⟩ := HC.out.more M6.out.2 k hlt
      have HT' := hid (body_take hr)
      have HRB := hid (rights_all l HR.out r (List.mem_of_getElem? hr)).2
      obtain ⟨N, V⟩ := r
      simp only at c0 c1 HT' HRB
      have HFW := hid (putL_few HRB.out)
      have M7 : Hid (Mk w (wr.alloc (.cells #[.int .i64 N, .string V] 51)) _ _ _) := M6.out.more (bel1 _ _)
      clear hr hok M6
      go_wp2_with (first | (refine app_row M8.out.1 P8.out.1.at P8.out.1.len (fun e => by have := P8.out.1.caps.1 e; omega) M8.out.2.size (by have := P8.out.1.len; have := HFW.out; omega) rfl _ _ rfl rfl rfl ?_; intro ao9 cap9 w9 r9 t9; have M9 := hid (M8.out.next r9 t9); clear r9 t9) | (go_at_call 29; refine (put_yes N V _ HRB.out).mono ?_; rintro e w8 ⟨ao8, n8, c8, rfl, m8⟩; have P8 := hid m8; have M8 := hid (M7.out.more m8.2); clear m8))
      go_roundw
      case rel => exact ⟨k + 1, _, _, _, by omega, by go_num, rfl, by have := P8.out.1.len; have := HFW.out; omega, by rw [HT'.out, ← List.append_assoc]; exact M9.out⟩
      case measure => simp [intOf]; omega
    · have M7 : Hid (Mk w wr (.slice a1 n c) n (isoL m l)) := by
        have := M6.out
        rwa [List.take_of_length_le (by rw [HQ.out]; omega)] at this
      clear M6
      go_wp2
      go_ret2
      exact ⟨_, _, _, rfl, M7.out⟩
end Go.Proofs.Ytfpjjdlfofejcaa
