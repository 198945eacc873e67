/- Split: the parts of bytes. -/
import Derived.Test.YtbipikbefokihaaDoorUn
namespace Go.Proofs.YtbipikbefokihaaDoor
open Go.ChangeShapes Go.WideShapes Go.ChangeAt Go.RowKit

/-- The parts, behind what the present one has already. -/
def spl : List Int → List Int → List (List Int)
  | cur, [] => [cur]
  | cur, c :: r => if c = 28 then cur :: spl [] r else spl (cur ++ [c]) r
theorem spl_28 (cur r : List Int) : spl cur (28 :: r) = cur :: spl [] r := by simp [spl]
theorem spl_o (cur : List Int) (c : Int) (r : List Int) (h : ¬ c = 28) : spl cur (c :: r) = spl (cur ++ [c]) r := by simp [spl, h]
abbrev txts (l : List (List Int)) : List ByteArray := l.map strOfNums
/-- Split as it stands at place k. -/
def SpAt (zs : List Int) (k t : Nat) (done : List (List Int)) : Prop := t ≤ k ∧ spl [] zs = done ++ spl (pc zs t (k - t)) (zs.drop k)
theorem SpAt.start (zs : List Int) : SpAt zs 0 0 [] := ⟨Nat.le_refl _, by simp [pc]⟩
theorem SpAt.sep {zs : List Int} {k t : Nat} {done : List (List Int)} (h : SpAt zs k t done) (hk : k < zs.length) (hc : zs.getD k 0 = 28) : SpAt zs (k + 1) (k + 1) (done ++ [pc zs t (k - t)]) :=
  ⟨Nat.le_refl _, by rw [h.2, drop_cons zs k hk, hc, spl_28]; simp [pc]⟩
theorem SpAt.other {zs : List Int} {k t : Nat} {done : List (List Int)} (h : SpAt zs k t done) (hk : k < zs.length) (hc : ¬ zs.getD k 0 = 28) : SpAt zs (k + 1) t done :=
  ⟨Nat.le_succ_of_le h.1, by rw [h.2, drop_cons zs k hk, spl_o _ _ _ hc, pc_snoc _ _ _ h.1 hk]⟩
theorem SpAt.done {zs : List Int} {k t : Nat} {done : List (List Int)} (h : SpAt zs k t done) (hk : k = zs.length) : spl [] zs = done ++ [zs.drop t] := by
  subst hk
  rw [h.2, List.drop_length, spl, pc, List.take_of_length_le (by rw [List.length_drop]; omega)]
/-- What Split answers. -/
def SpAns (w : World) (zs : List Int) (e : Ending) (w' : World) : Prop :=
  ∃ ao n c, e = .returned (.slice ao n c) ∧ T.Mk w w' (.slice ao n c) n (txts (spl [] zs)) ∧ n ≤ zs.length + 1
theorem txts_snoc (l : List (List Int)) (x : List Int) : txts (l ++ [x]) = txts l ++ [strOfNums x] := by simp [txts]
theorem T.one_row (w : World) (s : ByteArray) : T.RowAt (w.alloc (.cells #[.string s] 9)) (some ⟨w.heap.size, 0, none⟩) [s] := (T.Mk.new w [s] 1 rfl (by omega)).1.at
theorem T.len1 (s : ByteArray) : [s].length = 1 := rfl
set_option maxHeartbeats 4000000 in
theorem split10 (ao : Option Addr) (len cap : Nat) (zs : List Int) (w : World) (h : Given w ao len cap zs) (hl : len ≤ 900000) :
    Calls Tryd.prog 31 #[.slice ao len cap] w (SpAns w zs) := by
  have HG := hid h
  have HQ := hid h.leq
  have hcap := h.cap1
  clear h
  go_enter Tryd.func31, Tryd.ntmps31
  go_wp2
  go_loopw [3, 4, 9] (fun x s i wr => ∃ (k t n c : Nat) (a : Option Addr) (done : List (List Int)), k ≤ len ∧ i = .int .i64 (k : Int) ∧ s = .int .i64 (t : Int) ∧ x = .slice a n c ∧ n ≤ k ∧ SpAt zs k t done ∧ T.Mk w wr (.slice a n c) n (txts done)) (fun _ _ i _ => len - (intOf i).toNat)
  case atStart => exact ⟨0, 0, 0, 0, none, [], by omega, rfl, rfl, rfl, by omega, SpAt.start zs, T.Mk.nil w⟩
  case round =>
    obtain ⟨k, t, n, c, a, done, hk, rfl, rfl, rfl, hn, hat, hmk⟩ := hrel
    have HG2 : Hid (Given wr ao len cap zs) := HG.out.below hmk.2
    have M := hid hmk
    have A := hid hat
    have htk : t ≤ k := hat.1
    have ca := hmk.1.caps
    have ca1 := ca.2.1
    have ca2 := ca.2.2
    have ca0 := hid ca.1
    clear hat hmk ca
    by_cases hlt : k < len
    · have HK : Hid (k < zs.length) := by unfold Hid; rw [HQ.out]; exact hlt
      obtain ⟨b, o, rfl, hc⟩ := HG2.out.cell k hlt
      obtain ⟨z, hcd⟩ : ∃ z, zs.getD k 0 = z := ⟨_, rfl⟩
      rw [hcd] at hc
      have HD := hid hcd
      clear hcd
      by_cases c2 : z = 28
      · subst c2
        have AN := hid (A.out.sep HK.out HD.out)
        obtain ⟨a1, r1, g1, n1⟩ := sub_lh (ao := some ⟨b, o, none⟩) t k htk (by omega : k ≤ len) hcap
        have G1 := g1 _ _ HG2.out
        obtain ⟨S, hS⟩ : ∃ S, strOfNums (pc zs t (k - t)) = S := ⟨_, rfl⟩
        have hcv := run_str wr a1 (pc zs t (k - t)) (k - t) (cap - t) G1.leq G1.row
        rw [hS] at hcv
        have SN : Hid (txts (done ++ [pc zs t (k - t)]) = txts done ++ [S]) := by unfold Hid; rw [txts_snoc, hS]
        have M1 : Hid (T.Mk w (wr.alloc (.cells #[.string S] 9)) (.slice a n c) n (txts done)) := M.out.more (bel1 _ _)
        have R1 := hid (T.one_row wr S)
        have L1 := hid (T.len1 S)
        generalize pc zs t (k - t) = y at *
        generalize k - t = m at *
        generalize cap - t = c1 at *
        clear g1 n1 G1 hS
        go_wp2_with (at_builtin; have kill := M1.out; refine T.app_row (l2 := [S]) M1.out.1 R1.out L1.out (fun e => by cases e) M1.out.2.size (by omega) rfl _ _ rfl rfl rfl ?_; intro a4 c4 w4 r4 t4; have D4 := hid (M1.out.next r4 t4); clear r4 t4 kill M1)
        go_roundw
        case rel => exact ⟨k + 1, k + 1, n + 1, c4, a4, done ++ [y], by omega, by go_num, by go_num, rfl, by omega, AN.out, by rw [SN.out]; exact D4.out⟩
        case measure => simp [intOf]; omega
      · have AN := hid (A.out.other HK.out (by rw [HD.out]; exact c2))
        have e2 : (z == 28) = false := by simpa using c2
        go_wp2
        go_roundw
        case rel => exact ⟨k + 1, t, n, c, a, done, by omega, by go_num, rfl, rfl, by omega, AN.out, M.out⟩
        case measure => simp [intOf]; omega
    · obtain rfl : k = len := by omega
      have AN := hid (A.out.done HQ.out.symm)
      obtain ⟨a1, r1, g1, n1⟩ := sub_l (ao := ao) t (t : Int) rfl htk hcap
      have G1 := g1 _ _ HG2.out
      obtain ⟨S, hS⟩ : ∃ S, strOfNums (zs.drop t) = S := ⟨_, rfl⟩
      have hcv := run_str wr a1 (zs.drop t) (k - t) (cap - t) G1.leq G1.row
      rw [hS] at hcv
      have SN : Hid (txts (spl [] zs) = txts done ++ [S]) := by unfold Hid; rw [AN.out, txts_snoc, hS]
      have M1 : Hid (T.Mk w (wr.alloc (.cells #[.string S] 9)) (.slice a n c) n (txts done)) := M.out.more (bel1 _ _)
      have R1 := hid (T.one_row wr S)
      have L1 := hid (T.len1 S)
      have HQ2 : Hid (n + 1 ≤ zs.length + 1) := by unfold Hid; rw [HQ.out]; omega
      generalize zs.drop t = y at *
      generalize k - t = m at *
      generalize cap - t = c1 at *
      clear g1 n1 G1 hS
      go_wp2_with (at_builtin; have kill := M1.out; refine T.app_row (l2 := [S]) M1.out.1 R1.out L1.out (fun e => by cases e) M1.out.2.size (by omega) rfl _ _ rfl rfl rfl ?_; intro a4 c4 w4 r4 t4; have D4 := hid (M1.out.next r4 t4); clear r4 t4 kill M1)
      go_ret
      exact ⟨a4, n + 1, c4, rfl, by rw [SN.out]; exact D4.out, HQ2.out⟩
set_option maxHeartbeats 4000000 in
theorem split13 (ao : Option Addr) (len cap : Nat) (zs : List Int) (w : World) (h : Given w ao len cap zs) (hl : len ≤ 900000) :
    Calls Tryd.prog 35 #[.slice ao len cap] w (SpAns w zs) := by
  have HG := hid h
  have HQ := hid h.leq
  have hcap := h.cap1
  clear h
  go_enter Tryd.func35, Tryd.ntmps35
  go_wp2
  go_loopw [3, 4, 5] (fun x s i wr => ∃ (k t n c : Nat) (a : Option Addr) (done : List (List Int)), k ≤ len ∧ i = .int .i64 (k : Int) ∧ s = .int .i64 (t : Int) ∧ x = .slice a n c ∧ n ≤ k ∧ SpAt zs k t done ∧ T.Mk w wr (.slice a n c) n (txts done)) (fun _ _ i _ => len - (intOf i).toNat)
  case atStart => exact ⟨0, 0, 0, 0, none, [], by omega, rfl, rfl, rfl, by omega, SpAt.start zs, T.Mk.nil w⟩
  case round =>
    obtain ⟨k, t, n, c, a, done, hk, rfl, rfl, rfl, hn, hat, hmk⟩ := hrel
    have HG2 : Hid (Given wr ao len cap zs) := HG.out.below hmk.2
    have M := hid hmk
    have A := hid hat
    have htk : t ≤ k := hat.1
    have ca := hmk.1.caps
    have ca1 := ca.2.1
    have ca2 := ca.2.2
    have ca0 := hid ca.1
    clear hat hmk ca
    by_cases hlt : k < len
    · have HK : Hid (k < zs.length) := by unfold Hid; rw [HQ.out]; exact hlt
      obtain ⟨b, o, rfl, hc⟩ := HG2.out.cell k hlt
      obtain ⟨z, hcd⟩ : ∃ z, zs.getD k 0 = z := ⟨_, rfl⟩
      rw [hcd] at hc
      have HD := hid hcd
      clear hcd
      by_cases c2 : z = 28
      · subst c2
        have AN := hid (A.out.sep HK.out HD.out)
        obtain ⟨a1, r1, g1, n1⟩ := sub_lh (ao := some ⟨b, o, none⟩) t k htk (by omega : k ≤ len) hcap
        have G1 := g1 _ _ HG2.out
        obtain ⟨S, hS⟩ : ∃ S, strOfNums (pc zs t (k - t)) = S := ⟨_, rfl⟩
        have hcv := run_str wr a1 (pc zs t (k - t)) (k - t) (cap - t) G1.leq G1.row
        rw [hS] at hcv
        have SN : Hid (txts (done ++ [pc zs t (k - t)]) = txts done ++ [S]) := by unfold Hid; rw [txts_snoc, hS]
        have M1 : Hid (T.Mk w (wr.alloc (.cells #[.string S] 9)) (.slice a n c) n (txts done)) := M.out.more (bel1 _ _)
        have R1 := hid (T.one_row wr S)
        have L1 := hid (T.len1 S)
        generalize pc zs t (k - t) = y at *
        generalize k - t = m at *
        generalize cap - t = c1 at *
        clear g1 n1 G1 hS
        go_wp2_with (at_builtin; have kill := M1.out; refine T.app_row (l2 := [S]) M1.out.1 R1.out L1.out (fun e => by cases e) M1.out.2.size (by omega) rfl _ _ rfl rfl rfl ?_; intro a4 c4 w4 r4 t4; have D4 := hid (M1.out.next r4 t4); clear r4 t4 kill M1)
        go_roundw
        case rel => exact ⟨k + 1, k + 1, n + 1, c4, a4, done ++ [y], by omega, by go_num, by go_num, rfl, by omega, AN.out, by rw [SN.out]; exact D4.out⟩
        case measure => simp [intOf]; omega
      · have AN := hid (A.out.other HK.out (by rw [HD.out]; exact c2))
        have e2 : (z == 28) = false := by simpa using c2
        go_wp2
        go_roundw
        case rel => exact ⟨k + 1, t, n, c, a, done, by omega, by go_num, rfl, rfl, by omega, AN.out, M.out⟩
        case measure => simp [intOf]; omega
    · obtain rfl : k = len := by omega
      have AN := hid (A.out.done HQ.out.symm)
      obtain ⟨a1, r1, g1, n1⟩ := sub_l (ao := ao) t (t : Int) rfl htk hcap
      have G1 := g1 _ _ HG2.out
      obtain ⟨S, hS⟩ : ∃ S, strOfNums (zs.drop t) = S := ⟨_, rfl⟩
      have hcv := run_str wr a1 (zs.drop t) (k - t) (cap - t) G1.leq G1.row
      rw [hS] at hcv
      have SN : Hid (txts (spl [] zs) = txts done ++ [S]) := by unfold Hid; rw [AN.out, txts_snoc, hS]
      have M1 : Hid (T.Mk w (wr.alloc (.cells #[.string S] 9)) (.slice a n c) n (txts done)) := M.out.more (bel1 _ _)
      have R1 := hid (T.one_row wr S)
      have L1 := hid (T.len1 S)
      have HQ2 : Hid (n + 1 ≤ zs.length + 1) := by unfold Hid; rw [HQ.out]; omega
      generalize zs.drop t = y at *
      generalize k - t = m at *
      generalize cap - t = c1 at *
      clear g1 n1 G1 hS
      go_wp2_with (at_builtin; have kill := M1.out; refine T.app_row (l2 := [S]) M1.out.1 R1.out L1.out (fun e => by cases e) M1.out.2.size (by omega) rfl _ _ rfl rfl rfl ?_; intro a4 c4 w4 r4 t4; have D4 := hid (M1.out.next r4 t4); clear r4 t4 kill M1)
      go_ret
      exact ⟨a4, n + 1, c4, rfl, by rw [SN.out]; exact D4.out, HQ2.out⟩
end Go.Proofs.YtbipikbefokihaaDoor
