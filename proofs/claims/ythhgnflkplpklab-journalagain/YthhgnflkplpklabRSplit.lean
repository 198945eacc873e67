/- split: the body and the sum of a record's bytes. -/
import Derived.Test.YthhgnflkplpklabRRecs
namespace Go.Proofs.Ythhgnflkplpklab.Frm
set_option maxRecDepth 20000
open Go.ChangeShapes Go.WideShapes Go.ChangeAt Go.RowKit

theorem num_bd' {zs : List Int} (h : Byt zs) (i n : Nat) (N : Int) (hN : (2 : Int) ^ (8 * n) = N) (hl : i + n ≤ zs.length) : ∃ y, num (pc zs i n) = y ∧ 0 ≤ y ∧ y < N := by
  have := num_bd _ (byt_pc h i n)
  rw [pc_len hl, hN] at this
  exact ⟨_, rfl, this⟩
set_option maxHeartbeats 1000000 in
theorem split_short (ao : Option Addr) (zs : List Int) (len cap : Nat) (w : World) (hl : zs.length = len) (hn : len < 2) :
    Calls Try.prog 36 #[.slice ao len cap] w fun e w' => splB zs = false ∧ e = .returned (.tuple #[.slice none 0 0, .int .u32 0, .bool false]) ∧ Below w.heap.size w w' := by
  have HB : Hid (splB zs = false) := by unfold Hid; simp [splB, hl, show ¬ 2 ≤ len by omega]
  have i1 : (len : Int) < 2 := by omega
  go_enter Try.func36, Try.ntmps36
  go_wp2
  go_ret3
  exact ⟨HB.out, rfl, Below.refl _ _⟩
set_option maxHeartbeats 1000000 in
theorem split_mark (b o : Nat) (zs : List Int) (len cap : Nat) (w : World) (hl : zs.length = len) (hn : 2 ≤ len) (hr : RowAt w (some ⟨b, o, none⟩) zs) (hm : ¬ zs.getD 0 0 = 165) :
    Calls Try.prog 36 #[.slice (some ⟨b, o, none⟩) len cap] w fun e w' => splB zs = false ∧ e = .returned (.tuple #[.slice none 0 0, .int .u32 0, .bool false]) ∧ Below w.heap.size w w' := by
  have HB : Hid (splB zs = false) := by unfold Hid; unfold splB; rw [decide_eq_false hm]; simp
  have i1 : ¬ (len : Int) < 2 := by omega
  have i2 : (2 : Int) ≤ (len : Int) := by omega
  have i3 : (0 : Int) < (len : Int) := by omega
  have c0 : w.cell? ⟨b, o, none⟩ = some (.int .u8 (zs.getD 0 0)) := by
    rcases hr with h | ⟨b', o', e, h⟩
    · rw [h] at hl; simp at hl; omega
    · cases e; exact h 0 (by omega)
  generalize zs.getD 0 0 = x at *
  go_enter Try.func36, Try.ntmps36
  go_wp2
  go_ret3
  exact ⟨HB.out, rfl, Below.refl _ _⟩
set_option maxHeartbeats 1000000 in
theorem split_cut (b o : Nat) (zs : List Int) (len cap n : Nat) (w : World) (hl : zs.length = len) (hn : 2 ≤ len) (hcap : len ≤ cap) (hr : RowAt w (some ⟨b, o, none⟩) zs) (hm : zs.getD 0 0 = 165) (h1 : zs.getD 1 0 = (n : Int)) (hb : n < 256) (hlong : len < n + 6) (hc2 : cap ≤ 9223372036854775807) :
    Calls Try.prog 36 #[.slice (some ⟨b, o, none⟩) len cap] w fun e w' => splB zs = false ∧ e = .returned (.tuple #[.slice none 0 0, .int .u32 0, .bool false]) ∧ Below w.heap.size w w' := by
  have HB : Hid (splB zs = false) := by
    unfold Hid; unfold splB; rw [h1, hl, decide_eq_false (show ¬ ((n : Int) + 6 ≤ (len : Int)) by omega)]; simp
  have i1 : ¬ (len : Int) < 2 := by omega
  have i2 : (2 : Int) ≤ (len : Int) := by omega
  have i3 : (0 : Int) < (len : Int) := by omega
  have i4 : (1 : Int) < (len : Int) := by omega
  have i5 : (len : Int) ≤ (cap : Int) := by omega
  have i6 : (2 : Int) ≤ (cap : Int) := by omega
  have i7 : ((len : Int) - 2).toNat = len - 2 := by omega
  have i8 : ((len - 2 : Nat) : Int) < (n : Int) + 4 := by omega
  have c0 : w.cell? ⟨b, o, none⟩ = some (.int .u8 165) := by
    rcases hr with h | ⟨b', o', e, h⟩
    · rw [h] at hl; simp at hl; omega
    · cases e; rw [← hm]; exact h 0 (by omega)
  have c1 : w.cell? ⟨b, o + 1, none⟩ = some (.int .u8 (n : Int)) := by
    rcases hr with h | ⟨b', o', e, h⟩
    · rw [h] at hl; simp at hl; omega
    · cases e; rw [← h1]; exact h 1 (by omega)
  clear h1 hm hr
  by_cases hc : cap = 2
  · have e2 : len = 2 := by omega
    subst hc e2
    go_enter Try.func36, Try.ntmps36
    go_wp2
    go_region_held3 (fun w' => w'.cell? ⟨b, o + 1, none⟩ = some (.int .u8 (n : Int))) ((exact c1)) (fail)
    go_wp2
    go_ret3
    exact ⟨HB.out, rfl, (Below.refl _ _).drew⟩
  · go_enter Try.func36, Try.ntmps36
    go_wp2
    go_region_held3 (fun w' => w'.cell? ⟨b, o + 1, none⟩ = some (.int .u8 (n : Int))) ((exact c1)) (fail)
    go_wp2
    go_ret3
    exact ⟨HB.out, rfl, (Below.refl _ _).drew⟩
theorem pc_all (zs : List Int) (i m : Nat) : (zs.drop i).take m = pc zs i m := rfl
set_option maxHeartbeats 1000000 in
theorem split_yes (b o : Nat) (zs : List Int) (len cap n : Nat) (w : World) (hl : zs.length = len) (hby : Byt zs) (hcap : len ≤ cap) (hr : RowAt w (some ⟨b, o, none⟩) zs) (hm : zs.getD 0 0 = 165) (h1 : zs.getD 1 0 = (n : Int)) (hb : n < 256) (hlong : n + 6 ≤ len) (hc2 : cap ≤ 9223372036854775807) :
    Calls Try.prog 36 #[.slice (some ⟨b, o, none⟩) len cap] w fun e w' => splB zs = true ∧ e = .returned (.tuple #[.slice (some ⟨b, o + 2, none⟩) n (cap - 2), .int .u32 (sumX zs), .bool true]) ∧ Below w.heap.size w w' := by
  have HB : Hid (splB zs = true) := by
    unfold Hid; unfold splB; rw [h1, hl, hm]; simp; omega
  have i1 : ¬ (len : Int) < 2 := by omega
  have i2 : (2 : Int) ≤ (len : Int) := by omega
  have i3 : (0 : Int) < (len : Int) := by omega
  have i4 : (1 : Int) < (len : Int) := by omega
  have i5 : (len : Int) ≤ (cap : Int) := by omega
  have i6 : (2 : Int) ≤ (cap : Int) := by omega
  have i7 : ((len : Int) - 2).toNat = len - 2 := by omega
  have i8 : ¬ ((len - 2 : Nat) : Int) < (n : Int) + 4 := by omega
  have i9 : ¬ cap = 2 := by omega
  have i10 : (n : Int) ≤ ((len - 2 : Nat) : Int) := by omega
  have i11 : ((len - 2 : Nat) : Int) ≤ ((cap - 2 : Nat) : Int) := by omega
  have i12 : ¬ cap - 2 = n := by omega
  have i13 : (n : Int) ≤ ((cap - 2 : Nat) : Int) := by omega
  have c0 : w.cell? ⟨b, o, none⟩ = some (.int .u8 165) := by
    rcases hr with h | ⟨b', o', e, h⟩
    · rw [h] at hl; simp at hl; omega
    · cases e; rw [← hm]; exact h 0 (by omega)
  have c1 : w.cell? ⟨b, o + 1, none⟩ = some (.int .u8 (n : Int)) := by
    rcases hr with h | ⟨b', o', e, h⟩
    · rw [h] at hl; simp at hl; omega
    · cases e; rw [← h1]; exact h 1 (by omega)
  obtain ⟨y, hy, ya, yb⟩ := num_bd' hby (2 + n) 4 4294967296 rfl (by omega)
  have hwy : IntKind.u32.wrap y = y := by rw [IntKind.wrap_u32]; omega
  have HY := hid hy
  have HS : Hid (sumX zs = y) := by unfold Hid; rw [sumX, h1, Int.toNat_natCast, hy]
  have HP : Hid (PS w.heap.size (w.drew.alloc (.cells #[.slice (some ⟨b, o + 2 + n, none⟩) (len - 2 - n) (cap - 2 - n)] 93)) w.heap.size (zs.drop (2 + n)) (some ⟨b, o + 2 + n, none⟩) (cap - 2 - n)) := by
    have hr2 := hr.tail (2 + n)
    rw [← Nat.add_assoc] at hr2
    exact hid (PS.new w.drew w.heap.size (zs.drop (2 + n)) (len - 2 - n) _ (cap - 2 - n) (by rw [List.length_drop]; omega) (row_mono (Below.refl _ w).drew hr2) (fun h0 a e => by cases e; exact hr2.lt h0 _ rfl) (Nat.le_refl _) (byt_drop hby _) (by omega) (by omega))
  have HLL : Hid (4 ≤ (zs.drop (2 + n)).length) := hid (by rw [List.length_drop]; omega)
  clear h1 hm hr hy
  go_enter Try.func36, Try.ntmps36
  go_wp2
  go_region_held3 (fun w' => w'.cell? ⟨b, o + 1, none⟩ = some (.int .u8 (n : Int))) ((exact c1)) (fail)
  go_wp2
  go_region_held3 (fun _ => True) ((trivial)) ((first | (go_at_call 42; refine (number35 _ _ _ _ _ _ (HP.out.below (Below.refl _ _).drew) 4 (by omega) (by omega) HLL.out).mono ?_; rintro e w2 ⟨rfl, t2, -⟩; rw [pc_all, HY.out]; have T2 := hid t2; clear t2)))
  go_wp2
  go_ret3
  refine ⟨HB.out, ?_, ?_⟩
  · rw [HS.out]; rfl
  · exact (sq (Below.refl _ w).drew (bel1 _ _)).drew.trans (T2.out.below (fun k e => by omega) (by simp))
end Go.Proofs.Ythhgnflkplpklab.Frm
