/- Read, by the document: what is long enough. -/
import Derived.Test.YtmojndacjngjpaaReadR
namespace Go.Proofs.Ytmojndacjngjpaa
open Go.ChangeShapes Go.WideShapes Go.ChangeAt Go.RowKit

set_option maxRecDepth 10000 in
set_option maxHeartbeats 1000000 in
theorem rdB (b o : Nat) (zs : List Int) (len cap n : Nat) (w : World) (h : Given w (some ⟨b, o, none⟩) len cap zs) (hm : zs.getD 0 0 = 165) (h1 : zs.getD 1 0 = (n : Int)) (hb : n < 256) (hlong : n + 6 ≤ len) (h36 : 36 ≤ n) (hB : ¬ (bodyX zs).getD 35 0 + 36 = (n : Int)) :
    Calls Try.prog 17 #[.slice (some ⟨b, o, none⟩) len cap] w fun e w' => e = .returned (.tuple #[(recX zs).val, .int .i64 (lenX zs), .int .i64 (errX zs)]) ∧ Below w.heap.size w w' := by
  have hn : 2 ≤ len := by omega
  have eX : bodyX zs = pc zs 2 n := by rw [bodyX, h1, Int.toNat_natCast]
  have hsp : splB zs = true := by unfold splB; rw [h1, h.leq, hm]; simp; omega
  have hc1 := h.cap1
  have hc2 := h.cap2
  obtain ⟨X, hX⟩ : ∃ X, bodyX zs = X := ⟨_, rfl⟩
  have gx : ∀ w', Below w.heap.size w w' → Given w' (some ⟨b, o + 2, none⟩) n (cap - 2) X := fun w' hb => by
    have h' := h.below hb
    rw [← hX, eX]
    exact ⟨pc_len (by rw [h.leq]; omega), byt_pc h.byt _ _, h'.row.piece 2 n (by rw [h.leq]; omega), by omega, by omega⟩
  have GX := hid gx
  have hXl : X.length = n := (gx w (Below.refl _ _)).leq
  have hXb : Byt X := (gx w (Below.refl _ _)).byt
  clear gx
  have c0 : ∀ w', Below w.heap.size w w' → w'.cell? ⟨b, o, none⟩ = some (.int .u8 (zs.getD 0 0)) := fun w' hb => cell_of_row (h.below hb).row 0 (by rw [h.leq]; omega)
  have c1 : ∀ w', Below w.heap.size w w' → w'.cell? ⟨b, o + 1, none⟩ = some (.int .u8 (zs.getD 1 0)) := fun w' hb => cell_of_row (h.below hb).row 1 (by rw [h.leq]; omega)
  have C0 := hid c0
  have C1 := hid c1
  clear c0 c1
  have i1 : ¬ (len : Int) < 2 := by omega
  have i2 : decide ((len : Int) < 2) = false := by simp; omega
  have i3 : (0 : Int) < (len : Int) := by omega
  have i4 : (1 : Int) < (len : Int) := by omega
  have HG0 := hid hm
  have HG1 := hid h1
  have j1 : ¬ (len : Int) < 6 + (n : Int) := by omega
  have j2 : decide ((len : Int) < 6 + (n : Int)) = false := by simp; omega
  have j3 : ¬ (n : Int) < 36 := by omega
  have j4 : decide ((n : Int) < 36) = false := by simp; omega
  have j5 : (2 : Int) ≤ 2 + (n : Int) := by omega
  have j6 : 2 + (n : Int) ≤ (cap : Int) := by omega
  have j7 : ¬ cap = 2 := by omega
  have j8 : (2 + (n : Int) - 2).toNat = n := by omega
  have j9 : (2 + (n : Int)).toNat = 2 + n := by omega
  have j10 : (35 : Int) < (n : Int) := by omega
  obtain ⟨q, hq⟩ : ∃ q, X.getD 35 0 = q := ⟨_, rfl⟩
  have hqb := byt_getD hXb 35
  rw [hq] at hqb
  obtain ⟨q0, q1⟩ := hqb
  rw [hX, hq] at hB
  have HX := hid (err23b (zs := zs) (by rw [hX]; unfold recB; rw [hq, hXl, decide_eq_false hB]; simp))
  have k1 : ¬ q = (n : Int) - 36 := by omega
  have k2 : (q != (n : Int) - 36) = true := by simp [k1]
  have HXL := hid hXl
  have HQ := hid hq
  clear h hm h1 hXl hq hX eX
  go_enter Try.func17, Try.ntmps17
  go_wp2_with (first | (refine al29 rfl rfl ?_; intro b2 w2 hb2 v2 l2; have e0 := C0.out w2 l2; have e1 := C1.out w2 l2; have e35 := cell_of_row (GX.out w2 l2).row 35 (by rw [HXL.out]; omega); rw [HG0.out] at e0; rw [HG1.out] at e1; rw [HQ.out] at e35; have V2 := hid v2; have L2 := hid l2; clear v2 l2) | refine bd29 rfl rfl ?_ | (refine st29 (r := Rc.zero) V2.out L2.out hb2 rfl _ _ rfl rfl rfl ?_; intro w3 v3 l3; have V3 := hid v3; have L3 := hid l3; clear v3 l3))
  refine bodyPost_ret (results_c2 Try.results17 _ _ rfl rfl rfl V3.out) rfl ⟨?_, L3.out⟩
  rw [HX.out.1, HX.out.2.1, HX.out.2.2]; rfl
end Go.Proofs.Ytmojndacjngjpaa
