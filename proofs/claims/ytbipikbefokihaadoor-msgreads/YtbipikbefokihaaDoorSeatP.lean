/- The seat's messages are right. No function is walked. -/
import Derived.Test.YtbipikbefokihaaDoorSeatM
namespace Go.Proofs.YtbipikbefokihaaDoor
open Go.ChangeShapes Go.WideShapes Go.ChangeAt Go.RowKit

theorem panK_right (j : Int) : panB (panK j) = true := by
  unfold panK
  split
  · decide
  · split
    · decide
    · split
      · decide
      · decide
theorem panK_size (j : Int) : (panK j).size ≤ 9223372036854775807 := by
  unfold panK
  split
  · decide
  · split
    · decide
    · split
      · decide
      · decide
theorem seat_kind {d k s a : Int} : (seatM d k s a).kind = d % 7 + 1 ∧ (seatM d k s a).term = k % 3 := by
  unfold seatM
  simp only []
  split
  · exact ⟨rfl, rfl⟩
  · split
    · exact ⟨rfl, rfl⟩
    · split
      · exact ⟨rfl, rfl⟩
      · split
        · exact ⟨rfl, rfl⟩
        · split
          · exact ⟨rfl, rfl⟩
          · exact ⟨rfl, rfl⟩
theorem seat_ok {d k s a : Int} : (seatM d k s a).Ok := by
  have h1 : 0 ≤ k % 3 ∧ k % 3 < 65536 := by omega
  have h2 : 0 ≤ s % 6 ∧ s % 6 < 4294967296 := by omega
  unfold seatM
  simp only []
  split
  · exact ⟨h1, h2⟩
  · split
    · exact ⟨h1, h2⟩
    · split
      · exact ⟨h1, by show (0 : Int) ≤ 0; omega, by show (0 : Int) < 4294967296; omega⟩
      · split
        · exact ⟨h1, h2⟩
        · split
          · exact ⟨h1, h2⟩
          · exact ⟨h1, h2⟩
theorem nil_size : (ByteArray.mk #[]).size ≤ 9223372036854775807 := by decide
theorem seat_pan {d k s a : Int} : (seatM d k s a).pan.size ≤ 9223372036854775807 := by
  unfold seatM
  simp only []
  split
  · exact panK_size _
  · split
    · exact nil_size
    · split
      · exact nil_size
      · split
        · exact nil_size
        · split
          · exact nil_size
          · exact nil_size
theorem right_of {m : Ms} (hk : okK m.kind = true) (h : tenF.all (okF m) = true) : rightL m = true := by unfold rightL; rw [hk, h]; rfl
theorem all10 {p : Int → Bool} (h0 : p 0 = true) (h1 : p 1 = true) (h2 : p 2 = true) (h3 : p 3 = true) (h4 : p 4 = true) (h5 : p 5 = true) (h6 : p 6 = true) (h7 : p 7 = true) (h8 : p 8 = true) (h9 : p 9 = true) : tenF.all p = true := by
  simp [tenF, h0, h1, h2, h3, h4, h5, h6, h7, h8, h9]
theorem in_yes {hi v : Int} (h : 0 ≤ v ∧ v ≤ hi) : inB hi v = true := decide_eq_true h
theorem r1 {m : Ms} {f x : Int} (hh : (hasK m.kind).contains f = true) (h2 : ¬ f = 2) (hn : numsF m f = [x]) (hx : 0 ≤ x ∧ x ≤ mostF f) : okF m f = true := by
  unfold okF rightF; rw [if_pos hh, if_neg h2, hn]; simp [in_yes hx]
theorem r4 {m : Ms} {f x0 x1 x2 x3 : Int} (hh : (hasK m.kind).contains f = true) (h2 : ¬ f = 2) (hn : numsF m f = [x0, x1, x2, x3]) (hx0 : 0 ≤ x0 ∧ x0 ≤ mostF f) (hx1 : 0 ≤ x1 ∧ x1 ≤ mostF f) (hx2 : 0 ≤ x2 ∧ x2 ≤ mostF f) (hx3 : 0 ≤ x3 ∧ x3 ≤ mostF f) : okF m f = true := by
  unfold okF rightF; rw [if_pos hh, if_neg h2, hn]; simp [in_yes hx0, in_yes hx1, in_yes hx2, in_yes hx3]
theorem rz {m : Ms} {f : Int} (hh : (hasK m.kind).contains f = false) (h : zeroF m f = true) : okF m f = true := by
  unfold okF; rw [if_neg (by rw [hh]; exact Bool.false_ne_true)]; exact h
set_option maxHeartbeats 2000000 in
theorem seat_right {d k s a : Int} (k0 : 0 ≤ k) (k1 : k < 256) (s0 : 0 ≤ s) (s1 : s < 65536) (a0 : 0 ≤ a) (a1 : a < 65536) : rightL (seatM d k s a) = true := by
  have T : 0 ≤ k % 3 ∧ k % 3 ≤ 65535 := by omega
  have S : 0 ≤ s % 6 ∧ s % 6 ≤ 999999 := by omega
  have A : 0 ≤ a ∧ a ≤ 1000000 := by omega
  have N0 : 0 ≤ k % 5 ∧ k % 5 ≤ 10000 := by omega
  have N1 : 0 ≤ k / 5 % 5 ∧ k / 5 % 5 ≤ 10000 := by omega
  have N2 : 0 ≤ s % 3 ∧ s % 3 ≤ 10000 := by omega
  have N3 : 0 ≤ a % 4 ∧ a % 4 ≤ 10000 := by omega
  have J0 : 0 ≤ k / 128 ∧ k / 128 ≤ 10000 := by omega
  have Z : (0 : Int) ≤ 0 ∧ (0 : Int) ≤ 10000 := by omega
  have Y : (0 : Int) ≤ 0 ∧ (0 : Int) ≤ 2147483647 := by omega
  have C0 : 0 ≤ a ∧ a ≤ 2147483647 := by omega
  have C1 : 0 ≤ s ∧ s ≤ 2147483647 := by omega
  have D1 : 0 ≤ k ∧ k ≤ 2147483647 := by omega
  have L : 0 ≤ k % 2 ∧ k % 2 ≤ 1000000 := by omega
  have h7 : d % 7 = 0 ∨ d % 7 = 1 ∨ d % 7 = 2 ∨ d % 7 = 3 ∨ d % 7 = 4 ∨ d % 7 = 5 ∨ d % 7 = 6 := by omega
  rcases h7 with h | h | h | h | h | h | h
  · unfold seatM; simp only []; rw [if_pos h, h]
    refine right_of rfl (all10 (r1 rfl (by omega) rfl T) (r1 rfl (by omega) rfl S) ?_ (r1 rfl (by omega) rfl A) (rz rfl rfl) (rz rfl rfl) (rz rfl rfl) (rz rfl rfl) (rz rfl rfl) (rz rfl rfl))
    exact panK_right _
  · unfold seatM; simp only []; rw [if_neg (by omega), if_pos h, h]
    exact right_of rfl (all10 (r1 rfl (by omega) rfl T) (r1 rfl (by omega) rfl S) (rz rfl rfl) (rz rfl rfl) (r4 rfl (by omega) rfl N0 N1 N2 N3) (r4 rfl (by omega) rfl J0 Z Z Z) (rz rfl rfl) (rz rfl rfl) (rz rfl rfl) (rz rfl rfl))
  · unfold seatM; simp only []; rw [if_neg (by omega), if_neg (by omega), if_pos h, h]
    exact right_of rfl (all10 (r1 rfl (by omega) rfl T) (rz rfl rfl) (rz rfl rfl) (rz rfl rfl) (rz rfl rfl) (rz rfl rfl) (rz rfl rfl) (rz rfl rfl) (rz rfl rfl) (rz rfl rfl))
  · unfold seatM; simp only []; rw [if_neg (by omega), if_neg (by omega), if_neg (by omega), if_pos h, h]
    exact right_of rfl (all10 (r1 rfl (by omega) rfl T) (r1 rfl (by omega) rfl S) (rz rfl rfl) (rz rfl rfl) (r4 rfl (by omega) rfl N0 N1 N2 N3) (r4 rfl (by omega) rfl Z Z Z Z) (r4 rfl (by omega) rfl C0 C1 Y Y) (r4 rfl (by omega) rfl Y D1 Y Y) (r1 rfl (by omega) rfl L) (r4 rfl (by omega) rfl N0 N1 N2 N3))
  · unfold seatM; simp only []; rw [if_neg (by omega), if_neg (by omega), if_neg (by omega), if_neg (by omega), if_pos h, h]
    exact right_of rfl (all10 (r1 rfl (by omega) rfl T) (r1 rfl (by omega) rfl S) (rz rfl rfl) (r1 rfl (by omega) rfl A) (r4 rfl (by omega) rfl N0 N1 N2 N3) (rz rfl rfl) (rz rfl rfl) (rz rfl rfl) (rz rfl rfl) (rz rfl rfl))
  · unfold seatM; simp only []; rw [if_neg (by omega), if_neg (by omega), if_neg (by omega), if_neg (by omega), if_neg (by omega), h]
    exact right_of rfl (all10 (r1 rfl (by omega) rfl T) (r1 rfl (by omega) rfl S) (rz rfl rfl) (rz rfl rfl) (rz rfl rfl) (rz rfl rfl) (rz rfl rfl) (rz rfl rfl) (rz rfl rfl) (rz rfl rfl))
  · unfold seatM; simp only []; rw [if_neg (by omega), if_neg (by omega), if_neg (by omega), if_neg (by omega), if_neg (by omega), h]
    exact right_of rfl (all10 (r1 rfl (by omega) rfl T) (r1 rfl (by omega) rfl S) (rz rfl rfl) (rz rfl rfl) (rz rfl rfl) (rz rfl rfl) (rz rfl rfl) (rz rfl rfl) (rz rfl rfl) (rz rfl rfl))
end Go.Proofs.YtbipikbefokihaaDoor
