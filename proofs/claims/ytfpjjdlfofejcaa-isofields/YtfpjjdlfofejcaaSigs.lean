/- Put: the bytes of a field. -/
import Derived.Test.YtfpjjdlfofejcaaRgt
namespace Go.Proofs.Ytfpjjdlfofejcaa
open Go.ChangeShapes Go.WideShapes Go.ChangeAt Go.RowKit

theorem Mk.from {W0 w w' : World} {v : Value} {n : Nat} {l : List Int} (b : Below W0.heap.size W0 w) (h : Mk w w' v n l) : Mk W0 w' v n l := ⟨h.1.mono b.size, sq b h.2⟩
theorem pack_at (s : ByteArray) (n m : Nat) (w : World) (hs : s.size = n) (hm : (n + 1) / 2 = m) (hn : n ≤ 1000000) (hd : digB s.data.toList = true) :
    Calls Try.prog 39 #[.string s] w fun e w' => e = .returned (.tuple #[.slice (some ⟨w.heap.size, 0, none⟩) m m, .bool true]) ∧ Mk w w' (.slice (some ⟨w.heap.size, 0, none⟩) m m) m (packL s) := by
  subst hs; subst hm
  refine (pack_yes s w hn hd).mono ?_
  rintro e w' ⟨rfl, rfl⟩
  exact ⟨rfl, Mk.new w (packL s) _ (packL_length s) (by omega)⟩
/-- The bytes of a length. -/
def lenL (V len : Int) : List Int := if V = 0 then [] else packL (digS len V)
/-- The bytes of signs. -/
def sigL (D : Bool) (s : ByteArray) : List Int := if D = true then packL s else panL s
theorem dig_digS {v n : Int} (h : digOk v n = true) : digB (digS v n).data.toList = true ∧ (digS v n).size ≤ 18 := by
  unfold digS; rw [if_pos h]
  refine ⟨decL_dig _ _, ?_⟩
  rw [strOfNums_size, decL_length]
  simp [digOk] at h
  omega
theorem len14 (D : Bool) (L V len : Int) (w : World) (hv : len ≤ 9223372036854775807) (h : V = 0 ∨ digOk len V = true) :
    Calls Try.prog 41 #[.agg #[.bool D, .int .i64 L, .int .i64 V], .int .i64 len] w fun e w' => ∃ ao n cap, e = .returned (.slice ao n cap) ∧ n ≤ 9 ∧ Mk w w' (.slice ao n cap) n (lenL V len) := by
  by_cases h0 : V = 0
  · subst h0
    go_enter Try.func41, Try.ntmps41
    go_wp2
    go_ret
    exact ⟨none, 0, 0, rfl, by omega, (Mk.nil w).more (bel1 _ _)⟩
  · have HO : Hid (digOk len V = true) := hid (h.resolve_left h0)
    obtain ⟨d1, d2⟩ := dig_digS HO.out
    have HL : Hid (lenL V len = packL (digS len V)) := hid (by unfold lenL; rw [if_neg h0])
    have hdg := digits10 len V (w.alloc (.cells #[.bool D, .int .i64 L, .int .i64 V] 73)) hv
    rw [HO.out] at hdg
    obtain ⟨s, hs⟩ : ∃ s, digS len V = s := ⟨_, rfl⟩
    rw [hs] at d1 d2 HL hdg
    obtain ⟨m, hm⟩ : ∃ m, (s.size + 1) / 2 = m := ⟨_, rfl⟩
    have D1 := hid d1
    have D2 := hid d2
    have HM := hid hm
    clear h hs d1 d2 hm
    go_enter Try.func41, Try.ntmps41
    go_wp2_with (first | (go_at_call 39; have kill := L1.out; refine (pack_at s _ m _ rfl HM.out (Nat.le_trans D2.out (by omega)) D1.out).mono ?_; rintro e w2 ⟨rfl, m2⟩; have M2 := hid (Mk.from L1.out m2); clear m2 kill) | (go_at_call 38; refine hdg.mono ?_; rintro e w1 ⟨rfl, l1⟩; have L1 := hid (sq (bel1 w _) l1); clear l1))
    go_ret
    exact ⟨_, m, m, rfl, by have := D2.out; have := HM.out; omega, HL.out ▸ M2.out⟩
theorem bytes_at (w : World) (s : ByteArray) (cap : Nat) : RowAt (w.drew.alloc (.cells (bytesRow s cap) 5 ((bytesRow s cap).size, (bytesRow s cap).size + 1))) (some ⟨w.heap.size, 0, none⟩) (panL s) := by
  refine .inr ⟨_, _, rfl, fun i hi => ?_⟩
  have h := heap_alloc_new w.drew (.cells (bytesRow s cap) 5 ((bytesRow s cap).size, (bytesRow s cap).size + 1))
  have hi' : i < s.size := by rw [panL_len] at hi; exact hi
  rw [Nat.zero_add, World.cell?]
  simp only [show w.drew.heap.size = w.heap.size from rfl] at h
  simp only [h]
  simp [bytesRow, panL, Array.getElem?_append, hi']
theorem sig15 (D : Bool) (L V : Int) (s : ByteArray) (w : World) (hs : s.size ≤ 1000000) (hd : D = true → digB s.data.toList = true) :
    Calls Try.prog 42 #[.agg #[.bool D, .int .i64 L, .int .i64 V], .string s] w fun e w' => ∃ b n cap, e = .returned (.slice (some ⟨b, 0, none⟩) n cap) ∧ (sigL D s).length = n ∧ n ≤ s.size ∧ RowAt w' (some ⟨b, 0, none⟩) (sigL D s) ∧ Below w.heap.size w w' := by
  cases D
  · have kc := fun (w : World) => run_bytes_of_string (P := Try.prog) w 9 52 5 s Try.underlying9 Try.underlying52 Try.underlying5
    have HA : Hid (∀ cap, RowAt ((w.alloc (.cells #[.bool false, .int .i64 L, .int .i64 V] 73)).drew.alloc (.cells (bytesRow s cap) 5 ((bytesRow s cap).size, (bytesRow s cap).size + 1))) (some ⟨w.heap.size + 1, 0, none⟩) (panL s)) := hid fun cap => by
      have := bytes_at (w.alloc (.cells #[.bool false, .int .i64 L, .int .i64 V] 73)) s cap
      rw [World.size_alloc] at this; exact this
    go_enter Try.func42, Try.ntmps42
    go_wp2
    go_ret
    exact ⟨_, s.size, _, rfl, panL_len s, Nat.le_refl _, HA.out _, ((bel1 w _).drew).alloc (by simp) _⟩
  · have HD := hid (hd rfl)
    obtain ⟨m, hm⟩ : ∃ m, (s.size + 1) / 2 = m := ⟨_, rfl⟩
    have HM := hid hm
    have HS := hid hs
    clear hd hm hs
    go_enter Try.func42, Try.ntmps42
    go_wp2_with (go_at_call 39; refine (pack_at s _ m _ rfl HM.out HS.out HD.out).mono ?_; rintro e w2 ⟨rfl, m2⟩; have M2 := hid m2; clear m2)
    go_ret
    exact ⟨_, m, m, rfl, (packL_length s).trans HM.out, by have := HM.out; have := HS.out; omega, by have := M2.out.1.at; rw [World.size_alloc] at this; exact this, sq (bel1 w _) M2.out.2⟩
end Go.Proofs.Ytfpjjdlfofejcaa
