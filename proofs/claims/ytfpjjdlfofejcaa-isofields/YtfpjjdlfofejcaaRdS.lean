/- Read's small functions. -/
import Derived.Test.YtfpjjdlfofejcaaPuts
import Derived.Test.YtfpjjdlfofejcaaUnp
namespace Go.Proofs.Ytfpjjdlfofejcaa
open Go.ChangeShapes Go.WideShapes Go.ChangeAt Go.RowKit

theorem sub_lh {ao : Option Addr} {len cap : Nat} (i j : Nat) (hi : i ≤ j) (hj : j ≤ len) (hc : len ≤ cap) :
    ∃ ao', (∀ w, (Instr.sliceAt 52 (.slice ao len cap) (some (.int .i64 (i : Int))) (some (.int .i64 (j : Int))) none).run Try.prog w = .ok (.slice ao' (j - i) (cap - i)) w) ∧ ∀ w zs, Given w ao len cap zs → Given w ao' (j - i) (cap - i) (pc zs i (j - i)) := by
  refine ⟨if cap = i then ao else ao.map (·.add (i * 1)), fun w => ?_, fun w zs h => ?_⟩
  · have h1 : (i : Int) ≤ j := by omega
    have h2 : (j : Int) ≤ cap := by omega
    simp [Instr.sliceAt, Instr.slice, Instr.sliceBounds, Instr.sliceBound, run_underlying Try.underlying52, asIntOf]
    rw [if_pos (by omega), if_pos (by omega)]
  · have h1 := h.leq
    have h2 := h.cap2
    refine ⟨pc_len (by omega), byt_take (byt_drop h.byt _) _, ?_, by omega, by omega⟩
    by_cases hc : cap = i
    · left; unfold pc; rw [List.drop_of_length_le (by omega)]; simp
    · rw [if_neg hc]
      rcases h.row with e | ⟨b, o, e, hr⟩
      · left; rw [e]; simp [pc]
      · subst e
        have := (h.row).piece i (j - i) (by omega)
        simpa [Addr.add_mid] using this
theorem sub_h {ao : Option Addr} {len cap : Nat} (j : Nat) (hj : j ≤ len) (hc : len ≤ cap) :
    ∃ ao', (∀ w, (Instr.sliceAt 52 (.slice ao len cap) none (some (.int .i64 (j : Int))) none).run Try.prog w = .ok (.slice ao' j cap) w) ∧ ∀ w zs, Given w ao len cap zs → Given w ao' j cap (zs.take j) := by
  refine ⟨if cap = 0 then ao else ao.map (·.add (0 * 1)), fun w => ?_, fun w zs h => ?_⟩
  · have h2 : (j : Int) ≤ cap := by omega
    by_cases hc0 : cap = 0
    · obtain rfl : j = 0 := by omega
      simp [Instr.sliceAt, Instr.slice, Instr.sliceBounds, Instr.sliceBound, run_underlying Try.underlying52, asIntOf, hc0]
    · simp [Instr.sliceAt, Instr.slice, Instr.sliceBounds, Instr.sliceBound, run_underlying Try.underlying52, asIntOf, hc0]
      intro hj'; omega
  · have h1 := h.leq
    have h2 := h.cap2
    refine ⟨by simp; omega, byt_take h.byt _, ?_, by omega, by omega⟩
    by_cases h0 : cap = 0
    · left; rw [show j = 0 by omega]; rfl
    · rw [if_neg h0]
      rcases h.row with e | ⟨b, o, e, hr⟩
      · left; rw [e]; simp
      · subst e
        have := (h.row).piece 0 j (by omega)
        simpa [Addr.add_mid, pc] using this
theorem packed21 (V : Int) (m : Nat) (w : World) (h0 : 0 ≤ V) (h1 : V ≤ 1000000) (h : (V + 1) / 2 = (m : Int)) :
    Calls Try.prog 58 #[.int .i64 V] w fun e w' => e = .returned (.int .i64 (m : Int)) ∧ w = w' := by
  go_enter Try.func58, Try.ntmps58
  go_wp2
  go_ret
  exact ⟨by rw [← h]; rfl, rfl⟩
/-- How many bytes so many signs take. -/
def szD (D : Bool) (k : Nat) : Nat := if D = true then (k + 1) / 2 else k
theorem size17 (D : Bool) (L V : Int) (k : Nat) (w : World) (hk : k ≤ 1000000) :
    Calls Try.prog 56 #[.agg #[.bool D, .int .i64 L, .int .i64 V], .int .i64 (k : Int)] w fun e w' => e = .returned (.int .i64 (szD D k : Int)) ∧ Below w.heap.size w w' := by
  cases D
  · go_enter Try.func56, Try.ntmps56
    go_wp2
    go_ret
    exact ⟨rfl, bel1 _ _⟩
  · go_enter Try.func56, Try.ntmps56
    go_wp2_with (go_at_call 58; refine (packed21 _ ((k + 1) / 2) _ (by omega) (by omega) (by omega)).mono ?_; rintro e w2 ⟨rfl, rfl⟩)
    go_ret
    exact ⟨rfl, bel1 _ _⟩
/-- The value that these bytes are, and whether they are one. -/
def rsB (D : Bool) (zs : List Int) (k : Nat) : Bool := if D = true then unOk zs k else prB (strOfNums zs).data.toList
def rsS (D : Bool) (zs : List Int) (k : Nat) : ByteArray := if rsB D zs k = true then (if D = true then unS zs k else strOfNums zs) else ⟨#[]⟩
theorem signs18 (D : Bool) (L V : Int) (ao : Option Addr) (len cap : Nat) (zs : List Int) (k : Nat) (w : World) (h : Given w ao len cap zs) (hl : len ≤ 400000) (hk : k ≤ 1000000) :
    Calls Try.prog 57 #[.agg #[.bool D, .int .i64 L, .int .i64 V], .slice ao len cap, .int .i64 (k : Int)] w fun e w' => e = .returned (.tuple #[.string (rsS D zs k), .bool (rsB D zs k)]) ∧ Below w.heap.size w w' := by
  cases D
  · have hc := run_str (w.alloc (.cells #[.bool false, .int .i64 L, .int .i64 V] 73)) ao zs len cap h.leq (row_mono (bel1 _ _) h.row)
    have hlq := h.leq
    obtain ⟨s, hs⟩ : ∃ s, strOfNums zs = s := ⟨_, rfl⟩
    have hsz : s.size ≤ 9223372036854775807 := by rw [← hs, strOfNums_size]; omega
    rw [hs] at hc
    have hsg := signs_txt L V s (w.alloc (.cells #[.bool false, .int .i64 L, .int .i64 V] 73)) hsz
    cases hp : prB s.data.toList
    · have HR : Hid (rsB false zs k = false ∧ rsS false zs k = ⟨#[]⟩) := hid (by
        have h1 : rsB false zs k = false := by unfold rsB; rw [hs, if_neg (by decide)]; exact hp
        exact ⟨h1, by unfold rsS; rw [h1]; rfl⟩)
      rw [hp] at hsg
      clear hs h hlq hsz hp hl hk
      go_enter Try.func57, Try.ntmps57
      go_wp2_with (go_at_call 36; refine hsg.mono ?_; rintro e w2 ⟨rfl, l2⟩; have L2 := hid (sq (bel1 w _) l2); clear l2)
      go_ret2
      exact ⟨by rw [HR.out.1, HR.out.2]; rfl, L2.out⟩
    · have HR : Hid (rsB false zs k = true ∧ rsS false zs k = s) := hid (by
        have h1 : rsB false zs k = true := by unfold rsB; rw [hs, if_neg (by decide)]; exact hp
        exact ⟨h1, by unfold rsS; rw [if_pos h1, if_neg (by decide)]; exact hs⟩)
      rw [hp] at hsg
      clear hs h hlq hsz hp hl hk
      go_enter Try.func57, Try.ntmps57
      go_wp2_with (go_at_call 36; refine hsg.mono ?_; rintro e w2 ⟨rfl, l2⟩; have L2 := hid (sq (bel1 w _) l2); clear l2)
      go_ret2
      exact ⟨by rw [HR.out.1, HR.out.2]; rfl, L2.out⟩
  · have hu := unpack_any ao len cap zs (k : Int) (w.alloc (.cells #[.bool true, .int .i64 L, .int .i64 V] 73)) (h.below (bel1 _ _)) hl (by omega)
    have HR : Hid (rsB true zs k = unOk zs k ∧ rsS true zs k = unS zs k) := hid (by
      have h1 : rsB true zs k = unOk zs k := rfl
      refine ⟨h1, ?_⟩
      unfold rsS; rw [h1]
      cases e : unOk zs k
      · rw [unS_no e]; rfl
      · rfl)
    clear h hl hk
    go_enter Try.func57, Try.ntmps57
    go_wp2_with (go_at_call 43; refine hu.mono ?_; rintro e w2 ⟨rfl, l2⟩; have L2 := hid (sq (bel1 w _) l2); clear l2)
    go_ret2
    exact ⟨by rw [HR.out.1, HR.out.2]; rfl, L2.out⟩
end Go.Proofs.Ytfpjjdlfofejcaa
