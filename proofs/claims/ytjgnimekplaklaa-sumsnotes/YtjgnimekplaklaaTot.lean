/- What the program's Total answers: the sum of all, if an int64 has it. -/
import Derived.Test.YtjgnimekplaklaaPure
import Derived.Deep.RegionWith
namespace Go.Proofs.Ytjgnimekplaklaa
open Go.ChangeShapes Go.WideShapes Go.ChangeAt Go.RowKit

/-- In this world the address leads to the numbers 'zs' (or there are none). -/
def RowAt (w : World) (ao : Option Addr) (zs : List Int) : Prop :=
  zs = [] ∨ ∃ b off, ao = some ⟨b, off, none⟩ ∧ ∀ i, i < zs.length → w.cell? ⟨b, off + i, none⟩ = some (.int .i64 (zs.getD i 0))

theorem tot_next (zs : List Int) (k : Nat) (h : k < zs.length) : tot (zs.take (k + 1)) = tot (zs.take k) + zs.getD k 0 := by
  rw [tot_take h]; simp [h]
theorem alli_getD {zs : List Int} (h : AllI zs) (k : Nat) : I64 (zs.getD k 0) := by
  by_cases hk : k < zs.length
  · have : zs.getD k 0 = zs[k] := by simp [hk]
    rw [this]; exact h _ (List.getElem_mem hk)
  · simp [hk, I64]

theorem cellK {w w' : World} (h : Below w.heap.size w w') {a : Addr} {v : Value} (c : w.cell? a = some v) : w'.cell? a = some v := (h.cell (World.block_lt_of_cell? w a c)).trans c

theorem frozK {w w' : World} (h : Below w.heap.size w w') {a : Addr} {v : Value} (c : w.cell? a = some v) (f : w.frozen? a = false) : w'.frozen? a = false := (h.frozen (World.block_lt_of_cell? w a c)).trans f

theorem total_any (ao : Option Addr) (cap : Nat) (zs : List Int) (w : World) (hr : RowAt w ao zs) (hb : AllI zs) (hl : zs.length ≤ maxLen) :
    Calls Try.prog 9 #[.slice ao zs.length cap] w fun e w' => e = .returned (.tuple #[.int .i64 (fitZ (tot zs)), .bool (fitB (tot zs))]) ∧ Below w.heap.size w w' := by
  unfold maxLen at hl
  have hbig := tot_big zs hb (by omega)
  go_enter Try.func9, Try.ntmps9
  go_wp2
  go_loopw [9] (fun i wr => ∃ k : Nat, k ≤ zs.length ∧ i = .int .i64 k ∧ wr.cell? ⟨w.heap.size, 0, none⟩ = some (.int .u64 (hiU (tot (zs.take k)))) ∧ wr.cell? ⟨w.heap.size, 1, none⟩ = some (.int .u64 (loU (tot (zs.take k)))) ∧ wr.frozen? ⟨w.heap.size, 0, none⟩ = false ∧ wr.frozen? ⟨w.heap.size, 1, none⟩ = false ∧ Below w.heap.size w wr) (fun i _ => zs.length - (intOf i).toNat)
  case atStart => exact ⟨0, Nat.zero_le _, rfl, by simp [go_sem]; rfl, by simp [go_sem]; rfl, by simp, by simp, bel1 _ _⟩
  case round =>
    obtain ⟨k, hk, rfl, c0, c1, f0, f1, hbel⟩ := hrel
    by_cases hlt : k < zs.length
    · have hsn : Hid (tot (zs.take (k + 1)) = tot (zs.take k) + zs.getD k 0) := tot_next zs k hlt
      have hi := alli_getD hb k
      rcases hr with h | ⟨b, off, rfl, hcell⟩
      · subst h; simp at hlt
      have hc : wr.cell? ⟨b, off + k, none⟩ = some (.int .i64 (zs.getD k 0)) := (hbel.cell (World.block_lt_of_cell? w ⟨b, off + k, none⟩ (hcell k hlt))).trans (hcell k hlt)
      clear hcell
      generalize tot (zs.take k) = s at *
      generalize zs.getD k 0 = x at *
      go_wp2
      go_region_with ((first
        | (go_at_call 20; refine (plus_any _ _ _).mono ?_; rintro e w3 ⟨rfl, b3⟩; have g0 := cellK b3 d0; have g1 := cellK b3 d1; have j0 := frozK b3 d0 h0; have j1 := frozK b3 d1 h1; clear d0 d1 h0 h1)
        | (go_at_call 21; refine (widen_any _ hi _).mono ?_; rintro e w2 ⟨rfl, b2⟩; have d0 := cellK b2 c0; have d1 := cellK b2 c1; have h0 := frozK b2 c0 f0; have h1 := frozK b2 c1 f1; clear c0 c1 f0 f1)))
      all_goals (
        go_wp2
        go_roundw
        case rel =>
          refine ⟨k + 1, by omega, by go_num, ?_, ?_, ?_, ?_, ((sq ((sq hbel.drew b2)) b3)).setCell (Nat.le_refl _) _ |>.setCell (Nat.le_refl _) _⟩
          · rw [hsn.out]; simp [go_sem, g0]
          · rw [hsn.out]; simp [go_sem, g1]
          · simp [j0]
          · simp [j1]
        case measure => simp [intOf]; omega)
    · have e : zs.take k = zs := List.take_of_length_le (by omega)
      rw [e] at c0 c1
      go_wp2_with (go_at_call 22; refine (narrow_any _ hbig _).mono ?_; rintro e w2 ⟨rfl, b2⟩)
      go_ret2
      exact ⟨rfl, (sq hbel b2)⟩
end Go.Proofs.Ytjgnimekplaklaa
