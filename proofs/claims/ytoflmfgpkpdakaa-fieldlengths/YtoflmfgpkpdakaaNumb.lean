/- A field's number, whichever; a row of one sign. -/
import Derived.Test.YtoflmfgpkpdakaaForms
namespace Go.Proofs.Ytoflmfgpkpdakaa
open Go.ChangeShapes Go.WideShapes Go.ChangeAt Go.RowKit

set_option maxHeartbeats 1000000 in
theorem number_any (n : Int) (w : World) (hn : 0 ≤ n ∧ n < 256) :
    Calls Try.prog 8 #[.int .u8 n] w fun e w' => ∃ k : Int, e = .returned (.int .i64 k) ∧ Below w.heap.size w w' := by
  obtain ⟨n0, n1⟩ := hn
  obtain ⟨r, hr, r1⟩ : ∃ r : Nat, n % 20 = (r : Int) ∧ r < 20 := ⟨(n % 20).toNat, by omega, by omega⟩
  have e1 : n.tmod 20 = (r : Int) := by rw [Int.tmod_eq_emod_of_nonneg n0, hr]
  have e2 : IntKind.i64.wrap n = n := by rw [IntKind.wrap_i64]; omega
  have N1 := hid (Nums.new (P := fun _ => True) w [2, 3, 4, 7, 10, 11, 12, 13, 37, 38, 39, 41, 42, 49, 54, 60, 70, 90, 95, 5] 3 (fun _ _ => trivial))
  have B1 := hid (bel1 w (.cells (I.cellsOf [2, 3, 4, 7, 10, 11, 12, 13, 37, 38, 39, 41, 42, 49, 54, 60, 70, 90, 95, 5]) 3))
  clear hr
  go_enter Try.func8, Try.ntmps8
  go_upto_region 2 with (fail)
  have hw : w.alloc (Obj.cells #[Value.int IntKind.i64 2, Value.int IntKind.i64 3, Value.int IntKind.i64 4, Value.int IntKind.i64 7, Value.int IntKind.i64 10, Value.int IntKind.i64 11, Value.int IntKind.i64 12, Value.int IntKind.i64 13, Value.int IntKind.i64 37, Value.int IntKind.i64 38, Value.int IntKind.i64 39, Value.int IntKind.i64 41, Value.int IntKind.i64 42, Value.int IntKind.i64 49, Value.int IntKind.i64 54, Value.int IntKind.i64 60, Value.int IntKind.i64 70, Value.int IntKind.i64 90, Value.int IntKind.i64 95, Value.int IntKind.i64 5] 3) = w.alloc (.cells (I.cellsOf [2, 3, 4, 7, 10, 11, 12, 13, 37, 38, 39, 41, 42, 49, 54, 60, 70, 90, 95, 5]) 3) := rfl
  rw [hw]
  clear hw
  generalize w.alloc (.cells (I.cellsOf [2, 3, 4, 7, 10, 11, 12, 13, 37, 38, 39, 41, 42, 49, 54, 60, 70, 90, 95, 5]) 3) = wA at *
  obtain ⟨k, _, hc⟩ := N1.out r r1
  go_wp2
  go_ret
  exact ⟨k, rfl, B1.out⟩
/-- t of z bytes are laid. -/
def fillR (c : Int) (z t : Nat) : List Int := List.replicate t c ++ List.replicate (z - t) 0
theorem fillR_len (c : Int) (z t : Nat) (h : t ≤ z) : (fillR c z t).length = z := by simp [fillR]; omega
theorem fillR_none (c : Int) (z : Nat) : cellsOf (fillR c z 0) = madeCells #[Value.int .u8 0] z := by
  apply Array.toList_inj.1
  rw [toList_madeCells_one]
  simp [cellsOf, fillR]
theorem fillR_store (c : Int) (z t : Nat) (h : t < z) : (cellsOf (fillR c z t)).setIfInBounds t (.int .u8 c) = cellsOf (fillR c z (t + 1)) := by
  have e : z - t = z - (t + 1) + 1 := by omega
  unfold fillR cellsOf
  rw [e, List.replicate_succ]
  simp [List.replicate_succ']
theorem fillR_all (c : Int) (z : Nat) : fillR c z z = List.replicate z c := by simp [fillR]
theorem rep_byt (c : Int) (z : Nat) (h : 0 ≤ c ∧ c < 256) : Byt (List.replicate z c) := by
  intro x hx; rw [List.eq_of_mem_replicate hx]; exact h
/-- The text of so many signs of one kind. -/
def repS (c : Int) (z : Nat) : ByteArray := strOfNums (List.replicate z c)
theorem repS_size (c : Int) (z : Nat) : (repS c z).size = z := by unfold repS; rw [strOfNums_size, List.length_replicate]
theorem repS_all (c : Int) (z : Nat) (hz : 1 ≤ z) (h0 : 0 ≤ c) (h1 : c < 256) (p : Int → Bool) : ((repS c z).data.toList.all fun b => p (b.toNat : Int)) = p c := by
  have e : ((UInt8.ofNat c.toNat).toNat : Int) = c := by rw [UInt8.toNat_ofNat']; omega
  unfold repS
  rw [strOfNums_data, List.map_replicate]
  obtain ⟨m, rfl⟩ : ∃ m, z = m + 1 := ⟨z - 1, by omega⟩
  rw [List.replicate_succ, List.all_cons, e]
  cases hp : p c
  · rfl
  · rw [Bool.true_and, List.all_eq_true]
    intro x hx
    rw [List.eq_of_mem_replicate hx, e, hp]
theorem repS_right (k : Int) (c : Int) (z : Nat) (hz : 1 ≤ z) (h0 : 0 ≤ c) (h1 : c < 256) :
    sgnB (fD k) (repS c z) = if fD k = true then decide (48 ≤ c ∧ c ≤ 57) else decide (32 ≤ c ∧ c ≤ 126) := by
  unfold sgnB digB prB
  rw [repS_all c z hz h0 h1 (fun x => decide (48 ≤ x ∧ x ≤ 57)), repS_all c z hz h0 h1 (fun x => decide (32 ≤ x ∧ x ≤ 126))]
end Go.Proofs.Ytoflmfgpkpdakaa
