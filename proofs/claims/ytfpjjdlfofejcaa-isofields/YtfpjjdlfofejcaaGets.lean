/- Get, the code's and the document's; where a field's place is; which messages are light. -/
import Derived.Test.YtfpjjdlfofejcaaMsg
namespace Go.Proofs.Ytfpjjdlfofejcaa
open Go.ChangeShapes Go.WideShapes Go.ChangeAt Go.RowKit

/-- Each field of the slice lies in this world. -/
def FC (w : World) (ao : Option Addr) (len : Nat) (l : List Fd) : Prop := ∀ i, i < len → ∃ r : Fd, l[i]? = some r ∧ r.ok ∧ ∃ b o, ao = some ⟨b, o, none⟩ ∧ w.cell? ⟨b, o + i * 2, none⟩ = some (.int .i64 r.N) ∧ w.cell? ⟨b, o + i * 2 + 1, none⟩ = some (.string r.V)
theorem FG.fc {w : World} {ao : Option Addr} {len cap : Nat} {l : List Fd} (h : FG w ao len cap l) : FC w ao len l := fun _ hi => h.get hi
theorem FC.more {w w' : World} {ao : Option Addr} {len : Nat} {l : List Fd} (h : FC w ao len l) (hb : Below w.heap.size w w') : FC w' ao len l := by
  intro i hi
  obtain ⟨r, hr, hk, b, o, e, c0, c1⟩ := h i hi
  exact ⟨r, hr, hk, b, o, e, (hb.cell (p := ⟨b, o + i * 2, none⟩) (World.block_lt_of_cell? w _ c0)).trans c0, (hb.cell (p := ⟨b, o + i * 2 + 1, none⟩) (World.block_lt_of_cell? w _ c1)).trans c1⟩
theorem ret_sb {a b : ByteArray} {c d : Bool} (h : a = b) (g : c = d) : Ending.returned (.tuple #[.string a, .bool c]) = .returned (.tuple #[.string b, .bool d]) := by rw [h, g]
theorem get_yes {l : List Fd} {n : Int} {v : ByteArray} (h : getO l n = some v) : getS l n = v ∧ getB l n = true := by simp [getS, getB, h]
theorem get_no {l : List Fd} {n : Int} (h : getO l n = none) : getS l n = ⟨#[]⟩ ∧ getB l n = false := by simp [getS, getB, h]
set_option maxHeartbeats 1000000 in
theorem get8 (m : Int) (ao : Option Addr) (len cap : Nat) (l : List Fd) (n : Int) (w : World) (h : FG w ao len cap l) :
    Calls Try.prog 8 #[.agg #[.int .i64 m, .slice ao len cap], .int .i64 n] w fun e w' => e = .returned (.tuple #[.string (getS l n), .bool (getB l n)]) ∧ Below w.heap.size w w' := by
  have hl := h.lt
  have HQ := hid h.leq
  have HC := hid h.fc
  have BB := hid (bel1 w (.cells #[.int .i64 m, .slice ao len cap] 24))
  clear h
  go_enter Try.func8, Try.ntmps8
  go_wp2
  go_loopw [11] (fun i wr => ∃ k : Nat, k ≤ len ∧ i = .int .i64 (k : Int) ∧ getO (l.drop k) n = getO l n ∧ Below w.heap.size w wr) (fun i _ => len - (intOf i).toNat)
  case atStart => exact ⟨0, by omega, rfl, rfl, BB.out⟩
  case round =>
    obtain ⟨k, hk, rfl, he, hb⟩ := hrel
    have E := hid he
    have B1 := hid hb
    clear he hb BB
    by_cases hlt : k < len
    · obtain ⟨r, hr, _, b, o, rfl, c0, c1⟩ := HC.out.more B1.out k hlt
      have HS := hid (get_step n hr)
      obtain ⟨N, V⟩ := r
      simp only at c0 c1
      by_cases hN : N = n
      · have HT := hid (get_yes (E.out.symm.trans (HS.out.trans (if_pos hN))))
        subst hN
        have B2 := hid (sq B1.out (bel1 wr (.cells #[.int .i64 N, .string V] 51)))
        clear HS E hr
        go_wp2
        go_ret2
        exact ⟨ret_sb HT.out.1.symm HT.out.2.symm, B2.out⟩
      · have HT := hid ((E.out.symm.trans (HS.out.trans (if_neg hN))).symm)
        have B2 := hid (sq B1.out (bel1 wr (.cells #[.int .i64 N, .string V] 51)))
        clear HS E hr
        go_wp2
        go_roundw
        case rel => exact ⟨k + 1, by omega, by go_num, HT.out, B2.out⟩
        case measure => simp [intOf]; omega
    · have HT := hid (get_no (E.out.symm.trans (by rw [drop_end (by rw [HQ.out]; omega)]; rfl)))
      clear E
      go_wp2
      go_ret2
      exact ⟨ret_sb HT.out.1.symm HT.out.2.symm, B1.out⟩
/-- A message in memory. -/
def IB (w : World) (b : Nat) (m : Int) (v : Value) : Prop := w.cell? ⟨b, 0, none⟩ = some (.int .i64 m) ∧ w.cell? ⟨b, 1, none⟩ = some v
theorem IB.more {w w' : World} {b : Nat} {m : Int} {v : Value} (h : IB w b m v) (hb : Below w.heap.size w w') : IB w' b m v := by
  have h0 := World.block_lt_of_cell? w _ h.1
  exact ⟨(hb.cell (p := ⟨b, 0, none⟩) h0).trans h.1, (hb.cell (p := ⟨b, 1, none⟩) h0).trans h.2⟩
theorem IB.new (w : World) (m : Int) (v : Value) : IB (w.alloc (.cells #[.int .i64 m, v] 24)) w.heap.size m v := by
  have h := heap_alloc_new w (.cells #[.int .i64 m, v] 24)
  exact ⟨by rw [cell_of_head h]; rfl, by rw [cell_of_head h]; rfl⟩
set_option maxHeartbeats 1000000 in
theorem get9 (m : Int) (ao : Option Addr) (len cap : Nat) (l : List Fd) (n : Int) (w : World) (h : FG w ao len cap l) :
    Calls Try.prog 9 #[.agg #[.int .i64 m, .slice ao len cap], .int .i64 n] w fun e w' => e = .returned (.tuple #[.string (getS l n), .bool (getB l n)]) ∧ Below w.heap.size w w' := by
  have hl := h.lt
  have HQ := hid h.leq
  have HC := hid h.fc
  have BB := hid (bel1 w (.cells #[.int .i64 m, .slice ao len cap] 24))
  have II := hid (IB.new w m (.slice ao len cap))
  clear h
  go_enter Try.func9, Try.ntmps9
  go_wp2
  go_loopw [6] (fun i wr => ∃ k : Nat, k ≤ len ∧ i = .int .i64 (k : Int) ∧ getO (l.drop k) n = getO l n ∧ IB wr w.heap.size m (.slice ao len cap) ∧ Below w.heap.size w wr) (fun i _ => len - (intOf i).toNat)
  case atStart => exact ⟨0, by omega, rfl, rfl, II.out, BB.out⟩
  case round =>
    obtain ⟨k, hk, rfl, he, hi, hb⟩ := hrel
    have E := hid he
    have B1 := hid hb
    have I1 := hid hi
    obtain ⟨_, i1⟩ := hi
    clear he hb BB II
    by_cases hlt : k < len
    · obtain ⟨r, hr, _, b, o, rfl, c0, c1⟩ := HC.out.more B1.out k hlt
      have HS := hid (get_step n hr)
      obtain ⟨N, V⟩ := r
      simp only at c0 c1
      by_cases hN : N = n
      · have HT := hid (get_yes (E.out.symm.trans (HS.out.trans (if_pos hN))))
        subst hN
        clear HS E hr
        go_wp2
        go_ret2
        exact ⟨ret_sb HT.out.1.symm HT.out.2.symm, B1.out⟩
      · have HT := hid ((E.out.symm.trans (HS.out.trans (if_neg hN))).symm)
        clear HS E hr
        go_wp2
        go_roundw
        case rel => exact ⟨k + 1, by omega, by go_num, HT.out, I1.out, B1.out⟩
        case measure => simp [intOf]; omega
    · have HT := hid (get_no (E.out.symm.trans (by rw [drop_end (by rw [HQ.out]; omega)]; rfl)))
      clear E
      go_wp2
      go_ret2
      exact ⟨ret_sb HT.out.1.symm HT.out.2.symm, B1.out⟩
theorem place_yes (n : Int) : ∀ {l : List Fd} {k : Nat}, k ≤ placeL n l → ∀ {r : Fd}, l[k]? = some r → r.N < n → k + 1 ≤ placeL n l
  | [], _, _, r, hr, _ => by simp at hr
  | f :: q, 0, _, r, hr, h => by
    simp at hr; subst hr
    simp [placeL, h]
  | f :: q, k + 1, hk, r, hr, h => by
    unfold placeL at hk ⊢
    split at hk
    · rename_i h1
      rw [if_pos h1]
      have := place_yes n (l := q) (k := k) (by omega) (by simpa using hr) h
      omega
    · omega
theorem place_no (n : Int) : ∀ {l : List Fd} {k : Nat}, k ≤ placeL n l → ∀ {r : Fd}, l[k]? = some r → ¬ r.N < n → placeL n l = k
  | [], _, _, r, hr, _ => by simp at hr
  | f :: q, 0, _, r, hr, h => by
    simp at hr; subst hr
    simp [placeL, h]
  | f :: q, k + 1, hk, r, hr, h => by
    unfold placeL at hk ⊢
    split at hk
    · rename_i h1
      rw [if_pos h1]
      have := place_no n (l := q) (k := k) (by omega) (by simpa using hr) h
      omega
    · omega
set_option maxHeartbeats 1000000 in
theorem place23 (ao : Option Addr) (len cap : Nat) (l : List Fd) (n : Int) (w : World) (h : FG w ao len cap l) :
    Calls Try.prog 23 #[.slice ao len cap, .int .i64 n] w fun e w' => e = .returned (.int .i64 (placeL n l : Int)) ∧ w = w' := by
  have hl := h.lt
  have HQ := hid h.leq
  have HC := hid h.fc
  have HP := hid (place_le n l)
  clear h
  go_enter Try.func23, Try.ntmps23
  go_wp2
  go_loopw [5] (fun i wr => ∃ k : Nat, k ≤ len ∧ i = .int .i64 (k : Int) ∧ k ≤ placeL n l ∧ w = wr) (fun i _ => len - (intOf i).toNat)
  case atStart => exact ⟨0, by omega, rfl, by omega, rfl⟩
  case round =>
    obtain ⟨k, hk, rfl, he, rfl⟩ := hrel
    have E := hid he
    clear he
    by_cases hlt : k < len
    · obtain ⟨r, hr, _, b, o, rfl, c0, c1⟩ := HC.out k hlt
      have HY := hid (place_yes n E.out hr)
      have HN := hid (place_no n E.out hr)
      obtain ⟨N, V⟩ := r
      simp only at c0 c1
      by_cases hN : N < n
      · have HT := hid (HY.out hN)
        clear HY HN E hr
        go_wp2
        go_roundw
        case rel => exact ⟨k + 1, by omega, by go_num, HT.out, by trivial⟩
        case measure => simp [intOf]; omega
      · have HT := hid (HN.out hN)
        clear HY HN E hr
        go_wp2
        go_ret
        exact ⟨ret_int (by rw [HT.out]), rfl⟩
    · have HT : Hid (placeL n l = k) := by unfold Hid; have := E.out; have := HP.out; rw [HQ.out] at this; omega
      clear E
      go_wp2
      go_ret
      exact ⟨ret_int (by rw [HT.out]), rfl⟩
/-- Not too long, not too many. -/
def lightL (l : List Fd) : Bool := l.all (fun f => decide (f.V.size ≤ 300)) && decide (l.length ≤ 40)
theorem light_step {l : List Fd} {k : Nat} {r : Fd} (h : l[k]? = some r) : (l.drop k).all (fun f => decide (f.V.size ≤ 300)) = (decide (r.V.size ≤ 300) && (l.drop (k + 1)).all (fun f => decide (f.V.size ≤ 300))) := by rw [drop_cons h]; rfl
set_option maxHeartbeats 1000000 in
theorem light6 (m : Int) (ao : Option Addr) (len cap : Nat) (l : List Fd) (w : World) (h : FG w ao len cap l) :
    Calls Try.prog 6 #[.agg #[.int .i64 m, .slice ao len cap]] w fun e w' => e = .returned (.bool (lightL l)) ∧ Below w.heap.size w w' := by
  have hl := h.lt
  have HQ := hid h.leq
  have HC := hid h.fc
  have BB := hid (bel1 w (.cells #[.int .i64 m, .slice ao len cap] 24))
  have II := hid (IB.new w m (.slice ao len cap))
  clear h
  go_enter Try.func6, Try.ntmps6
  go_wp2
  go_loopw [3] (fun i wr => ∃ k : Nat, k ≤ len ∧ i = .int .i64 (k : Int) ∧ (l.drop k).all (fun f => decide (f.V.size ≤ 300)) = l.all (fun f => decide (f.V.size ≤ 300)) ∧ IB wr w.heap.size m (.slice ao len cap) ∧ Below w.heap.size w wr) (fun i _ => len - (intOf i).toNat)
  case atStart => exact ⟨0, by omega, rfl, rfl, II.out, BB.out⟩
  case round =>
    obtain ⟨k, hk, rfl, he, hi, hb⟩ := hrel
    have E := hid he
    have B1 := hid hb
    have I1 := hid hi
    obtain ⟨_, i1⟩ := hi
    clear he hb BB II
    by_cases hlt : k < len
    · obtain ⟨r, hr, hok, b, o, rfl, c0, c1⟩ := HC.out.more B1.out k hlt
      have HS := hid (E.out.symm.trans (light_step hr))
      have hv := hok.2.2
      clear hok
      obtain ⟨N, V⟩ := r
      simp only at c0 c1 hv
      by_cases hN : V.size ≤ 300
      · have HT := hid (HS.out.trans (by rw [show decide (V.size ≤ 300) = true from decide_eq_true hN, Bool.true_and]))
        have j1 : decide ((300 : Int) < (V.size : Int)) = false := decide_eq_false (by omega)
        clear HS E hr
        go_wp2
        go_roundw
        case rel => exact ⟨k + 1, by omega, by go_num, HT.out.symm, I1.out, B1.out⟩
        case measure => simp [intOf]; omega
      · have HT : Hid (lightL l = false) := by unfold Hid lightL; rw [HS.out, show decide (V.size ≤ 300) = false from decide_eq_false hN]; rfl
        have j1 : decide ((300 : Int) < (V.size : Int)) = true := decide_eq_true (by omega)
        clear HS E hr
        go_wp2
        go_ret
        exact ⟨ret_bool HT.out.symm, B1.out⟩
    · have HT : Hid (lightL l = decide (len ≤ 40)) := by unfold Hid lightL; rw [← E.out, drop_end (by rw [HQ.out]; omega), HQ.out]; rfl
      clear E
      go_wp2
      go_ret
      exact ⟨ret_bool (HT.out.trans (decide_eq_decide.2 (by omega))).symm, B1.out⟩
end Go.Proofs.Ytfpjjdlfofejcaa
