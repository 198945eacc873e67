/- Parts of a text that bytes make; what a request is read as, way by way. No function is walked. -/
import Derived.Test.YthchgjndaeefmaaPuts
namespace Go.Proofs.Ythchgjndaeefmaa
open Go.ChangeShapes Go.WideShapes Go.ChangeAt Go.RowKit

theorem ext_list (s : ByteArray) (a b : Nat) : (s.extract a b).data.toList = (s.data.toList.take b).drop a := by
  rw [ByteArray.data_extract, Array.toList_extract]
  simp [List.extract, List.drop_take]
theorem ext_str (x : List Int) (i j m : Nat) (hj : j = i + m) : (strOfNums x).extract i j = strOfNums (pc x i m) := by
  subst hj
  apply ByteArray.ext
  apply Array.toList_inj.1
  rw [ext_list, strOfNums_data, strOfNums_data]
  unfold pc
  rw [← List.map_take, ← List.map_drop, List.drop_take, show i + m - i = m by omega]
theorem ext_rest (x : List Int) (i n : Nat) (hn : x.length = n) : (strOfNums x).extract i n = strOfNums (x.drop i) := by
  subst hn
  apply ByteArray.ext
  apply Array.toList_inj.1
  rw [ext_list, strOfNums_data, strOfNums_data, List.take_of_length_le (by simp), List.map_drop]
theorem head80 (x : List Int) (hb : Byt x) (h : 1 ≤ x.length) : (((strOfNums x).extract 0 1).toList == [80]) = decide (x.getD 0 0 = 80) := by
  rw [ext_str x 0 1 1 rfl, ByteArray.toList_eq, strOfNums_data]
  cases x with
  | nil => simp at h
  | cons c l =>
    have hc := hb c (by simp)
    have e := ofNat_toNat c hc.1 hc.2
    rw [show pc (c :: l) 0 1 = [c] from rfl]
    simp only [List.map_cons, List.map_nil, List.getD_cons_zero]
    rw [Bool.eq_iff_iff]
    simp only [beq_iff_eq, List.cons.injEq, and_true, decide_eq_true_eq]
    constructor
    · intro h; rw [h] at e; exact e.symm
    · intro h; subst h; rfl
theorem numV_bd {s : ByteArray} (n : Nat) (h : s.size = n) : 0 ≤ numV s ∧ numV s < 10 ^ n := by
  unfold numV
  split
  · rename_i h1
    refine numD_bd n s.data.toList (by simpa using h) ?_
    unfold numOk at h1
    simp at h1
    exact h1.2
  · exact ⟨by omega, Int.pow_pos (by decide)⟩
theorem pc_lenX (x : List Int) (i m : Nat) (h : i + m ≤ x.length) : (pc x i m).length = m := by unfold pc; rw [List.length_take, List.length_drop]; omega
theorem req_no {x : List Int} (h : reqB x = false) : reqL x = Ps.zero ∧ reqB x = false := ⟨by unfold reqL; rw [h]; rfl, h⟩
theorem req_yes {x : List Int} (h : reqB x = true) : reqL x = reqP x ∧ reqB x = true := ⟨by unfold reqL; rw [h]; rfl, h⟩
theorem req_short {x : List Int} (h : x.length < 25) : reqB x = false := by unfold reqB headB; rw [decide_eq_false (by omega)]; rfl
theorem req_head {x : List Int} (h : ¬ x.getD 0 0 = 80) : reqB x = false := by unfold reqB headB; rw [decide_eq_false h]; simp
theorem req_nums {x : List Int} (h : numsB x = false) : reqB x = false := by unfold reqB; rw [h]; simp
theorem req_right {x : List Int} (h : rightL (reqP x) = false) : reqB x = false := by unfold reqB; rw [h]; simp
theorem req_all {x : List Int} (h1 : 25 ≤ x.length) (h2 : x.getD 0 0 = 80) (h3 : numsB x = true) (h4 : rightL (reqP x) = true) : reqB x = true := by unfold reqB headB; rw [decide_eq_true h1, decide_eq_true h2, h3, h4]; rfl
theorem nums_1 {x : List Int} (h : numOk (fT x) = false) : numsB x = false := by unfold numsB; rw [h]; rfl
theorem nums_2 {x : List Int} (h1 : numOk (fT x) = true) (h : numOk (fS x) = false) : numsB x = false := by unfold numsB; rw [h1, h]; rfl
theorem nums_3 {x : List Int} (h1 : numOk (fT x) = true) (h2 : numOk (fS x) = true) (h : numOk (fA x) = false) : numsB x = false := by unfold numsB; rw [h1, h2, h]; rfl
theorem nums_4 {x : List Int} (h1 : numOk (fT x) = true) (h2 : numOk (fS x) = true) (h3 : numOk (fA x) = true) (h : ¬ numV (fT x) ≤ 65535) : numsB x = false := by unfold numsB; rw [h1, h2, h3, decide_eq_false h]; rfl
theorem nums_all {x : List Int} (h1 : numOk (fT x) = true) (h2 : numOk (fS x) = true) (h3 : numOk (fA x) = true) (h : numV (fT x) ≤ 65535) : numsB x = true := by unfold numsB; rw [h1, h2, h3, decide_eq_true h]; rfl
/-- Of 24 signs none is left for an account. -/
theorem right_24 {x : List Int} (h : x.length ≤ 24) : rightL (reqP x) = false := by
  cases e : rightL (reqP x)
  · rfl
  · have := (right_parts e).p1
    simp [reqP, fP, strOfNums_size] at this
    omega
end Go.Proofs.Ythchgjndaeefmaa
