/- Which fields there are: the program and the document answer the same. -/
import Derived.Test.YtfpjjdlfofejcaaSmall
namespace Go.Proofs.Ytfpjjdlfofejcaa
open Go.ChangeShapes Go.WideShapes Go.ChangeAt Go.RowKit

/-- Of packed digits; how long at most; digits of a length ahead; there is such a field. -/
def fP (n : Int) : Bool × Nat × Nat × Bool :=
  if n = 2 then (true, 19, 2, true) else
  if n = 49 then (true, 3, 0, true) else
  if n = 70 then (true, 3, 0, true) else
  if n = 13 then (true, 4, 0, true) else
  if n = 3 then (true, 6, 0, true) else
  if n = 11 then (true, 6, 0, true) else
  if n = 12 then (true, 6, 0, true) else
  if n = 7 then (true, 10, 0, true) else
  if n = 4 then (true, 12, 0, true) else
  if n = 90 then (true, 42, 0, true) else
  if n = 39 then (false, 2, 0, true) else
  if n = 38 then (false, 6, 0, true) else
  if n = 41 then (false, 8, 0, true) else
  if n = 37 then (false, 12, 0, true) else
  if n = 42 then (false, 15, 0, true) else
  if n = 95 then (false, 42, 0, true) else
  if n = 54 then (false, 120, 3, true) else
  if n = 60 then (false, 999, 3, true) else
  (false, 0, 0, false)
def fD (n : Int) : Bool := (fP n).1
def fL (n : Int) : Nat := (fP n).2.1
def fV (n : Int) : Nat := (fP n).2.2.1
def fK (n : Int) : Bool := (fP n).2.2.2
def fA (n : Int) : Value := .agg #[.bool (fD n), .int .i64 (fL n : Int), .int .i64 (fV n : Int)]
def fQ (q : Bool × Nat × Nat × Bool) : Prop := q.2.1 ≤ 999 ∧ (q.2.2.1 = 0 ∨ (q.2.2.1 = 2 ∧ q.1 = true ∧ q.2.1 = 19) ∨ (q.2.2.1 = 3 ∧ q.1 = false ∧ 120 ≤ q.2.1)) ∧ (q.2.2.2 = true → 2 ≤ q.2.1) ∧ (q.2.2.2 = false → q.2.1 = 0 ∧ q.2.2.1 = 0 ∧ q.1 = false)
theorem ite_c {α : Type} {p : Prop} [Decidable p] {a b : α} {C : α → Prop} (ha : C a) (hb : C b) : C (if p then a else b) := by split <;> assumption
theorem f_any (n : Int) : fL n ≤ 999 ∧ (fV n = 0 ∨ (fV n = 2 ∧ fD n = true ∧ fL n = 19) ∨ (fV n = 3 ∧ fD n = false ∧ 120 ≤ fL n)) ∧ (fK n = true → 2 ≤ fL n) ∧ (fK n = false → fL n = 0 ∧ fV n = 0 ∧ fD n = false) := by
  show fQ (fP n)
  unfold fP
  exact ite_c (by unfold fQ; decide) (ite_c (by unfold fQ; decide) (ite_c (by unfold fQ; decide) (ite_c (by unfold fQ; decide) (ite_c (by unfold fQ; decide) (ite_c (by unfold fQ; decide) (ite_c (by unfold fQ; decide) (ite_c (by unfold fQ; decide) (ite_c (by unfold fQ; decide) (ite_c (by unfold fQ; decide) (ite_c (by unfold fQ; decide) (ite_c (by unfold fQ; decide) (ite_c (by unfold fQ; decide) (ite_c (by unfold fQ; decide) (ite_c (by unfold fQ; decide) (ite_c (by unfold fQ; decide) (ite_c (by unfold fQ; decide) (ite_c (by unfold fQ; decide) (by unfold fQ; decide))))))))))))))))))
set_option maxHeartbeats 4000000 in
theorem of6 (n : Int) (w : World) : Calls Try.prog 34 #[.int .i64 n] w fun e w' => e = .returned (.tuple #[fA n, .bool (fK n)]) ∧ Below w.heap.size w w' := by
  by_cases h0 : n = 2
  · subst h0
    have e : fA 2 = .agg #[.bool true, .int .i64 19, .int .i64 2] ∧ fK 2 = true := ⟨rfl, rfl⟩
    rw [e.1, e.2]
    clear e
    go_enter Try.func34, Try.ntmps34
    go_wp2
    simp [bodyPost, results, Try.results34, go_sem]
    exact bel1 _ _
  by_cases h1 : n = 49
  · subst h1
    have e : fA 49 = .agg #[.bool true, .int .i64 3, .int .i64 0] ∧ fK 49 = true := ⟨rfl, rfl⟩
    rw [e.1, e.2]
    clear e h0
    go_enter Try.func34, Try.ntmps34
    go_wp2
    simp [bodyPost, results, Try.results34, go_sem]
    exact bel1 _ _
  by_cases h2 : n = 70
  · subst h2
    have e : fA 70 = .agg #[.bool true, .int .i64 3, .int .i64 0] ∧ fK 70 = true := ⟨rfl, rfl⟩
    rw [e.1, e.2]
    clear e h0 h1
    go_enter Try.func34, Try.ntmps34
    go_wp2
    simp [bodyPost, results, Try.results34, go_sem]
    exact bel1 _ _
  by_cases h3 : n = 13
  · subst h3
    have e : fA 13 = .agg #[.bool true, .int .i64 4, .int .i64 0] ∧ fK 13 = true := ⟨rfl, rfl⟩
    rw [e.1, e.2]
    clear e h0 h1 h2
    go_enter Try.func34, Try.ntmps34
    go_wp2
    simp [bodyPost, results, Try.results34, go_sem]
    exact bel1 _ _
  by_cases h4 : n = 3
  · subst h4
    have e : fA 3 = .agg #[.bool true, .int .i64 6, .int .i64 0] ∧ fK 3 = true := ⟨rfl, rfl⟩
    rw [e.1, e.2]
    clear e h0 h1 h2 h3
    go_enter Try.func34, Try.ntmps34
    go_wp2
    simp [bodyPost, results, Try.results34, go_sem]
    exact bel1 _ _
  by_cases h5 : n = 11
  · subst h5
    have e : fA 11 = .agg #[.bool true, .int .i64 6, .int .i64 0] ∧ fK 11 = true := ⟨rfl, rfl⟩
    rw [e.1, e.2]
    clear e h0 h1 h2 h3 h4
    go_enter Try.func34, Try.ntmps34
    go_wp2
    simp [bodyPost, results, Try.results34, go_sem]
    exact bel1 _ _
  by_cases h6 : n = 12
  · subst h6
    have e : fA 12 = .agg #[.bool true, .int .i64 6, .int .i64 0] ∧ fK 12 = true := ⟨rfl, rfl⟩
    rw [e.1, e.2]
    clear e h0 h1 h2 h3 h4 h5
    go_enter Try.func34, Try.ntmps34
    go_wp2
    simp [bodyPost, results, Try.results34, go_sem]
    exact bel1 _ _
  by_cases h7 : n = 7
  · subst h7
    have e : fA 7 = .agg #[.bool true, .int .i64 10, .int .i64 0] ∧ fK 7 = true := ⟨rfl, rfl⟩
    rw [e.1, e.2]
    clear e h0 h1 h2 h3 h4 h5 h6
    go_enter Try.func34, Try.ntmps34
    go_wp2
    simp [bodyPost, results, Try.results34, go_sem]
    exact bel1 _ _
  by_cases h8 : n = 4
  · subst h8
    have e : fA 4 = .agg #[.bool true, .int .i64 12, .int .i64 0] ∧ fK 4 = true := ⟨rfl, rfl⟩
    rw [e.1, e.2]
    clear e h0 h1 h2 h3 h4 h5 h6 h7
    go_enter Try.func34, Try.ntmps34
    go_wp2
    simp [bodyPost, results, Try.results34, go_sem]
    exact bel1 _ _
  by_cases h9 : n = 90
  · subst h9
    have e : fA 90 = .agg #[.bool true, .int .i64 42, .int .i64 0] ∧ fK 90 = true := ⟨rfl, rfl⟩
    rw [e.1, e.2]
    clear e h0 h1 h2 h3 h4 h5 h6 h7 h8
    go_enter Try.func34, Try.ntmps34
    go_wp2
    simp [bodyPost, results, Try.results34, go_sem]
    exact bel1 _ _
  by_cases h10 : n = 39
  · subst h10
    have e : fA 39 = .agg #[.bool false, .int .i64 2, .int .i64 0] ∧ fK 39 = true := ⟨rfl, rfl⟩
    rw [e.1, e.2]
    clear e h0 h1 h2 h3 h4 h5 h6 h7 h8 h9
    go_enter Try.func34, Try.ntmps34
    go_wp2
    simp [bodyPost, results, Try.results34, go_sem]
    exact bel1 _ _
  by_cases h11 : n = 38
  · subst h11
    have e : fA 38 = .agg #[.bool false, .int .i64 6, .int .i64 0] ∧ fK 38 = true := ⟨rfl, rfl⟩
    rw [e.1, e.2]
    clear e h0 h1 h2 h3 h4 h5 h6 h7 h8 h9 h10
    go_enter Try.func34, Try.ntmps34
    go_wp2
    simp [bodyPost, results, Try.results34, go_sem]
    exact bel1 _ _
  by_cases h12 : n = 41
  · subst h12
    have e : fA 41 = .agg #[.bool false, .int .i64 8, .int .i64 0] ∧ fK 41 = true := ⟨rfl, rfl⟩
    rw [e.1, e.2]
    clear e h0 h1 h2 h3 h4 h5 h6 h7 h8 h9 h10 h11
    go_enter Try.func34, Try.ntmps34
    go_wp2
    simp [bodyPost, results, Try.results34, go_sem]
    exact bel1 _ _
  by_cases h13 : n = 37
  · subst h13
    have e : fA 37 = .agg #[.bool false, .int .i64 12, .int .i64 0] ∧ fK 37 = true := ⟨rfl, rfl⟩
    rw [e.1, e.2]
    clear e h0 h1 h2 h3 h4 h5 h6 h7 h8 h9 h10 h11 h12
    go_enter Try.func34, Try.ntmps34
    go_wp2
    simp [bodyPost, results, Try.results34, go_sem]
    exact bel1 _ _
  by_cases h14 : n = 42
  · subst h14
    have e : fA 42 = .agg #[.bool false, .int .i64 15, .int .i64 0] ∧ fK 42 = true := ⟨rfl, rfl⟩
    rw [e.1, e.2]
    clear e h0 h1 h2 h3 h4 h5 h6 h7 h8 h9 h10 h11 h12 h13
    go_enter Try.func34, Try.ntmps34
    go_wp2
    simp [bodyPost, results, Try.results34, go_sem]
    exact bel1 _ _
  by_cases h15 : n = 95
  · subst h15
    have e : fA 95 = .agg #[.bool false, .int .i64 42, .int .i64 0] ∧ fK 95 = true := ⟨rfl, rfl⟩
    rw [e.1, e.2]
    clear e h0 h1 h2 h3 h4 h5 h6 h7 h8 h9 h10 h11 h12 h13 h14
    go_enter Try.func34, Try.ntmps34
    go_wp2
    simp [bodyPost, results, Try.results34, go_sem]
    exact bel1 _ _
  by_cases h16 : n = 54
  · subst h16
    have e : fA 54 = .agg #[.bool false, .int .i64 120, .int .i64 3] ∧ fK 54 = true := ⟨rfl, rfl⟩
    rw [e.1, e.2]
    clear e h0 h1 h2 h3 h4 h5 h6 h7 h8 h9 h10 h11 h12 h13 h14 h15
    go_enter Try.func34, Try.ntmps34
    go_wp2
    simp [bodyPost, results, Try.results34, go_sem]
    exact bel1 _ _
  by_cases h17 : n = 60
  · subst h17
    have e : fA 60 = .agg #[.bool false, .int .i64 999, .int .i64 3] ∧ fK 60 = true := ⟨rfl, rfl⟩
    rw [e.1, e.2]
    clear e h0 h1 h2 h3 h4 h5 h6 h7 h8 h9 h10 h11 h12 h13 h14 h15 h16
    go_enter Try.func34, Try.ntmps34
    go_wp2
    simp [bodyPost, results, Try.results34, go_sem]
    exact bel1 _ _
  have e : fA n = .agg #[.bool false, .int .i64 0, .int .i64 0] ∧ fK n = false := by
    have : fP n = (false, 0, 0, false) := by unfold fP; rw [if_neg h0, if_neg h1, if_neg h2, if_neg h3, if_neg h4, if_neg h5, if_neg h6, if_neg h7, if_neg h8, if_neg h9, if_neg h10, if_neg h11, if_neg h12, if_neg h13, if_neg h14, if_neg h15, if_neg h16, if_neg h17]
    unfold fA fD fL fV fK; rw [this]; exact ⟨rfl, rfl⟩
  rw [e.1, e.2]
  clear e
  go_enter Try.func34, Try.ntmps34
  go_wp2
  simp [bodyPost, results, Try.results34, go_sem]
  exact bel1 _ _
set_option maxHeartbeats 4000000 in
theorem of7 (n : Int) (w : World) : Calls Try.prog 10 #[.int .i64 n] w fun e w' => e = .returned (.tuple #[fA n, .bool (fK n)]) ∧ Below w.heap.size w w' := by
  by_cases h0 : n = 2
  · subst h0
    have e : fA 2 = .agg #[.bool true, .int .i64 19, .int .i64 2] ∧ fK 2 = true := ⟨rfl, rfl⟩
    rw [e.1, e.2]
    clear e
    go_enter Try.func10, Try.ntmps10
    go_wp2
    simp [bodyPost, results, Try.results10, go_sem]
    exact bel1 _ _
  by_cases h1 : n = 49
  · subst h1
    have e : fA 49 = .agg #[.bool true, .int .i64 3, .int .i64 0] ∧ fK 49 = true := ⟨rfl, rfl⟩
    rw [e.1, e.2]
    clear e h0
    go_enter Try.func10, Try.ntmps10
    go_wp2
    simp [bodyPost, results, Try.results10, go_sem]
    exact bel1 _ _
  by_cases h2 : n = 70
  · subst h2
    have e : fA 70 = .agg #[.bool true, .int .i64 3, .int .i64 0] ∧ fK 70 = true := ⟨rfl, rfl⟩
    rw [e.1, e.2]
    clear e h0 h1
    go_enter Try.func10, Try.ntmps10
    go_wp2
    simp [bodyPost, results, Try.results10, go_sem]
    exact bel1 _ _
  by_cases h3 : n = 13
  · subst h3
    have e : fA 13 = .agg #[.bool true, .int .i64 4, .int .i64 0] ∧ fK 13 = true := ⟨rfl, rfl⟩
    rw [e.1, e.2]
    clear e h0 h1 h2
    go_enter Try.func10, Try.ntmps10
    go_wp2
    simp [bodyPost, results, Try.results10, go_sem]
    exact bel1 _ _
  by_cases h4 : n = 3
  · subst h4
    have e : fA 3 = .agg #[.bool true, .int .i64 6, .int .i64 0] ∧ fK 3 = true := ⟨rfl, rfl⟩
    rw [e.1, e.2]
    clear e h0 h1 h2 h3
    go_enter Try.func10, Try.ntmps10
    go_wp2
    simp [bodyPost, results, Try.results10, go_sem]
    exact bel1 _ _
  by_cases h5 : n = 11
  · subst h5
    have e : fA 11 = .agg #[.bool true, .int .i64 6, .int .i64 0] ∧ fK 11 = true := ⟨rfl, rfl⟩
    rw [e.1, e.2]
    clear e h0 h1 h2 h3 h4
    go_enter Try.func10, Try.ntmps10
    go_wp2
    simp [bodyPost, results, Try.results10, go_sem]
    exact bel1 _ _
  by_cases h6 : n = 12
  · subst h6
    have e : fA 12 = .agg #[.bool true, .int .i64 6, .int .i64 0] ∧ fK 12 = true := ⟨rfl, rfl⟩
    rw [e.1, e.2]
    clear e h0 h1 h2 h3 h4 h5
    go_enter Try.func10, Try.ntmps10
    go_wp2
    simp [bodyPost, results, Try.results10, go_sem]
    exact bel1 _ _
  by_cases h7 : n = 7
  · subst h7
    have e : fA 7 = .agg #[.bool true, .int .i64 10, .int .i64 0] ∧ fK 7 = true := ⟨rfl, rfl⟩
    rw [e.1, e.2]
    clear e h0 h1 h2 h3 h4 h5 h6
    go_enter Try.func10, Try.ntmps10
    go_wp2
    simp [bodyPost, results, Try.results10, go_sem]
    exact bel1 _ _
  by_cases h8 : n = 4
  · subst h8
    have e : fA 4 = .agg #[.bool true, .int .i64 12, .int .i64 0] ∧ fK 4 = true := ⟨rfl, rfl⟩
    rw [e.1, e.2]
    clear e h0 h1 h2 h3 h4 h5 h6 h7
    go_enter Try.func10, Try.ntmps10
    go_wp2
    simp [bodyPost, results, Try.results10, go_sem]
    exact bel1 _ _
  by_cases h9 : n = 90
  · subst h9
    have e : fA 90 = .agg #[.bool true, .int .i64 42, .int .i64 0] ∧ fK 90 = true := ⟨rfl, rfl⟩
    rw [e.1, e.2]
    clear e h0 h1 h2 h3 h4 h5 h6 h7 h8
    go_enter Try.func10, Try.ntmps10
    go_wp2
    simp [bodyPost, results, Try.results10, go_sem]
    exact bel1 _ _
  by_cases h10 : n = 39
  · subst h10
    have e : fA 39 = .agg #[.bool false, .int .i64 2, .int .i64 0] ∧ fK 39 = true := ⟨rfl, rfl⟩
    rw [e.1, e.2]
    clear e h0 h1 h2 h3 h4 h5 h6 h7 h8 h9
    go_enter Try.func10, Try.ntmps10
    go_wp2
    simp [bodyPost, results, Try.results10, go_sem]
    exact bel1 _ _
  by_cases h11 : n = 38
  · subst h11
    have e : fA 38 = .agg #[.bool false, .int .i64 6, .int .i64 0] ∧ fK 38 = true := ⟨rfl, rfl⟩
    rw [e.1, e.2]
    clear e h0 h1 h2 h3 h4 h5 h6 h7 h8 h9 h10
    go_enter Try.func10, Try.ntmps10
    go_wp2
    simp [bodyPost, results, Try.results10, go_sem]
    exact bel1 _ _
  by_cases h12 : n = 41
  · subst h12
    have e : fA 41 = .agg #[.bool false, .int .i64 8, .int .i64 0] ∧ fK 41 = true := ⟨rfl, rfl⟩
    rw [e.1, e.2]
    clear e h0 h1 h2 h3 h4 h5 h6 h7 h8 h9 h10 h11
    go_enter Try.func10, Try.ntmps10
    go_wp2
    simp [bodyPost, results, Try.results10, go_sem]
    exact bel1 _ _
  by_cases h13 : n = 37
  · subst h13
    have e : fA 37 = .agg #[.bool false, .int .i64 12, .int .i64 0] ∧ fK 37 = true := ⟨rfl, rfl⟩
    rw [e.1, e.2]
    clear e h0 h1 h2 h3 h4 h5 h6 h7 h8 h9 h10 h11 h12
    go_enter Try.func10, Try.ntmps10
    go_wp2
    simp [bodyPost, results, Try.results10, go_sem]
    exact bel1 _ _
  by_cases h14 : n = 42
  · subst h14
    have e : fA 42 = .agg #[.bool false, .int .i64 15, .int .i64 0] ∧ fK 42 = true := ⟨rfl, rfl⟩
    rw [e.1, e.2]
    clear e h0 h1 h2 h3 h4 h5 h6 h7 h8 h9 h10 h11 h12 h13
    go_enter Try.func10, Try.ntmps10
    go_wp2
    simp [bodyPost, results, Try.results10, go_sem]
    exact bel1 _ _
  by_cases h15 : n = 95
  · subst h15
    have e : fA 95 = .agg #[.bool false, .int .i64 42, .int .i64 0] ∧ fK 95 = true := ⟨rfl, rfl⟩
    rw [e.1, e.2]
    clear e h0 h1 h2 h3 h4 h5 h6 h7 h8 h9 h10 h11 h12 h13 h14
    go_enter Try.func10, Try.ntmps10
    go_wp2
    simp [bodyPost, results, Try.results10, go_sem]
    exact bel1 _ _
  by_cases h16 : n = 54
  · subst h16
    have e : fA 54 = .agg #[.bool false, .int .i64 120, .int .i64 3] ∧ fK 54 = true := ⟨rfl, rfl⟩
    rw [e.1, e.2]
    clear e h0 h1 h2 h3 h4 h5 h6 h7 h8 h9 h10 h11 h12 h13 h14 h15
    go_enter Try.func10, Try.ntmps10
    go_wp2
    simp [bodyPost, results, Try.results10, go_sem]
    exact bel1 _ _
  by_cases h17 : n = 60
  · subst h17
    have e : fA 60 = .agg #[.bool false, .int .i64 999, .int .i64 3] ∧ fK 60 = true := ⟨rfl, rfl⟩
    rw [e.1, e.2]
    clear e h0 h1 h2 h3 h4 h5 h6 h7 h8 h9 h10 h11 h12 h13 h14 h15 h16
    go_enter Try.func10, Try.ntmps10
    go_wp2
    simp [bodyPost, results, Try.results10, go_sem]
    exact bel1 _ _
  have e : fA n = .agg #[.bool false, .int .i64 0, .int .i64 0] ∧ fK n = false := by
    have : fP n = (false, 0, 0, false) := by unfold fP; rw [if_neg h0, if_neg h1, if_neg h2, if_neg h3, if_neg h4, if_neg h5, if_neg h6, if_neg h7, if_neg h8, if_neg h9, if_neg h10, if_neg h11, if_neg h12, if_neg h13, if_neg h14, if_neg h15, if_neg h16, if_neg h17]
    unfold fA fD fL fV fK; rw [this]; exact ⟨rfl, rfl⟩
  rw [e.1, e.2]
  clear e
  go_enter Try.func10, Try.ntmps10
  go_wp2
  simp [bodyPost, results, Try.results10, go_sem]
  exact bel1 _ _
end Go.Proofs.Ytfpjjdlfofejcaa
