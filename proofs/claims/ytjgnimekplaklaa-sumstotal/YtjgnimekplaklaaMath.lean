/- Plain integers: sums that an int64 has, numbers of 128 bits in two words, products. No Go in this text. -/
namespace Go.Proofs.Ytjgnimekplaklaa

/-- An int64 has s. -/
def fitB (s : Int) : Bool := decide (-9223372036854775808 ≤ s) && decide (s ≤ 9223372036854775807)
/-- s, or 0 where an int64 has it not. -/
def fitZ (s : Int) : Int := if fitB s = true then s else 0
/-- v is an int64's. -/
def I64 (v : Int) : Prop := -9223372036854775808 ≤ v ∧ v ≤ 9223372036854775807
/-- s has 128 bits at most. -/
def Big (s : Int) : Prop := -170141183460469231731687303715884105728 ≤ s ∧ s ≤ 170141183460469231731687303715884105727

theorem fitB_iff (s : Int) : fitB s = true ↔ I64 s := by simp [fitB, I64]
theorem fitB_yes {s : Int} (h : I64 s) : fitB s = true := (fitB_iff s).2 h
theorem fitB_no {s : Int} (h : ¬ I64 s) : fitB s = false := by
  cases e : fitB s
  · rfl
  · exact absurd ((fitB_iff s).1 e) h
theorem fitZ_yes {s : Int} (h : I64 s) : fitZ s = s := by simp [fitZ, fitB_yes h]
theorem fitZ_no {s : Int} (h : ¬ I64 s) : fitZ s = 0 := by simp [fitZ, fitB_no h]
theorem fitZ_i64 (s : Int) : I64 (fitZ s) := by
  by_cases h : I64 s
  · rw [fitZ_yes h]; exact h
  · rw [fitZ_no h]; unfold I64; omega

/-- The words of s. -/
def hiU (s : Int) : Int := s / 18446744073709551616 % 18446744073709551616
def loU (s : Int) : Int := s % 18446744073709551616
/-- The high word, signed. -/
def hiS (s : Int) : Int := (s / 18446744073709551616 + 9223372036854775808) % 18446744073709551616 - 9223372036854775808

theorem hiU_word (s : Int) : 0 ≤ hiU s ∧ hiU s < 18446744073709551616 := by unfold hiU; omega
theorem loU_word (s : Int) : 0 ≤ loU s ∧ loU s < 18446744073709551616 := by unfold loU; omega
theorem lo_add (s t : Int) : (loU s + loU t) % 18446744073709551616 = loU (s + t) := by unfold loU; omega
theorem hi_add (s t : Int) : (hiU s + hiU t + (loU s + loU t) / 18446744073709551616) % 18446744073709551616 = hiU (s + t) := by unfold hiU loU; omega
theorem lo_sub (s t : Int) : (loU s - loU t) % 18446744073709551616 = loU (s - t) := by unfold loU; omega
/-- The borrow. -/
def bor (x y : Int) : Int := if x < y then 1 else 0
theorem hi_sub (s t : Int) : (hiU s - hiU t - bor (loU s) (loU t)) % 18446744073709551616 = hiU (s - t) := by
  unfold bor; split <;> (unfold hiU loU at *; omega)
theorem bor_le (x y : Int) : 0 ≤ bor x y ∧ bor x y ≤ 1 := by unfold bor; split <;> omega
theorem hi_same {s v : Int} (hs : Big s) (hv : I64 v) (e : loU v = loU s) (h : hiU v = hiU s) : v = s := by
  unfold Big at hs; unfold I64 at hv; unfold hiU loU at *; omega
theorem div63 {v : Int} (hv : I64 v) : v / 9223372036854775808 = v / 18446744073709551616 ∧ -1 ≤ v / 18446744073709551616 ∧ v / 18446744073709551616 ≤ 0 := by
  unfold I64 at hv
  rcases Int.lt_or_le v 0 with h | h <;> omega
theorem hiS_same {s v : Int} (hs : Big s) (hv : I64 v) (e : loU v = loU s) (h : hiS s = v / 9223372036854775808) : v = s := by
  have d := div63 hv
  rw [d.1] at h
  unfold Big at hs; unfold I64 at hv; unfold hiS loU at *; omega
theorem hiS_of {s : Int} (hs : I64 s) : hiS s = s / 9223372036854775808 := by
  unfold I64 at hs; unfold hiS; omega
theorem hiU_of {s : Int} (hs : I64 s) : (s / 9223372036854775808) % 18446744073709551616 = hiU s := by
  unfold I64 at hs; unfold hiU; omega
theorem hiS_add {s v : Int} (hv : I64 v) : (hiS s + v / 9223372036854775808 + (loU s + loU v) / 18446744073709551616 + 9223372036854775808) % 18446744073709551616 - 9223372036854775808 = hiS (s + v) := by
  have d := div63 hv
  rw [d.1]
  unfold I64 at hv; unfold hiS loU
  clear hv
  omega

/-- The low word as an int64. -/
def lowZ (s : Int) : Int := (loU s + 9223372036854775808) % 18446744073709551616 - 9223372036854775808
theorem lowZ_i64 (s : Int) : I64 (lowZ s) := by unfold I64 lowZ; omega
theorem lowZ_lo (s : Int) : loU (lowZ s) = loU s := by unfold lowZ loU; omega
theorem lowZ_of {s : Int} (h : I64 s) : lowZ s = s := by unfold I64 at h; unfold lowZ loU; omega

/-- The product of two numbers, each taken as one that is not below 0, and what was counted too much. -/
theorem mul_split (a b ua ub x y : Int) (ha : ua = a + 18446744073709551616 * x) (hb : ub = b + 18446744073709551616 * y) :
    ua * ub = a * b + 18446744073709551616 * (x * b + a * y + 18446744073709551616 * (x * y)) := by
  subst ha hb
  rw [Int.add_mul, Int.mul_add, Int.mul_add, Int.mul_add, Int.mul_add]
  have e1 : a * (18446744073709551616 * y) = 18446744073709551616 * (a * y) := by rw [Int.mul_left_comm]
  have e2 : 18446744073709551616 * x * b = 18446744073709551616 * (x * b) := by rw [Int.mul_assoc]
  have e3 : 18446744073709551616 * x * (18446744073709551616 * y) = 18446744073709551616 * (18446744073709551616 * (x * y)) := by
    rw [Int.mul_assoc, Int.mul_left_comm x]
  rw [e1, e2, e3]; omega

theorem loU_i64 {a : Int} (h : I64 a) : loU a = a + 18446744073709551616 * (if a < 0 then 1 else 0) := by
  unfold I64 at h; unfold loU; split <;> omega

theorem mul_lo (a b : Int) : loU a * loU b % 18446744073709551616 = loU (a * b) := by
  unfold loU; exact (Int.mul_emod _ _ _).symm

/-- 'The other one', where v is below 0. -/
def neg1 (v u : Int) : Int := if v < 0 then u else 0

theorem mul_hi {a b : Int} (ha : I64 a) (hb : I64 b) :
    (((loU a * loU b) / 18446744073709551616 - neg1 a (loU b)) % 18446744073709551616 - neg1 b (loU a)) % 18446744073709551616 = hiU (a * b) := by
  have key := mul_split a b (loU a) (loU b) _ _ (loU_i64 ha) (loU_i64 hb)
  have la := loU_i64 ha
  have lb := loU_i64 hb
  unfold neg1 hiU
  rw [key]
  generalize a * b = p
  by_cases h1 : a < 0 <;> by_cases h2 : b < 0 <;> simp only [h1, h2, if_true, if_false] at la lb ⊢ <;> simp <;> omega

theorem big_of_mul {a b : Int} (ha : I64 a) (hb : I64 b) : Big (a * b) := by
  unfold I64 at ha hb
  have h1 : a.natAbs ≤ 9223372036854775808 := by omega
  have h2 : b.natAbs ≤ 9223372036854775808 := by omega
  have h3 := Nat.mul_le_mul h1 h2
  rw [← Int.natAbs_mul] at h3
  unfold Big; omega

theorem big_of_add {a b : Int} (ha : I64 a) (hb : I64 b) : Big (a + b) := by unfold I64 at ha hb; unfold Big; omega
theorem big_of_sub {a b : Int} (ha : I64 a) (hb : I64 b) : Big (a - b) := by unfold I64 at ha hb; unfold Big; omega

/-- The sum of a list, and of its beginning. -/
def tot (l : List Int) : Int := l.foldl (· + ·) 0
theorem tot_nil : tot [] = 0 := rfl
theorem foldl_tot (l : List Int) (v : Int) : l.foldl (· + ·) v = v + tot l := by
  induction l generalizing v with
  | nil => simp [tot]
  | cons x l ih => rw [List.foldl_cons, ih, show tot (x :: l) = l.foldl (· + ·) (0 + x) from rfl, ih]; omega
theorem tot_cons (x : Int) (l : List Int) : tot (x :: l) = x + tot l := by
  rw [tot, List.foldl_cons, foldl_tot]; omega
theorem tot_append (l m : List Int) : tot (l ++ m) = tot l + tot m := by
  rw [tot, List.foldl_append, foldl_tot]; rfl
theorem tot_take {l : List Int} {k : Nat} (h : k < l.length) : tot (l.take (k + 1)) = tot (l.take k) + l[k] := by
  rw [List.take_succ_eq_append_getElem h, tot_append, tot_cons, tot_nil]; omega
theorem tot_all {l : List Int} {k : Nat} (h : l.length ≤ k) : tot (l.take k) = tot l := by rw [List.take_of_length_le h]
def AllI (l : List Int) : Prop := ∀ x ∈ l, I64 x
theorem tot_bound (l : List Int) (h : AllI l) : -9223372036854775808 * (l.length : Int) ≤ tot l ∧ tot l ≤ 9223372036854775808 * (l.length : Int) := by
  induction l with
  | nil => simp [tot_nil]
  | cons x l ih =>
    have hx := h x (by simp)
    have hr := ih (fun y hy => h y (by simp [hy]))
    rw [tot_cons]
    unfold I64 at hx
    simp only [List.length_cons]
    omega
theorem tot_big (l : List Int) (h : AllI l) (hl : l.length ≤ 9223372036854775807) : Big (tot l) := by
  have := tot_bound l h
  unfold Big; omega
theorem tot_perm_rot (l m : List Int) : tot (l ++ m) = tot (m ++ l) := by rw [tot_append, tot_append]; omega

end Go.Proofs.Ytjgnimekplaklaa
