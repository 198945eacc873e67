/- Rows of states that lead round: where a walk is behind so many steps. No function is walked. -/
import Derived.Test.YtnahbfnchopghaaDecs
namespace Go.Proofs.Ytnahbfnchopghaa
open Go.ChangeShapes Go.WideShapes Go.ChangeAt Go.RowKit

/-- State i of such a row. -/
def rdS (m : Nat) (c : Int) (i : Nat) : St := ⟨i, c, ((i + 1) % m : Nat), 0⟩
def rdL (m : Nat) (c : Int) : Nat → List St
  | 0 => []
  | i + 1 => rdL m c i ++ [rdS m c i]
theorem rdL_len (m : Nat) (c : Int) (i : Nat) : (rdL m c i).length = i := by
  induction i with
  | zero => rfl
  | succ i ih => rw [rdL, List.length_append, ih]; rfl
theorem rdL_at (m : Nat) (c : Int) (n i : Nat) (h : i < n) : sAt (rdL m c n) i = rdS m c i := by
  induction n with
  | zero => omega
  | succ n ih =>
    unfold sAt rdL
    by_cases e : i < n
    · have := ih e
      unfold sAt at this
      rw [List.getD_eq_getElem?_getD] at this ⊢
      rw [List.getElem?_append_left (by rw [rdL_len]; exact e)]
      exact this
    · obtain rfl : i = n := by omega
      rw [List.getD_eq_getElem?_getD, List.getElem?_append_right (by rw [rdL_len]; exact Nat.le_refl _), rdL_len, Nat.sub_self]
      rfl
theorem rd_find (m : Nat) (c : Int) (i : Nat) (h : i < m) : findL (rdL m c m) i = rdS m c i ∧ foundL (rdL m c m) i = true := by
  have e := rdL_at m c m i h
  have := find_at (l := rdL m c m) (x := (i : Int)) (i := i) (by rw [rdL_len]; exact h) (by rw [e]; rfl) (fun k hk => by
    rw [rdL_at m c m k (by omega)]
    show ¬ ((k : Nat) : Int) = i
    omega)
  rwa [e] at this
def onesL (n : Nat) : List ByteArray := List.replicate n ⟨#[49]⟩
/-- Behind j steps of a row that leads round. -/
def rdK (m : Nat) (ins : List ByteArray) (j : Nat) : Wk := ⟨⟨(j % m : Nat), j, false, ⟨#[]⟩, 0⟩, ⟨#[]⟩, 0, ins⟩
theorem rd_mod (m j : Nat) : (j % m + 1) % m = (j + 1) % m := by rw [Nat.mod_add_mod]
theorem rd_I (m : Nat) (h : 0 < m) (ins : List ByteArray) (j : Nat) : goL (rdL m 73 m) (rdK m ins j) = true ∧ nxL (rdL m 73 m) (rdK m ins j) = rdK m ins (j + 1) := by
  obtain ⟨f1, f2⟩ := rd_find m 73 (j % m) (Nat.mod_lt _ h)
  have f1' : findL (rdL m 73 m) (rdK m ins j).r.pos = rdS m 73 (j % m) := f1
  have f2' : foundL (rdL m 73 m) (rdK m ins j).r.pos = true := f2
  obtain ⟨s1, s2, s3⟩ := step_I (s := rdS m 73 (j % m)) (rdK m ins j) rfl
  refine ⟨go_yes f1' f2' s3, ?_⟩
  unfold nxL
  rw [f1', s1, s2, askK_no (hasTo_no2 rfl)]
  show (⟨⟨(((j % m + 1) % m : Nat) : Int), (j : Int) + 1, false, ⟨#[]⟩, 0⟩, ⟨#[]⟩, 0, ins⟩ : Wk) = ⟨⟨(((j + 1) % m : Nat) : Int), ((j + 1 : Nat) : Int), false, ⟨#[]⟩, 0⟩, ⟨#[]⟩, 0, ins⟩
  rw [rd_mod m j]; rfl
theorem rd_E (m : Nat) (h : 0 < m) (t : List ByteArray) (j : Nat) : goL (rdL m 69 m) (rdK m (⟨#[49]⟩ :: t) j) = true ∧ nxL (rdL m 69 m) (rdK m (⟨#[49]⟩ :: t) j) = rdK m t (j + 1) := by
  obtain ⟨f1, f2⟩ := rd_find m 69 (j % m) (Nat.mod_lt _ h)
  have f1' : findL (rdL m 69 m) (rdK m (⟨#[49]⟩ :: t) j).r.pos = rdS m 69 (j % m) := f1
  have f2' : foundL (rdL m 69 m) (rdK m (⟨#[49]⟩ :: t) j).r.pos = true := f2
  obtain ⟨s1, s2, s3⟩ := step_T (s := rdS m 69 (j % m)) (k := rdK m (⟨#[49]⟩ :: t) j) (x := ⟨#[49]⟩) (t := t) (by show ¬ (69 : Int) = 73; decide) rfl rfl
  obtain ⟨t1, t2, t3⟩ := take_E (s := rdS m 69 (j % m)) (x := ⟨#[49]⟩) ⟨#[]⟩ 0 (by show ¬ (69 : Int) = 65; decide) (by show ¬ (69 : Int) = 66; decide) (by show ¬ (69 : Int) = 68; decide)
  refine ⟨go_yes f1' f2' s3, ?_⟩
  unfold nxL
  rw [f1', s1, s2, t1]
  show advK ⟨(rdK m (⟨#[49]⟩ :: t) j).r, takeP (rdS m 69 (j % m)) ⟨#[49]⟩ ⟨#[]⟩, takeA (rdS m 69 (j % m)) ⟨#[49]⟩ 0, t⟩ _ = _
  rw [t2, t3]
  show (⟨⟨(((j % m + 1) % m : Nat) : Int), (j : Int) + 1, false, ⟨#[]⟩, 0⟩, ⟨#[]⟩, 0, t⟩ : Wk) = ⟨⟨(((j + 1) % m : Nat) : Int), ((j + 1 : Nat) : Int), false, ⟨#[]⟩, 0⟩, ⟨#[]⟩, 0, t⟩
  rw [rd_mod m j]; rfl
theorem rd_runI (m : Nat) (h : 0 < m) (ins : List ByteArray) (n j : Nat) : runK (rdL m 73 m) n (rdK m ins j) = rdK m ins (j + n) := by
  induction n generalizing j with
  | zero => rfl
  | succ n ih => rw [runK_go (rd_I m h ins j).1, (rd_I m h ins j).2, ih]; congr 1; omega
theorem rd_runE (m : Nat) (h : 0 < m) (n q j : Nat) (hq : q ≤ n) : runK (rdL m 69 m) n (rdK m (onesL q) j) = rdK m [] (j + q) := by
  induction q generalizing n j with
  | zero =>
    rw [runK_stop]
    · rfl
    · obtain ⟨f1, _⟩ := rd_find m 69 (j % m) (Nat.mod_lt _ h)
      exact go_no2 f1 (step_N (by show ¬ (69 : Int) = 73; decide) rfl).2.2
  | succ q ih =>
    obtain ⟨n, rfl⟩ : ∃ i, n = i + 1 := ⟨n - 1, by omega⟩
    have e : onesL (q + 1) = ⟨#[49]⟩ :: onesL q := rfl
    rw [e, runK_go (rd_E m h _ j).1, (rd_E m h _ j).2, ih n (j + 1) (by omega)]; congr 1; omega
theorem rd_I_all (m q : Nat) (h : 0 < m) : runL (rdL m 73 m) 0 (onesL q) = ⟨(200 % m : Nat), 200, false, ⟨#[]⟩, 0⟩ := by
  have e : Wk.new 0 ((onesL q).take 100) = rdK m ((onesL q).take 100) 0 := by unfold Wk.new rdK; simp
  unfold runL
  rw [e, rd_runI m h, Nat.zero_add]; rfl
theorem rd_E_all (m q : Nat) (h : 0 < m) : runL (rdL m 69 m) 0 (onesL q) = ⟨(min q 100 % m : Nat), (min q 100 : Nat), false, ⟨#[]⟩, 0⟩ := by
  have e1 : (onesL q).take 100 = onesL (min q 100) := by unfold onesL; rw [List.take_replicate, Nat.min_comm]
  have e : Wk.new 0 (onesL (min q 100)) = rdK m (onesL (min q 100)) 0 := by unfold Wk.new rdK; simp
  unfold runL
  rw [e1, e, rd_runE m h 200 (min q 100) 0 (by omega), Nat.zero_add]; rfl
/-- A row of texts is appended to one of the call's own. -/
theorem app_txt {ops : Array Oper} {rest : List Oper} {op : Oper} {a : Act} {w W0 W1 : World} {Q : Exit → Act → World → Prop} {n1 c1 n2 c2 m : Nat} {ao1 ao2 : Option Addr} {l1 l2 : List ByteArray}
    (h1 : T.Mk W0 w (.slice ao1 n1 c1) n1 l1) (h2 : T.Mk W1 w (.slice ao2 n2 c2) n2 l2) (hm : n1 + n2 = m) (hsmall : m ≤ 1000000) (hgd : op.guard = none) (s x : Operand) (ho : op.op = .call { callee := .builtin .append, args := #[s, x], argTypes := #[26, 26] })
    (hs : a.eval s = .slice ao1 n1 c1) (hx : a.eval x = .slice ao2 n2 c2)
    (h : ∀ ao cap w', T.Mk W0 w' (.slice ao m cap) m (l1 ++ l2) → wpList Try.prog ops Q rest (a.put op.dst (.slice ao m cap)) w') :
    wpList Try.prog ops Q (op :: rest) a w := by
  subst hm
  exact T.app_row h1.1 h2.1.at h2.1.len h2.1.caps.1 h1.2.size hsmall hgd s x ho hs hx (fun ao cap w' hr ht => h ao cap w' (h1.next hr ht))
theorem ones_txt (q : Nat) : Txt (onesL q) := fun s hs => by
  have := List.eq_of_mem_replicate hs
  rw [this]; decide
theorem ones_more (q : Nat) : onesL q ++ [⟨#[49]⟩] = onesL (q + 1) := by unfold onesL; rw [List.replicate_succ']
end Go.Proofs.Ytnahbfnchopghaa
