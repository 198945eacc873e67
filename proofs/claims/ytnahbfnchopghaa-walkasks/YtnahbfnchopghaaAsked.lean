/- Accounts and amounts that are typed again and again, then asked: where the walk is. No function is walked. -/
import Derived.Test.YtnahbfnchopghaaRound
namespace Go.Proofs.Ytnahbfnchopghaa
open Go.ChangeShapes Go.WideShapes Go.ChangeAt Go.RowKit

theorem e_step {L : List St} {k : Wk} {s : St} {x : ByteArray} {t : List ByteArray} (hs : findL L k.r.pos = s) (hf : foundL L k.r.pos = true) (hk : s.kind = 69) (hi : k.ins = x :: t) :
    goL L k = true ∧ nxL L k = advK { k with ins := t } (choL s x) := by
  obtain ⟨s1, s2, s3⟩ := step_T (s := s) (k := k) (x := x) (t := t) (by rw [hk]; decide) (by rw [hk]; rfl) hi
  obtain ⟨t1, t2, t3⟩ := take_E (s := s) (x := x) k.pan k.amt (by rw [hk]; decide) (by rw [hk]; decide) (by rw [hk]; decide)
  refine ⟨go_yes hs hf s3, ?_⟩
  unfold nxL
  rw [hs, s1, s2, t1, t2, t3]
theorem a_step {L : List St} {k : Wk} {s : St} {x : ByteArray} {t : List ByteArray} (hs : findL L k.r.pos = s) (hf : foundL L k.r.pos = true) (hk : s.kind = 65) (hx : panB x = true) (hi : k.ins = x :: t) :
    goL L k = true ∧ nxL L k = advK { k with pan := x, ins := t } s.next := by
  obtain ⟨s1, s2, s3⟩ := step_T (s := s) (k := k) (x := x) (t := t) (by rw [hk]; decide) (by rw [hk]; rfl) hi
  obtain ⟨t1, t2, t3⟩ := take_A1 (s := s) (x := x) k.pan k.amt hk hx
  refine ⟨go_yes hs hf s3, ?_⟩
  unfold nxL
  rw [hs, s1, s2, t1, t2, t3]
theorem d_step {L : List St} {k : Wk} {s : St} {x : ByteArray} {t : List ByteArray} (hs : findL L k.r.pos = s) (hf : foundL L k.r.pos = true) (hk : s.kind = 68) (hx : numB 7 x = true) (hi : k.ins = x :: t) :
    goL L k = true ∧ nxL L k = advK { k with amt := numK 7 x, ins := t } s.next := by
  obtain ⟨s1, s2, s3⟩ := step_T (s := s) (k := k) (x := x) (t := t) (by rw [hk]; decide) (by rw [hk]; rfl) hi
  obtain ⟨t1, t2, t3⟩ := take_D1 (s := s) (x := x) k.pan k.amt hk hx
  refine ⟨go_yes hs hf s3, ?_⟩
  unfold nxL
  rw [hs, s1, s2, t1, t2, t3]
theorem i_step {L : List St} {k : Wk} {s : St} (hs : findL L k.r.pos = s) (hf : foundL L k.r.pos = true) (hk : s.kind = 73) :
    goL L k = true ∧ nxL L k = advK (askK k) s.next := by
  obtain ⟨s1, s2, s3⟩ := step_I (s := s) k hk
  refine ⟨go_yes hs hf s3, ?_⟩
  unfold nxL
  rw [hs, s1, s2]
/-- What is typed for these accounts, for these amounts. -/
def inP (ps : List Int) : List ByteArray := ps.flatMap fun p => [⟨#[49]⟩, panK p]
def inQ (qs : List Int) : List ByteArray := qs.flatMap fun q => [⟨#[49]⟩, decS q]
def lastP (p : ByteArray) (ps : List Int) : ByteArray := ps.foldl (fun _ k => panK k) p
def lastQ (a : Int) (qs : List Int) : Int := qs.foldl (fun _ q => q) a
theorem inP_snoc (ps : List Int) (p : Int) : inP (ps ++ [p]) = inP ps ++ [⟨#[49]⟩, panK p] := by unfold inP; simp
theorem inQ_snoc (qs : List Int) (q : Int) : inQ (qs ++ [q]) = inQ qs ++ [⟨#[49]⟩, decS q] := by unfold inQ; simp
theorem lastP_snoc (ps : List Int) (p : Int) (x : ByteArray) : lastP x (ps ++ [p]) = panK p := by unfold lastP; simp
theorem lastQ_snoc (qs : List Int) (q a : Int) : lastQ a (qs ++ [q]) = q := by unfold lastQ; simp
theorem inP_len (ps : List Int) : (inP ps).length = 2 * ps.length := by
  induction ps with
  | nil => rfl
  | cons p ps ih => show (⟨#[49]⟩ :: panK p :: inP ps).length = _; simp only [List.length_cons]; omega
theorem inQ_len (qs : List Int) : (inQ qs).length = 2 * qs.length := by
  induction qs with
  | nil => rfl
  | cons p ps ih => show (⟨#[49]⟩ :: decS p :: inQ ps).length = _; simp only [List.length_cons]; omega
/-- A table that begins so. -/
structure Five (L : List St) : Prop where
  f0 : findL L 0 = ⟨0, 69, 1, 2⟩ ∧ foundL L 0 = true
  f1 : findL L 1 = ⟨1, 65, 0, 0⟩ ∧ foundL L 1 = true
  f2 : findL L 2 = ⟨2, 69, 3, 4⟩ ∧ foundL L 2 = true
  f3 : findL L 3 = ⟨3, 68, 2, 2⟩ ∧ foundL L 3 = true
  f4 : findL L 4 = ⟨4, 73, 5, 0⟩ ∧ foundL L 4 = true
theorem pans_run {L : List St} (h : Five L) (rest : List ByteArray) (n : Nat) : ∀ (ps : List Int) (st : Int) (p : ByteArray),
    ∃ st', runK L (n + 2 * ps.length) ⟨⟨0, st, false, ⟨#[]⟩, 0⟩, p, 0, inP ps ++ rest⟩ = runK L n ⟨⟨0, st', false, ⟨#[]⟩, 0⟩, lastP p ps, 0, rest⟩ := by
  intro ps
  induction ps with
  | nil => intro st p; exact ⟨st, rfl⟩
  | cons x ps ih =>
    intro st p
    obtain ⟨st', e⟩ := ih (st + 1 + 1) (panK x)
    refine ⟨st', ?_⟩
    have i1 : inP (x :: ps) ++ rest = ⟨#[49]⟩ :: panK x :: (inP ps ++ rest) := rfl
    obtain ⟨g1, x1⟩ := e_step (L := L) (k := ⟨⟨0, st, false, ⟨#[]⟩, 0⟩, p, 0, ⟨#[49]⟩ :: panK x :: (inP ps ++ rest)⟩) h.f0.1 h.f0.2 rfl rfl
    obtain ⟨g2, x2⟩ := a_step (L := L) (k := ⟨⟨1, st + 1, false, ⟨#[]⟩, 0⟩, p, 0, panK x :: (inP ps ++ rest)⟩) h.f1.1 h.f1.2 rfl (panK_ok x) rfl
    have x1' : nxL L ⟨⟨0, st, false, ⟨#[]⟩, 0⟩, p, 0, ⟨#[49]⟩ :: panK x :: (inP ps ++ rest)⟩ = ⟨⟨1, st + 1, false, ⟨#[]⟩, 0⟩, p, 0, panK x :: (inP ps ++ rest)⟩ := x1
    have x2' : nxL L ⟨⟨1, st + 1, false, ⟨#[]⟩, 0⟩, p, 0, panK x :: (inP ps ++ rest)⟩ = ⟨⟨0, st + 1 + 1, false, ⟨#[]⟩, 0⟩, panK x, 0, inP ps ++ rest⟩ := x2
    rw [i1, show n + 2 * (x :: ps).length = (n + 2 * ps.length) + 1 + 1 by simp only [List.length_cons]; omega, runK_go g1, x1', runK_go g2, x2', e]
    rfl
theorem dec_7 {q : Int} (h : 0 ≤ q ∧ q < 256) : numB 7 (decS q) = true ∧ numK 7 (decS q) = q := by
  have h1 := decS_le (v := q) 2 h.1 (by omega)
  have h2 := decS_one (v := q) h.1
  obtain ⟨a, b⟩ := numOk_yes (s := decS q) h2 (by omega) (decS_dig h.1)
  exact ⟨(num_7 (by omega)).trans a, (num_fit (by omega)).1.trans (b.trans (decS_num h.1))⟩
theorem amts_run {L : List St} (h : Five L) (rest : List ByteArray) (n : Nat) (p : ByteArray) : ∀ (qs : List Int) (st a : Int), Byt qs →
    ∃ st', runK L (n + 2 * qs.length) ⟨⟨2, st, false, ⟨#[]⟩, 0⟩, p, a, inQ qs ++ rest⟩ = runK L n ⟨⟨2, st', false, ⟨#[]⟩, 0⟩, p, lastQ a qs, rest⟩ := by
  intro qs
  induction qs with
  | nil => intro st a _; exact ⟨st, rfl⟩
  | cons x qs ih =>
    intro st a hb
    obtain ⟨st', e⟩ := ih (st + 1 + 1) x (fun y hy => hb y (List.mem_cons_of_mem _ hy))
    refine ⟨st', ?_⟩
    obtain ⟨d1, d2⟩ := dec_7 (hb x List.mem_cons_self)
    have i1 : inQ (x :: qs) ++ rest = ⟨#[49]⟩ :: decS x :: (inQ qs ++ rest) := rfl
    obtain ⟨g1, x1⟩ := e_step (L := L) (k := ⟨⟨2, st, false, ⟨#[]⟩, 0⟩, p, a, ⟨#[49]⟩ :: decS x :: (inQ qs ++ rest)⟩) h.f2.1 h.f2.2 rfl rfl
    obtain ⟨g2, x2⟩ := d_step (L := L) (k := ⟨⟨3, st + 1, false, ⟨#[]⟩, 0⟩, p, a, decS x :: (inQ qs ++ rest)⟩) h.f3.1 h.f3.2 rfl d1 rfl
    rw [d2] at x2
    have x1' : nxL L ⟨⟨2, st, false, ⟨#[]⟩, 0⟩, p, a, ⟨#[49]⟩ :: decS x :: (inQ qs ++ rest)⟩ = ⟨⟨3, st + 1, false, ⟨#[]⟩, 0⟩, p, a, decS x :: (inQ qs ++ rest)⟩ := x1
    have x2' : nxL L ⟨⟨3, st + 1, false, ⟨#[]⟩, 0⟩, p, a, decS x :: (inQ qs ++ rest)⟩ = ⟨⟨2, st + 1 + 1, false, ⟨#[]⟩, 0⟩, p, x, inQ qs ++ rest⟩ := x2
    rw [i1, show n + 2 * (x :: qs).length = (n + 2 * qs.length) + 1 + 1 by simp only [List.length_cons]; omega, runK_go g1, x1', runK_go g2, x2', e]
    rfl
/-- All that is typed. -/
def inAll (ps qs : List Int) : List ByteArray := (inP ps ++ [⟨#[50]⟩]) ++ (inQ qs ++ [⟨#[50]⟩])
/-- Behind the asking. -/
theorem four_run {L : List St} (h : Five L) (ps qs : List Int) (hb : Byt qs) (n : Nat) (hp : ps.length ≤ 8) (hq : qs.length ≤ 8) (hn : n + 2 * ps.length + 2 * qs.length + 3 = 200) :
    ∃ st, runK L 200 (Wk.new 0 ((inAll ps qs).take 100)) = runK L n (advK (askK ⟨⟨4, st, false, ⟨#[]⟩, 0⟩, lastP ⟨#[]⟩ ps, lastQ 0 qs, []⟩) 5) := by
  have e0 : (inAll ps qs).take 100 = inP ps ++ (⟨#[50]⟩ :: (inQ qs ++ [⟨#[50]⟩])) := by
    have e1 : inAll ps qs = inP ps ++ (⟨#[50]⟩ :: (inQ qs ++ [⟨#[50]⟩])) := by unfold inAll; simp
    rw [e1, List.take_of_length_le]
    have h1 := inP_len ps
    have h2 := inQ_len qs
    simp only [List.length_append, List.length_cons, List.length_nil]
    omega
  obtain ⟨s1, e1⟩ := pans_run h (⟨#[50]⟩ :: (inQ qs ++ [⟨#[50]⟩])) (n + 2 * qs.length + 3) ps 0 ⟨#[]⟩
  obtain ⟨g2, x2⟩ := e_step (L := L) (k := ⟨⟨0, s1, false, ⟨#[]⟩, 0⟩, lastP ⟨#[]⟩ ps, 0, ⟨#[50]⟩ :: (inQ qs ++ [⟨#[50]⟩])⟩) h.f0.1 h.f0.2 rfl rfl
  have x2' : nxL L ⟨⟨0, s1, false, ⟨#[]⟩, 0⟩, lastP ⟨#[]⟩ ps, 0, ⟨#[50]⟩ :: (inQ qs ++ [⟨#[50]⟩])⟩ = ⟨⟨2, s1 + 1, false, ⟨#[]⟩, 0⟩, lastP ⟨#[]⟩ ps, 0, inQ qs ++ [⟨#[50]⟩]⟩ := x2
  obtain ⟨s3, e3⟩ := amts_run h [⟨#[50]⟩] (n + 2) (lastP ⟨#[]⟩ ps) qs (s1 + 1) 0 hb
  obtain ⟨g4, x4⟩ := e_step (L := L) (k := ⟨⟨2, s3, false, ⟨#[]⟩, 0⟩, lastP ⟨#[]⟩ ps, lastQ 0 qs, [⟨#[50]⟩]⟩) h.f2.1 h.f2.2 rfl rfl
  have x4' : nxL L ⟨⟨2, s3, false, ⟨#[]⟩, 0⟩, lastP ⟨#[]⟩ ps, lastQ 0 qs, [⟨#[50]⟩]⟩ = ⟨⟨4, s3 + 1, false, ⟨#[]⟩, 0⟩, lastP ⟨#[]⟩ ps, lastQ 0 qs, []⟩ := x4
  obtain ⟨g5, x5⟩ := i_step (L := L) (k := ⟨⟨4, s3 + 1, false, ⟨#[]⟩, 0⟩, lastP ⟨#[]⟩ ps, lastQ 0 qs, []⟩) h.f4.1 h.f4.2 rfl
  refine ⟨s3 + 1, ?_⟩
  have e00 : Wk.new 0 (inP ps ++ (⟨#[50]⟩ :: (inQ qs ++ [⟨#[50]⟩]))) = ⟨⟨0, 0, false, ⟨#[]⟩, 0⟩, ⟨#[]⟩, 0, inP ps ++ (⟨#[50]⟩ :: (inQ qs ++ [⟨#[50]⟩]))⟩ := rfl
  rw [e0, e00, show (200 : Nat) = (n + 2 * qs.length + 3) + 2 * ps.length by omega, e1]
  rw [show n + 2 * qs.length + 3 = (n + 2 + 2 * qs.length) + 1 by omega, runK_go g2, x2', e3]
  rw [show n + 2 = (n + 1) + 1 from rfl, runK_go g4, x4', runK_go g5, x5]
def asksB (ps qs : List Int) : Bool := decide (lastP ⟨#[]⟩ ps ≠ ⟨#[]⟩) && decide (lastQ 0 qs ≠ 0)
/-- What such a walk tells. -/
def AskR (ps qs : List Int) (pos st : Int) : Rs := ⟨pos, st, asksB ps qs, if asksB ps qs = true then lastP ⟨#[]⟩ ps else ⟨#[]⟩, if asksB ps qs = true then lastQ 0 qs else 0⟩
theorem ask_r (ps qs : List Int) (st p : Int) : (advK (askK ⟨⟨4, st, false, ⟨#[]⟩, 0⟩, lastP ⟨#[]⟩ ps, lastQ 0 qs, []⟩) p).r = AskR ps qs p (st + 1) := by
  have e : hasTo ⟨⟨4, st, false, ⟨#[]⟩, 0⟩, lastP ⟨#[]⟩ ps, lastQ 0 qs, []⟩ = asksB ps qs := by unfold hasTo asksB; rfl
  cases hB : asksB ps qs
  · rw [askK_no (e.trans hB)]; unfold AskR advK; rw [hB]; rfl
  · rw [askK_yes (e.trans hB)]; unfold AskR advK; rw [hB]; rfl
theorem ask_twice (k : Wk) (p : Int) : askK (advK (askK k) p) = advK (askK k) p := by
  cases h : hasTo k
  · rw [askK_no h]
    exact askK_no (by unfold hasTo advK at *; exact h)
  · rw [askK_yes h]
    exact askK_no (hasTo_no1 rfl)
def L6 : List St := [⟨0, 69, 1, 2⟩, ⟨1, 65, 0, 0⟩, ⟨2, 69, 3, 4⟩, ⟨3, 68, 2, 2⟩, ⟨4, 73, 5, 0⟩, ⟨5, 90, 0, 0⟩]
def L7 : List St := [⟨0, 69, 1, 2⟩, ⟨1, 65, 0, 0⟩, ⟨2, 69, 3, 4⟩, ⟨3, 68, 2, 2⟩, ⟨4, 73, 5, 0⟩, ⟨5, 73, 6, 0⟩, ⟨6, 90, 0, 0⟩]
theorem five6 : Five L6 := ⟨⟨rfl, rfl⟩, ⟨rfl, rfl⟩, ⟨rfl, rfl⟩, ⟨rfl, rfl⟩, ⟨rfl, rfl⟩⟩
theorem five7 : Five L7 := ⟨⟨rfl, rfl⟩, ⟨rfl, rfl⟩, ⟨rfl, rfl⟩, ⟨rfl, rfl⟩, ⟨rfl, rfl⟩⟩
theorem ask_run6 (ps qs : List Int) (hb : Byt qs) (hp : ps.length ≤ 8) (hq : qs.length ≤ 8) : ∃ st, runL L6 0 (inAll ps qs) = AskR ps qs 5 st := by
  obtain ⟨st, e⟩ := four_run five6 ps qs hb (197 - 2 * ps.length - 2 * qs.length) hp hq (by omega)
  refine ⟨st + 1, ?_⟩
  unfold runL
  rw [e, runK_stop, ask_r]
  exact go_no2 (s := ⟨5, 90, 0, 0⟩) rfl (goes_Z _ rfl)
theorem ask_run7 (ps qs : List Int) (hb : Byt qs) (hp : ps.length ≤ 8) (hq : qs.length ≤ 8) : ∃ st, runL L7 0 (inAll ps qs) = AskR ps qs 6 st := by
  obtain ⟨st, e⟩ := four_run five7 ps qs hb (197 - 2 * ps.length - 2 * qs.length) hp hq (by omega)
  obtain ⟨g, x⟩ := i_step (L := L7) (k := advK (askK ⟨⟨4, st, false, ⟨#[]⟩, 0⟩, lastP ⟨#[]⟩ ps, lastQ 0 qs, []⟩) 5) (s := ⟨5, 73, 6, 0⟩) rfl rfl rfl
  refine ⟨st + 1 + 1, ?_⟩
  unfold runL
  rw [e, show 197 - 2 * ps.length - 2 * qs.length = (196 - 2 * ps.length - 2 * qs.length) + 1 by omega, runK_go g, x, ask_twice, runK_stop]
  · have := ask_r ps qs st 5
    show Rs.mk 6 ((advK (askK _) 5).r.steps + 1) (advK (askK _) 5).r.asked (advK (askK _) 5).r.pan (advK (askK _) 5).r.amt = _
    rw [this]; rfl
  · exact go_no2 (s := ⟨6, 90, 0, 0⟩) rfl (goes_Z _ rfl)
theorem two_txt {a b : ByteArray} (h1 : a.size ≤ 9223372036854775807) (h2 : b.size ≤ 9223372036854775807) : Txt [a, b] := fun s hs => by
  rcases List.mem_cons.1 hs with rfl | hs
  · exact h1
  · have : s = b := by simpa using hs
    rw [this]; exact h2
theorem all_txt (ps qs : List Int) (hb : Byt qs) : Txt (inAll ps qs) := fun s hs => by
  unfold inAll inP inQ at hs
  simp only [List.mem_append, List.mem_flatMap, List.mem_cons, List.not_mem_nil, or_false] at hs
  rcases hs with (⟨p, _, rfl | rfl⟩ | rfl) | ⟨q, hq, rfl | rfl⟩ | rfl
  · decide
  · have := panK_size p; omega
  · decide
  · decide
  · have := hb q hq
    have := decS_len q (by omega) (by omega); omega
  · decide
end Go.Proofs.Ytnahbfnchopghaa
