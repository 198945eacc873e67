/- The small functions of the disk: how many sectors, is it down, a step, a cut, what is kept, which write is the last that is lost. -/
import Derived.Test.YthhgnflkplpklabDMem
namespace Go.Proofs.Ythhgnflkplpklab.Dsc
open Go.ChangeShapes Go.WideShapes Go.ChangeAt Go.RowKit

theorem ret_int {k : IntKind} {a b : Int} (h : a = b) : Ending.returned (.int k a) = .returned (.int k b) := by rw [h]
theorem ret_bool {a b : Bool} (h : a = b) : Ending.returned (.bool a) = .returned (.bool b) := by rw [h]
def errZ (b : Bool) : Int := if b then 22 else 0
/-- A write or sync that has no other error: is the power gone then, and how many are left? -/
def stepD (d : Dk) : Dk := { d with left := if 0 < d.left then d.left - 1 else d.left, down := if 0 < d.left then decide (d.left = 1) else d.down }
theorem stepD_ok {d : Dk} (h : d.Ok) : (stepD d).Ok := by
  have := h.left
  refine h.withLeft _ _ ?_ ?_ <;> split <;> omega
/-- Which error a sector number has. -/
def reachZ (d : Dk) (n : Int) : Int := if d.down then 22 else if n < 0 ∨ (d.secs.length : Int) ≤ n then 20 else 0
def cutD (d : Dk) (n : Int) : Dk := if d.down then d else { d with left := max n 0, down := decide (n ≤ 0) }
/-- The document's cut. -/
def cutR (d : Dk) (n : Int) : Dk := if n < 1 then { d with left := 0, down := true } else { d with left := n }
theorem cutD_ok {d : Dk} (h : d.Ok) {n : Int} (hn : n ≤ 9223372036854775807) : (cutD d n).Ok := by
  unfold cutD
  split
  · exact h
  · exact h.withLeft _ _ (by omega) (by omega)
theorem cutR_ok {d : Dk} (h : d.Ok) {n : Int} (hn : n ≤ 9223372036854775807) : (cutR d n).Ok := by
  unfold cutR
  split
  · exact h.withLeft _ _ (by omega) (by omega)
  · exact h.withLeft _ d.down (by omega) (by omega)

/-- A row of things of one cell each, wherever it lies. -/
def RowOf {α : Type} (mk : α → Value) (w : World) (ao : Option Addr) (l : List α) : Prop :=
  l = [] ∨ ∃ b o, ao = some ⟨b, o, none⟩ ∧ ∀ i x, l[i]? = some x → w.cell? ⟨b, o + i, none⟩ = some (mk x)
theorem RowOf.keep {α : Type} {mk : α → Value} {w w' : World} {ao : Option Addr} {l : List α} {B : Nat} (h : RowOf mk w ao l) (hb : l ≠ [] → ∀ a, ao = some a → a.block < B) (hk : Below B w w') : RowOf mk w' ao l := by
  by_cases h0 : l = []
  · exact .inl h0
  have hb := hb h0
  rcases h with h | ⟨b, o, rfl, h⟩
  · exact .inl h
  · refine .inr ⟨b, o, rfl, fun i x hx => ?_⟩
    rw [hk.cell (p := ⟨b, o + i, none⟩) (hb ⟨b, o, none⟩ rfl)]; exact h i x hx
def keptB (bs : List Bool) (i : Nat) : Bool := bs.getD i false
/-- Of the first m writes the last that isn't kept; -1: none. -/
def lostZ (bs : List Bool) : Nat → Int
  | 0 => -1
  | m + 1 => if keptB bs m then lostZ bs m else (m : Int)
theorem lostZ_lt (bs : List Bool) : ∀ m, -1 ≤ lostZ bs m ∧ lostZ bs m < (m : Int)
  | 0 => by simp [lostZ]
  | m + 1 => by have := lostZ_lt bs m; unfold lostZ; split <;> omega

theorem sv_form {w : World} {e : TypeId} {size : Nat} {v : Value} {n : Nat} {xs : List Value} (h : w.ownsRow 0 e size v n xs) : ∃ a cap, v = .slice a n cap ∧ n ≤ 9223372036854775807 := by
  rcases h.2 with ⟨rfl, h0⟩ | ⟨g, cap, cur, rfl, _, _, h1, h2, _⟩
  · exact ⟨none, 0, by rw [h0], by omega⟩
  · exact ⟨_, _, rfl, by unfold maxLen at h2; omega⟩

theorem sectors_any (t : Ty) (p : Nat) (sv wv : Value) (d : Dk) (w : World) (h : Dat t w p sv wv d) :
    Calls Try.prog 15 #[.pointer (some ⟨p, 0, none⟩)] w fun e w' => e = .returned (.int .i64 (d.secs.length : Int)) ∧ w = w' := by
  have c0 := h.c0
  obtain ⟨a, cap, rfl, hmax⟩ := sv_form h.secs
  go_enter Try.func15, Try.ntmps15
  go_wp2
  go_ret
  exact ⟨rfl, rfl⟩

theorem step_world {t : Ty} (ht : t.Far) {p : Nat} {sv wv : Value} {d : Dk} {w : World} (h : Dat t w p sv wv d) (h0 : 0 < d.left) :
    Dat t ((w.setCell ⟨p, 2, none⟩ (.int .i64 (d.left - 1))).setCell ⟨p, 3, none⟩ (.bool (d.left - 1 == 0))) p sv wv (stepD d) ∧
      Turned (Feet p sv wv) w ((w.setCell ⟨p, 2, none⟩ (.int .i64 (d.left - 1))).setCell ⟨p, 3, none⟩ (.bool (d.left - 1 == 0))) := by
  have hl := h.ok.left
  have h1 := h.put ht 2 (.int .i64 (d.left - 1)) { d with left := d.left - 1 } rfl rfl rfl (h.ok.withLeft _ d.down (by omega) (by omega))
  have e : decide (d.left = 1) = (d.left - 1 == 0) := by
    by_cases h : d.left = 1 <;> simp [h]; omega
  have h2 := h1.put ht 3 (.bool (d.left - 1 == 0)) (stepD d) (by simp [stepD, h0, e]) rfl rfl (stepD_ok h.ok)
  exact ⟨h2, ((Turned.refl _ _).setCell _ _ (.inl rfl)).setCell _ _ (.inl rfl)⟩
theorem step_still {d : Dk} (h : ¬ 0 < d.left) : stepD d = d := by
  simp only [stepD, if_neg h]

theorem step_any (p : Nat) (sv wv : Value) (d : Dk) (w : World) (h : Dat tc w p sv wv d) :
    Calls Try.prog 48 #[.pointer (some ⟨p, 0, none⟩)] w fun e w' => e = .returned (.int .i64 (errZ (stepD d).down)) ∧ Dat tc w' p sv wv (stepD d) ∧ Turned (Feet p sv wv) w w' := by
  have c2 := h.c2
  have c3 := h.c3
  have f2 := h.f 2
  have f3 := h.f 3
  have hl := h.ok.left
  have H := hid h
  clear h
  by_cases h0 : 0 < d.left
  · go_enter Try.func48, Try.ntmps48
    have S := hid (step_world tc_far H.out h0)
    have e : (stepD d).down = (d.left - 1 == 0) := by
      simp only [stepD, h0, if_true]
      by_cases h : d.left = 1 <;> simp [h]; omega
    go_wp2
    all_goals
      go_ret
      refine ⟨?_, S.out⟩
      simp_all [errZ]
  · go_enter Try.func48, Try.ntmps48
    have e := step_still h0
    go_wp2
    all_goals
      go_ret
      refine ⟨?_, H.out, Turned.refl _ _⟩
      simp_all [errZ]

theorem reach_any (p : Nat) (sv wv : Value) (d : Dk) (n : Int) (w : World) (h : Dat tc w p sv wv d) :
    Calls Try.prog 26 #[.pointer (some ⟨p, 0, none⟩), .int .i64 n] w fun e w' => e = .returned (.int .i64 (reachZ d n)) ∧ w = w' := by
  have c0 := h.c0
  have c3 := h.c3
  obtain ⟨a, cap, rfl, hmax⟩ := sv_form h.secs
  go_enter Try.func26, Try.ntmps26
  go_wp2
  all_goals
    go_ret
    refine ⟨?_, rfl⟩
    simp_all [reachZ]
    try omega

theorem cut_any (p : Nat) (sv wv : Value) (d : Dk) (n : Int) (w : World) (hn : n ≤ 9223372036854775807) (h : Dat tc w p sv wv d) :
    Calls Try.prog 8 #[.pointer (some ⟨p, 0, none⟩), .int .i64 n] w fun e w' => e = .returned (.tuple #[]) ∧ Dat tc w' p sv wv (cutD d n) ∧ Turned (Feet p sv wv) w w' := by
  have c2 := h.c2
  have c3 := h.c3
  have f2 := h.f 2
  have f3 := h.f 3
  have H := hid h
  clear h
  go_enter Try.func8, Try.ntmps8
  go_wp2
  all_goals simp [bodyPost, results, Try.results8, go_sem]
  · rename_i hdn
    exact ⟨by simpa [cutD, hdn] using H.out, Turned.refl _ _⟩
  · rename_i hdn
    refine ⟨?_, ((Turned.refl _ _).setCell _ _ (.inl rfl)).setCell _ _ (.inl rfl)⟩
    have h1 := H.out.put tc_far 2 (.int .i64 0) { d with left := 0 } rfl rfl rfl (H.out.ok.withLeft _ d.down (by omega) (by omega))
    have em : max n 0 = 0 := by omega
    exact h1.put tc_far 3 (.bool true) (cutD d n) (by simp [cutD, hdn, em]; omega) (by simp [cutD, hdn]) (by simp [cutD, hdn]) (cutD_ok H.out.ok hn)
  · rename_i hdn
    refine ⟨?_, ((Turned.refl _ _).setCell _ _ (.inl rfl)).setCell _ _ (.inl rfl)⟩
    have h1 := H.out.put tc_far 2 (.int .i64 n) { d with left := n } rfl rfl rfl (H.out.ok.withLeft _ d.down (by omega) (by omega))
    have em : max n 0 = n := by omega
    have eb : (n == 0) = decide (n ≤ 0) := by
      by_cases h : n = 0
      · subst h; rfl
      · have h2 : ¬ n ≤ 0 := by omega
        simp [h, h2]
    exact h1.put tc_far 3 (.bool (n == 0)) (cutD d n) (by simp [cutD, hdn, em, eb]) (by simp [cutD, hdn]) (by simp [cutD, hdn]) (cutD_ok H.out.ok hn)

theorem within_any (n m : Int) (w : World) :
    Calls Try.prog 14 #[.int .i64 n, .int .i64 m] w fun e w' => e = .returned (.int .i64 (min (max n 0) m)) ∧ w = w' := by
  go_enter Try.func14, Try.ntmps14
  go_wp2
  all_goals
    go_ret
    exact ⟨ret_int (by omega), rfl⟩

theorem kept_any (ao : Option Addr) (cap : Nat) (bs : List Bool) (i : Nat) (w : World) (h : RowOf Value.bool w ao bs) :
    Calls Try.prog 24 #[.slice ao bs.length cap, .int .i64 (i : Int)] w fun e w' => e = .returned (.bool (keptB bs i)) ∧ w = w' := by
  by_cases hi : i < bs.length
  · rcases h with h | ⟨b, o, rfl, hc⟩
    · subst h; simp at hi
    · have hx := hc i bs[i] (by simp [hi])
      have e : keptB bs i = bs[i] := by simp [keptB, hi]
      clear hc
      go_enter Try.func24, Try.ntmps24
      go_wp2
      go_ret
      exact ⟨ret_bool e.symm, rfl⟩
  · have e : keptB bs i = false := by simp [keptB, hi]
    go_enter Try.func24, Try.ntmps24
    go_wp2
    go_ret
    exact ⟨ret_bool e.symm, rfl⟩

theorem lastLost_any (p : Nat) (sv wv : Value) (d : Dk) (ao : Option Addr) (cap : Nat) (bs : List Bool) (w : World) (h : Dat tc w p sv wv d) (hb : RowOf Value.bool w ao bs) :
    Calls Try.prog 23 #[.pointer (some ⟨p, 0, none⟩), .slice ao bs.length cap] w fun e w' => e = .returned (.int .i64 (lostZ bs d.waits.length)) ∧ w = w' := by
  have c1 := h.c1
  obtain ⟨a, wcap, rfl, hmax⟩ := sv_form h.waits
  have H := hid hb
  clear h hb
  go_enter Try.func23, Try.ntmps23
  go_wp2
  go_loopw [5] (fun i wr => ∃ k : Nat, k ≤ d.waits.length ∧ i = .int .i64 ((k : Int) - 1) ∧ lostZ bs k = lostZ bs d.waits.length ∧ w = wr) (fun i _ => ((intOf i) + 1).toNat)
  case atStart =>
    exact ⟨d.waits.length, Nat.le_refl _, rfl, rfl, rfl⟩
  case round =>
    obtain ⟨k, hkm, rfl, hk, rfl⟩ := hrel
    have HK := hid hk
    clear hk
    by_cases h0 : k = 0
    · subst h0
      go_wp2
      go_ret
      exact ⟨ret_int HK.out, rfl⟩
    · obtain ⟨m, rfl⟩ : ∃ m, k = m + 1 := ⟨k - 1, by omega⟩
      have em : ((m + 1 : Nat) : Int) - 1 = (m : Int) := by omega
      by_cases hq : keptB bs m = true
      · have HL : Hid (lostZ bs m = lostZ bs d.waits.length) := by
          have := HK.out; simp only [lostZ, hq, if_true] at this; exact this
        go_wp2_with (go_at_call 24; refine (kept_any _ _ _ _ _ H.out).mono ?_; rintro e w' ⟨rfl, rfl⟩)
        go_roundw
        case rel => exact ⟨m, by omega, by go_num, HL.out, trivial⟩
        case measure => simp [intOf]
      · have hq' : keptB bs m = false := by simpa using hq
        have HL : Hid ((m : Int) = lostZ bs d.waits.length) := by
          have := HK.out; simp only [lostZ, hq', Bool.false_eq_true, if_false] at this; exact this
        clear hq
        go_wp2_with (go_at_call 24; refine (kept_any _ _ _ _ _ H.out).mono ?_; rintro e w' ⟨rfl, rfl⟩)
        go_ret
        exact ⟨ret_int HL.out, rfl⟩
end Go.Proofs.Ythhgnflkplpklab.Dsc
