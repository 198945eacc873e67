/- Messages held against one another. -/
import Derived.Test.YtfpjjdlfofejcaaGets
import Derived.Test.YtfpjjdlfofejcaaUnp
import Derived.BigQuiet
import Derived.Deep.QuietTactic
namespace Go.Proofs.Ytfpjjdlfofejcaa
open Go.ChangeShapes Go.WideShapes Go.ChangeAt Go.RowKit

/-- Are two lists of fields the same? -/
def sameL : List Fd → List Fd → Bool
  | [], [] => true
  | a :: r, b :: s => decide (a.N = b.N) && decide (a.V = b.V) && sameL r s
  | _, _ => false
theorem same_iff : ∀ a b : List Fd, sameL a b = true ↔ a = b
  | [], [] => by simp [sameL]
  | [], b :: s => by simp [sameL]
  | a :: r, [] => by simp [sameL]
  | ⟨N, V⟩ :: r, ⟨N', V'⟩ :: s => by
    have ih := same_iff r s
    simp [sameL, ih]
theorem same_self (a : List Fd) : sameL a a = true := (same_iff a a).2 rfl
theorem same_no {a b : List Fd} (h : a ≠ b) : sameL a b = false := by
  cases hs : sameL a b
  · rfl
  · exact absurd ((same_iff a b).1 hs) h
theorem eq_takeF {a b : List Fd} {k : Nat} {x y : Fd} (h : a.take k = b.take k) (ha : a[k]? = some x) (hb : b[k]? = some y) (e : x = y) : a.take (k + 1) = b.take (k + 1) := by
  rw [List.take_add_one, List.take_add_one, h, ha, hb, e]
theorem ne_atF {a b : List Fd} {k : Nat} {x y : Fd} (ha : a[k]? = some x) (hb : b[k]? = some y) (e : ¬ x = y) : sameL a b = false := by
  refine same_no fun h => e ?_
  subst h
  exact Option.some.inj (ha.symm.trans hb)
set_option maxHeartbeats 2000000 in
theorem isos14 (m1 m2 : Int) (a1 a2 : Option Addr) (n1 c1 n2 c2 : Nat) (l1 l2 : List Fd) (w : World) (h1 : FG w a1 n1 c1 l1) (h2 : FG w a2 n2 c2 l2) :
    Calls Try.prog 14 #[.agg #[.int .i64 m1, .slice a1 n1 c1], .agg #[.int .i64 m2, .slice a2 n2 c2]] w fun e w' => e = .returned (.bool (decide (m1 = m2) && sameL l1 l2)) ∧ Below w.heap.size w w' := by
  have HC1 := hid h1.fc
  have HC2 := hid h2.fc
  have HQ1 := hid h1.leq
  have HQ2 := hid h2.leq
  have hl := h1.lt
  have hl2 := h2.lt
  have BB := hid ((bel1 w (.cells #[.int .i64 m1, .slice a1 n1 c1] 24)).alloc (by simp) (.cells #[.int .i64 m2, .slice a2 n2 c2] 24))
  have I1 := hid ((IB.new w m1 (.slice a1 n1 c1)).more (bel1 _ (.cells #[.int .i64 m2, .slice a2 n2 c2] 24)))
  have I2 := hid (IB.new (w.alloc (.cells #[.int .i64 m1, .slice a1 n1 c1] 24)) m2 (.slice a2 n2 c2))
  rw [World.size_alloc] at I2
  clear h1 h2
  by_cases hm : m1 = m2
  · by_cases hn : n1 = n2
    · subst hm hn
      rw [show decide (m1 = m1) = true from decide_eq_true rfl, Bool.true_and]
      go_enter Try.func14, Try.ntmps14
      go_wp2
      go_loopw [5] (fun i wr => ∃ k : Nat, k ≤ n1 ∧ i = .int .i64 (k : Int) ∧ l1.take k = l2.take k ∧ IB wr w.heap.size m1 (.slice a1 n1 c1) ∧ IB wr (w.heap.size + 1) m1 (.slice a2 n1 c2) ∧ Below w.heap.size w wr) (fun i _ => n1 - (intOf i).toNat)
      case atStart => exact ⟨0, by omega, rfl, rfl, I1.out, I2.out, BB.out⟩
      case round =>
        obtain ⟨k, hk, rfl, he, hi1, hi2, hb⟩ := hrel
        have E := hid he
        have B1 := hid hb
        have J1 := hid hi1
        have J2 := hid hi2
        obtain ⟨_, i1⟩ := hi1
        obtain ⟨_, i2⟩ := hi2
        clear he hb I1 I2 BB
        by_cases hlt : k < n1
        · obtain ⟨r, hr, hok, b, o, rfl, c0, d0⟩ := HC1.out.more B1.out k hlt
          obtain ⟨s, hs, hok', b', o', rfl, c0', d0'⟩ := HC2.out.more B1.out k hlt
          clear hok hok'
          have HN := hid (eq_takeF E.out hr hs)
          have HF := hid (ne_atF hr hs)
          obtain ⟨N, V⟩ := r
          obtain ⟨N', V'⟩ := s
          simp only at c0 d0 c0' d0'
          clear hr hs E
          by_cases hxy : (⟨N, V⟩ : Fd) = ⟨N', V'⟩
          · have HT := hid (HN.out hxy)
            cases hxy
            clear HN HF
            go_wp2
            go_quiet (fail)
            go_wp2
            go_roundw
            case rel => exact ⟨k + 1, by omega, by go_num, HT.out, J1.out, J2.out, bel_drewN B1.out _⟩
            case measure => simp [intOf]; omega
          · have HT := hid (HF.out hxy)
            clear HN HF
            by_cases hN : N = N'
            · subst hN
              have hV : ¬ V = V' := fun e => hxy (by rw [e])
              have hV' : (V.toList == V'.toList) = false := by
                cases h : (V.toList == V'.toList)
                · rfl
                · exact absurd ((MapKept.bytes_beq V V').mp (by rw [beq_toListBytes]; exact h)) hV
              have hV2 : ¬ V.toList = V'.toList := by simpa using hV'
              clear hxy
              go_wp2
              go_quiet (fail)
              go_wp2
              go_ret
              exact ⟨ret_bool HT.out.symm, bel_drewN B1.out _⟩
            · clear hxy
              go_wp2
              go_quiet (fail)
              go_wp2
              go_ret
              exact ⟨ret_bool HT.out.symm, bel_drewN B1.out _⟩
        · have HT : Hid (sameL l1 l2 = true) := by
            have q1 := HQ1.out
            have q2 := HQ2.out
            have e := E.out
            rw [List.take_of_length_le (by omega), List.take_of_length_le (by omega)] at e
            exact (same_iff l1 l2).2 e
          clear E
          go_wp2
          go_ret
          exact ⟨ret_bool HT.out.symm, B1.out⟩
    · have HT : Hid (sameL l1 l2 = false) := same_no (fun e => hn (by rw [← HQ1.out, ← HQ2.out, e]))
      subst hm
      rw [HT.out, Bool.and_false]
      have j : ¬ (n1 : Int) = (n2 : Int) := by omega
      go_enter Try.func14, Try.ntmps14
      go_wp2
      go_ret
      exact ⟨rfl, BB.out⟩
  · rw [show decide (m1 = m2) = false from decide_eq_false hm, Bool.false_and]
    go_enter Try.func14, Try.ntmps14
    go_wp2
    go_ret
    exact ⟨rfl, BB.out⟩
end Go.Proofs.Ytfpjjdlfofejcaa
