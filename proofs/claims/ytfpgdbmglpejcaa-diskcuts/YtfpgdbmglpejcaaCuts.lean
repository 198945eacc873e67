/- For every n, writes and b the function DiskCuts answers true: the power goes at just that write or sync, and what was synced ahead is there behind it. -/
import Derived.Test.YtfpgdbmglpejcaaFace
namespace Go.Proofs.Ytfpgdbmglpejcaa
open Go.ChangeShapes Go.WideShapes Go.ChangeAt Go.RowKit

theorem sync_down {d : Dk} (h : (stepD d).down = true) : syncD d = stepD d := by simp [syncD, h]
theorem sync_up {d : Dk} (h : (stepD d).down = false) : syncD d = { stepD d with secs := layAll d.secs d.waits, waits := [] } := by simp [syncD, h]
/-- A crash that keeps nothing leaves what was synced. -/
theorem crash_none {z : Int} {s : List (List Int)} {l : List (Nat × List Int)} (h : ∀ x ∈ l, x.1 < s.length) : ∀ k, k ≤ l.length → crash [] 0 z s l k = s
  | 0, _ => rfl
  | k + 1, hk => by
    have hx : l[k]? = some l[k] := by simp
    rw [crash_next hx, crash_none h k (by omega), crash1]
    have hlt := h l[k] (List.getElem_mem _)
    simp [keptB, lay_none]
    intro _
    simp [hlt]
theorem layAll_other {l : List (Nat × List Int)} : ∀ {s : List (List Int)}, (∀ x ∈ l, x.1 ≠ 0) → (layAll s l)[0]? = s[0]? := by
  unfold layAll
  induction l with
  | nil => intro s _; rfl
  | cons x r ih =>
    intro s h
    rw [List.foldl_cons, ih (fun y hy => h y (by simp [hy])), List.getElem?_set_ne (h x (by simp))]

/-- The disk behind i steps, of which number N is cut. -/
structure CutAt (T : List Int) (N i : Nat) (d : Dk) : Prop where
  len : d.secs.length = 3
  first : d.secs[0]? = some T
  far : ∀ x ∈ d.waits, x.1 ≠ 0
  few : d.waits.length ≤ i
  left : d.left = ((N + 1 - i : Nat) : Int)
  down : d.down = decide (N < i)
theorem CutAt.step {T : List Int} {N i : Nat} {d : Dk} (h : CutAt T N i d) : (stepD d).down = decide (N ≤ i) ∧ (stepD d).left = ((N + 1 - (i + 1) : Nat) : Int) := by
  have hl := h.left
  have hd := h.down
  unfold stepD
  by_cases h0 : N < i
  · have h1 : ¬ (0 : Int) < d.left := by rw [hl]; omega
    simp only [h1, if_false]
    rw [hd, hl]
    exact ⟨by simp [h0]; omega, by congr 1; omega⟩
  · have h1 : (0 : Int) < d.left := by rw [hl]; omega
    simp only [h1, if_true]
    rw [hl]
    refine ⟨?_, by omega⟩
    apply decide_eq_decide.2
    omega
theorem CutAt.sync {T : List Int} {N i : Nat} {d : Dk} (h : CutAt T N i d) : CutAt T N (i + 1) (syncD d) := by
  obtain ⟨s1, s2⟩ := h.step
  by_cases h0 : N ≤ i
  · rw [sync_down (by rw [s1]; simpa using h0)]
    exact ⟨h.len, h.first, h.far, Nat.le_succ_of_le h.few, s2, by rw [s1]; apply decide_eq_decide.2; omega⟩
  · rw [sync_up (by rw [s1]; simpa using h0)]
    exact ⟨by show (layAll d.secs d.waits).length = 3; rw [layAll_len]; exact h.len, by show (layAll d.secs d.waits)[0]? = some T; rw [layAll_other h.far]; exact h.first, fun x hx => (by cases hx), Nat.zero_le _, s2,
      by show (stepD d).down = _; rw [s1]; apply decide_eq_decide.2; omega⟩
theorem CutAt.reach {T : List Int} {N i : Nat} {d : Dk} (h : CutAt T N i d) {n : Nat} (hn : n < 3) : reachZ d n = if N < i then 22 else 0 := by
  unfold reachZ
  rw [h.down]
  by_cases h0 : N < i
  · simp [h0]
  · have h1 : ¬ ((n : Int) < 0 ∨ (d.secs.length : Int) ≤ n) := by rw [h.len]; omega
    simp [h0]; omega
theorem CutAt.err {T : List Int} {N i : Nat} {d : Dk} (h : CutAt T N i d) {n : Nat} (hn : n < 3) : writeZ d n = errZ (decide (N ≤ i)) := by
  unfold writeZ
  rw [h.reach hn, h.step.1]
  by_cases h0 : N < i
  · simp [h0, errZ]; omega
  · simp [h0]
theorem CutAt.write {T : List Int} {N i : Nat} {d : Dk} (h : CutAt T N i d) {n : Nat} (hn : n < 3) (hn0 : n ≠ 0) (l : List Int) : CutAt T N (i + 1) (writeD d n l) := by
  obtain ⟨s1, s2⟩ := h.step
  unfold writeD
  rw [h.reach hn, s1]
  by_cases h0 : N < i
  · have e : ¬ ((22 : Int) = 0) := by decide
    simp only [h0, if_true, e, if_false]
    exact ⟨h.len, h.first, h.far, Nat.le_succ_of_le h.few, by rw [h.left]; omega, by rw [h.down]; apply decide_eq_decide.2; omega⟩
  · simp only [h0, if_false, if_true]
    by_cases h1 : N ≤ i
    · simp only [h1, decide_true, if_true]
      exact ⟨h.len, h.first, h.far, Nat.le_succ_of_le h.few, s2, by rw [s1]; apply decide_eq_decide.2; omega⟩
    · simp only [h1, decide_false, Bool.false_eq_true, if_false]
      refine ⟨h.len, h.first, fun x hx => ?_, by have := h.few; simp; omega, s2, by rw [s1]; apply decide_eq_decide.2; omega⟩
      rcases List.mem_append.1 hx with hx | hx
      · exact h.far x hx
      · simp at hx; subst hx; simpa using hn0
theorem CutAt.reop {T : List Int} {N i : Nat} {d : Dk} (h : CutAt T N i d) (ok : d.Ok) : (reopD d [] 0).secs = d.secs ∧ (reopD d [] 0).down = false ∧ reachZ (reopD d [] 0) 0 = 0 ∧ readB (reopD d [] 0) 0 = T := by
  have e1 : (reopD d [] 0).secs = d.secs := by
    show crash [] (tornN 0) _ d.secs d.waits d.waits.length = d.secs
    exact crash_none (fun x hx => (ok.waits x hx).1) _ (Nat.le_refl _)
  have e2 : reachZ (reopD d [] 0) 0 = 0 := by
    unfold reachZ
    rw [e1, h.len]; rfl
  refine ⟨e1, rfl, e2, ?_⟩
  unfold readB
  rw [e2]
  simp only [if_true]
  unfold readS
  show (lastW 0 []).getD ((reopD d [] 0).secs.getD 0 []) = T
  rw [e1]
  have := h.first
  simp [lastW, this]
theorem cut_begin {N : Nat} (hN : N < 10) : CutAt (padS [116, 104, 101, 114, 101]) N 0 (cutD (syncD (writeD (newD 3) 0 [116, 104, 101, 114, 101])) ((N : Int) + 1)) := by
  have e : syncD (writeD (newD 3) 0 [116, 104, 101, 114, 101]) = ⟨[padS [116, 104, 101, 114, 101], zer, zer], [], 0, false⟩ := by kernel_rfl
  rw [e]
  refine ⟨rfl, rfl, fun x hx => (by cases hx), Nat.le_refl _, ?_, ?_⟩
  · show max ((N : Int) + 1) 0 = _; omega
  · show decide ((N : Int) + 1 ≤ 0) = _
    apply decide_eq_decide.2; omega

theorem cz : writeZ (newD 3) 0 = 0 ∧ errZ (stepD (writeD (newD 3) 0 [116, 104, 101, 114, 101])).down = 0 ∧ (newD 3).waits.length ≤ 1000000 := by decide
theorem cone : ∀ z ∈ ([116, 104, 101, 114, 101] : List Int), Byt z := by unfold Byt; decide
def there0 : List Int := padS [116, 104, 101, 114, 101]
theorem there0_at : there0.length = 64 ∧ there0.take 5 = [116, 104, 101, 114, 101] ∧ there0[5]? = some 0 := by decide

set_option maxHeartbeats 4000000 in
theorem cuts_walk (n m : Nat) (a2 : Option Addr) (len2 cap2 : Nat) (l : List Int) (w : World) (hn : n ≤ 255) (hm : m ≤ 255) (hB : InB w a2 len2 l) (h100 : len2 ≤ 100) :
    Calls Try.prog 5 #[.int .u8 (n : Int), .int .u8 (m : Int), .slice a2 len2 cap2] w fun e w' => e = .returned (.bool true) ∧ Below w.heap.size w w' := by
  obtain ⟨z1, z2, z3⟩ := cz
  obtain ⟨hlen, hbyt, hrow, hfar⟩ := hB
  have HB := hid (And.intro hlen (And.intro hbyt (And.intro hrow hfar)))
  have HZ3 := hid z3
  obtain ⟨N, hN⟩ : ∃ N : Nat, n % 10 = N := ⟨_, rfl⟩
  obtain ⟨M, hM⟩ : ∃ M : Nat, m % 14 = M := ⟨_, rfl⟩
  have hN10 : N < 10 := by omega
  have eN : ((n : Int) % 10) = (N : Int) := by omega
  have eM : ((m : Int) % 14) = (M : Int) := by omega
  have HN10 := hid hN10
  have hd100 : decide ((100 : Int) < (len2 : Int)) = false := by simp; omega
  have HNN := hid hN
  have HMM := hid hM
  clear hlen hbyt hrow hfar z3 hN hM
  have kc := fun (w : World) (C : Array Value) (n c : Nat) => Lib.run_convert_bytes_const (P := Try.prog) w 28 5 C n c Try.underlying28 Try.underlying5
  go_enter Try.func5, Try.ntmps5
  go_wp2_with (first | (go_at_call 14; refine (own_cut ((N : Int) + 1) (by omega) D5).mono ?_; rintro e w6 ⟨rfl, D6⟩) | (go_at_call 10; refine (own_sync D4).mono ?_; rintro e w5 ⟨rfl, D5⟩) | (go_at_call 18; refine (own_writeL 0 _ _ [116, 104, 101, 114, 101] D3 rfl cone HZ3.out).mono ?_; rintro e w4 ⟨rfl, D4⟩) | (go_at_call 8; refine (own_new 3 b2).mono ?_; rintro e w3 ⟨p, rfl, D3⟩; change Own1 tc w w3 p (newD 3) at D3) | (go_at_call 7; refine (known_any _).mono ?_; rintro e w2 ⟨rfl, b2⟩))
  have HD6 := hid D6
  clear D3 D4 D5 D6 z1 z2
  go_loopw [8] (fun x wr => ∃ (i : Nat) (d : Dk), i ≤ M ∧ x = .int .i64 (i : Int) ∧ CutAt there0 N i d ∧ Own1 tc w wr p d) (fun x _ => M - (intOf x).toNat)
  case atStart => exact ⟨0, _, by omega, rfl, cut_begin HN10.out, HD6.out⟩
  case round =>
    obtain ⟨i, d, him, rfl, hC, hD⟩ := hrel
    clear HD6
    have HC := hid hC
    have HO := hid hD
    have hmany : d.waits.length ≤ 1000000 := by have := hC.few; have := HMM.out; omega
    have HMANY := hid hmany
    clear hC hD hmany
    by_cases hlt : i < M
    · by_cases h3 : i % 3 = 2
      · have e3 : ((i : Int) % 3) = 2 := by omega
        clear h3
        obtain ⟨d7, hd7⟩ : ∃ d7, syncD d = d7 := ⟨_, rfl⟩
        have C7 := HC.out.sync
        rw [hd7] at C7
        have HC7 := hid C7
        have HD7 := hid hd7
        by_cases hNi : N ≤ i
        · have s7 : errZ (stepD d).down = 22 := by rw [HC.out.step.1]; simp [hNi, errZ]
          have dn7 : d7.down = true := by rw [C7.down]; simp; omega
          clear C7 hd7
          go_wp2_with (first | (go_at_call 10; refine (own_sync HO.out).mono ?_; rintro e w7 ⟨rfl, D7⟩; rw [HD7.out] at D7) | (go_at_call 20; refine (own_down D7).mono ?_; rintro e w8 ⟨rfl, rfl⟩))
          go_roundw
          case rel => exact ⟨i + 1, d7, by omega, by go_num, HC7.out, D7⟩
          case measure => simp [intOf]; omega
        · have s7 : errZ (stepD d).down = 0 := by rw [HC.out.step.1]; simp [hNi, errZ]
          have dn7 : d7.down = false := by rw [C7.down]; simp; omega
          clear C7 hd7
          go_wp2_with (first | (go_at_call 10; refine (own_sync HO.out).mono ?_; rintro e w7 ⟨rfl, D7⟩; rw [HD7.out] at D7) | (go_at_call 20; refine (own_down D7).mono ?_; rintro e w8 ⟨rfl, rfl⟩))
          go_roundw
          case rel => exact ⟨i + 1, d7, by omega, by go_num, HC7.out, D7⟩
          case measure => simp [intOf]; omega
      · have e3 : ¬ ((i : Int) % 3) = 2 := by omega
        obtain ⟨r, hr⟩ : ∃ r : Nat, i % 2 = r := ⟨_, rfl⟩
        have e2 : ((i : Int) % 2) = (r : Int) := by omega
        have hr2 : r < 2 := by omega
        obtain ⟨d7, hd7⟩ : ∃ d7, writeD d (1 + (r : Int)) l = d7 := ⟨_, rfl⟩
        have er : ((r + 1 : Nat) : Int) = 1 + (r : Int) := by omega
        have C7 := HC.out.write (n := r + 1) (by omega) (by omega) l
        have Z7 := HC.out.err (n := r + 1) (by omega)
        rw [er, hd7] at C7
        rw [er] at Z7
        have HC7 := hid C7
        have HD7 := hid hd7
        clear h3 hr er
        by_cases hNi : N ≤ i
        · have s7 : writeZ d (1 + (r : Int)) = 22 := by rw [Z7]; simp [hNi, errZ]
          have dn7 : d7.down = true := by rw [C7.down]; simp; omega
          clear C7 hd7 Z7
          go_wp2_with (first | (go_at_call 18; refine (own_write (1 + (r : Int)) a2 cap2 len2 l HO.out HB.out.1 HB.out.2.1 HB.out.2.2.1 HB.out.2.2.2 HMANY.out).mono ?_; rintro e w7 ⟨rfl, D7⟩; rw [HD7.out] at D7) | (go_at_call 20; refine (own_down D7).mono ?_; rintro e w8 ⟨rfl, rfl⟩))
          go_roundw
          case rel => exact ⟨i + 1, d7, by omega, by go_num, HC7.out, D7⟩
          case measure => simp [intOf]; omega
        · have s7 : writeZ d (1 + (r : Int)) = 0 := by rw [Z7]; simp [hNi, errZ]
          have dn7 : d7.down = false := by rw [C7.down]; simp; omega
          clear C7 hd7 Z7
          go_wp2_with (first | (go_at_call 18; refine (own_write (1 + (r : Int)) a2 cap2 len2 l HO.out HB.out.1 HB.out.2.1 HB.out.2.2.1 HB.out.2.2.2 HMANY.out).mono ?_; rintro e w7 ⟨rfl, D7⟩; rw [HD7.out] at D7) | (go_at_call 20; refine (own_down D7).mono ?_; rintro e w8 ⟨rfl, rfl⟩))
          go_roundw
          case rel => exact ⟨i + 1, d7, by omega, by go_num, HC7.out, D7⟩
          case measure => simp [intOf]; omega
    · obtain ⟨q1, q2, q3, q4⟩ := HC.out.reop HO.out.ok
      have hr0 := HC.out.reach (n := 0) (by omega)
      have hdn := HC.out.down
      obtain ⟨d9, hd9⟩ : ∃ d9, reopD d [] 0 = d9 := ⟨_, rfl⟩
      rw [hd9] at q2 q3 q4
      have HQ4 := hid q4
      have HD9 := hid hd9
      have sEq : strOfNums [116, 104, 101, 114, 101] = ⟨#[116, 104, 101, 114, 101]⟩ := rfl
      obtain ⟨t1, t2, t3⟩ := there0_at
      have HT1 := hid t1
      have HT2 := hid t2
      have HT3 := hid t3
      clear q1 q4 hd9 t1 t2 t3
      by_cases hNi : N < i
      · have hr1 : reachZ d 0 = 22 := by rw [show (0 : Int) = ((0 : Nat) : Int) from rfl, hr0]; simp [hNi]
        have hd1 : d.down = true := by rw [hdn]; simp [hNi]
        clear hr0 hdn
        go_wp2_with (first | (go_at_call 12; refine (own_read 0 D9).mono ?_; rintro e w10 ⟨v10, rfl, y10, b10, D10⟩; rw [HQ4.out] at y10; obtain ⟨g10, c10, rfl, R10, l10, q10⟩ := y10.cap64 HT1.out; have f10 := R10 5 (.int .u8 0) (by simp [HT3.out]); have S10 := hid (row_take (k := 5) R10); rw [HT2.out] at S10; clear R10) | (refine str_list (zs := [116, 104, 101, 114, 101]) rfl S10.out rfl _ rfl rfl ?_) | (go_at_call 16; refine (own_reopen none 0 0 [] 0 D8 rfl (.inl rfl) (fun _ a e => by cases e)).mono ?_; rintro e w9 ⟨rfl, D9⟩; rw [HD9.out] at D9) | (go_at_call 12; refine (own_read 0 HO.out).mono ?_; rintro e w8 ⟨v8, rfl, y8, b8, D8⟩) | (go_at_call 20; refine (own_down D10).mono ?_; rintro e w11 ⟨rfl, rfl⟩) | (go_at_call 20; refine (own_down HO.out).mono ?_; rintro e w11 ⟨rfl, rfl⟩))
        go_ret
        exact ⟨rfl, D10.bel⟩
      · have hd1 : d.down = false := by rw [hdn]; simp; omega
        clear hr0 hdn
        go_wp2_with (first | (go_at_call 12; refine (own_read 0 D9).mono ?_; rintro e w10 ⟨v10, rfl, y10, b10, D10⟩; rw [HQ4.out] at y10; obtain ⟨g10, c10, rfl, R10, l10, q10⟩ := y10.cap64 HT1.out; have f10 := R10 5 (.int .u8 0) (by simp [HT3.out]); have S10 := hid (row_take (k := 5) R10); rw [HT2.out] at S10; clear R10) | (refine str_list (zs := [116, 104, 101, 114, 101]) rfl S10.out rfl _ rfl rfl ?_) | (go_at_call 16; refine (own_reopen none 0 0 [] 0 HO.out rfl (.inl rfl) (fun _ a e => by cases e)).mono ?_; rintro e w9 ⟨rfl, D9⟩; rw [HD9.out] at D9) | (go_at_call 20; refine (own_down D10).mono ?_; rintro e w11 ⟨rfl, rfl⟩) | (go_at_call 20; refine (own_down HO.out).mono ?_; rintro e w11 ⟨rfl, rfl⟩))
        go_ret
        exact ⟨rfl, D10.bel⟩

theorem cuts_long (n m : Nat) (a2 : Option Addr) (len2 cap2 : Nat) (w : World) (h100 : 100 < len2) :
    Calls Try.prog 5 #[.int .u8 (n : Int), .int .u8 (m : Int), .slice a2 len2 cap2] w fun e w' => e = .returned (.bool true) ∧ Below w.heap.size w w' := by
  go_enter Try.func5, Try.ntmps5
  go_wp2_with (go_at_call 7; refine (known_any _).mono ?_; rintro e w2 ⟨rfl, b2⟩)
  go_ret
  exact ⟨rfl, b2⟩
theorem cuts_all (a0 a1 : Int) (a2 : Option Addr) (len2 cap2 : Nat) (l : List Int) (w : World) (w0 : (Lit.int .u8 a0).wf = true) (w1 : (Lit.int .u8 a1).wf = true) (w2 : InB w a2 len2 l) :
    Calls Try.prog 5 #[.int .u8 a0, .int .u8 a1, .slice a2 len2 cap2] w fun e w' => e = .returned (.bool true) ∧ Below w.heap.size w w' := by
  have c0 := bounds_u8 w0
  have c1 := bounds_u8 w1
  obtain ⟨n, rfl⟩ := Int.eq_ofNat_of_zero_le c0.1
  obtain ⟨m, rfl⟩ := Int.eq_ofNat_of_zero_le c1.1
  by_cases h : len2 ≤ 100
  · exact cuts_walk n m a2 len2 cap2 l w (by omega) (by omega) w2 h
  · exact cuts_long n m a2 len2 cap2 w (by omega)
theorem diskCuts_own : ownKnob Try.prog.godebug = none := by kernel_rfl
theorem diskCuts_laid : laidOutB Try.prog = true := by kernel_rfl

set_option maxRecDepth 100000 in
theorem diskCuts_lifted (os : Os) (started : os.Started) (H : Type) (enc : TypeId × Value → H) :
    ReturnsInHanded {} Try.checked os 5 .any (Rows.diskCutsSpec.pre6 enc Try.prog Try.f5 Rows.diskCutsRow.domain false) (Rows.diskCutsSpec.post enc Try.prog Try.f5 false true false false) := by
  refine returnsInHanded_of_change (C := Try.checked) diskCuts_own started (by kernel_rfl) Try.func5
    (ChangeSpec.witness6 (enc := enc) (C := Try.checked) false ⟨#[], #[.int .u8 0, .int .u8 0, .slice none 0 0], []⟩ 8 (by kernel_rfl) (by kernel_rfl) (by kernel_rfl) (by kernel_rfl)) ?_
  intro W base args ds gs before hval0 hW hcnd _
  have hval : ∀ (j : Nat) t v, Try.f5.params[j]? = some t → args[j]? = some v → Value.okWide Try.prog W .any base t v := hval0
  have hW' := hW
  obtain ⟨p, q, hA0, hV, rfl, hfz, hnd⟩ := hW
  have hA : DataW.TrodAll enc Try.prog W 0 (fun _ => true) true Try.f5.params.toList args.toList ds p := hA0
  rw [Try.params5] at hA hval
  obtain ⟨v0, vs0, d0, ds0, p0, q0, hargs, rfl, rfl, h0, r0⟩ := trodAll_cons hA
  obtain ⟨v1, vs1, d1, ds1, p1, q1, rfl, rfl, rfl, h1, r1⟩ := trodAll_cons r0
  obtain ⟨v2, vs2, d2, ds2, p2, q2, rfl, rfl, rfl, h2, r2⟩ := trodAll_cons r1
  obtain ⟨rfl, rfl, rfl⟩ := trodAll_nil r2
  obtain rfl : args = #[v0, v1, v2] := by cases args; simp_all
  obtain ⟨rfl, rfl⟩ := trodVars_none hV
  obtain ⟨a0, rfl, rfl, rfl, w0⟩ := open_int Try.underlying5 (hval 0 5 v0 rfl rfl) h0
  obtain ⟨a1, rfl, rfl, rfl, w1⟩ := open_int Try.underlying5 (hval 1 5 v1 rfl rfl) h1
  obtain ⟨x2, y2, z2, rfl⟩ := okWide_slice Try.underlying28 (hval 2 28 v2 rfl rfl)
  have k2 := h2
  have lt2 : ∀ x ∈ p2, x.block < W.heap.size := by obtain ⟨m, hm⟩ := k2; exact DataW.trod_lt m _ _ _ hm
  obtain ⟨a2, len2, cap2, l2, e2, w2⟩ : ∃ a len cap l, Value.slice x2 y2 z2 = .slice a len cap ∧ InB W a len l := by
    obtain ⟨fuel, hf⟩ := h2
    exact open_inB hf
  cases e2
  clear hA0 hval0
  refine (cuts_all a0 a1 x2 y2 z2 l2 W w0 w1 w2).mono fun e W' ⟨he, bel⟩ => ?_
  subst he
  exact ⟨_, rfl, _, _, _, [], _, [], hW', trodAll_mk1 (shut_bool Try.underlying4 _), (trodAll_cons_mk (shut_int Try.underlying5 w0) (trodAll_cons_mk (shut_int Try.underlying5 w1) (trodAll_cons_mk (Below.trod diskCuts_laid (by kernel_rfl) (of_decide_eq_true (by kernel_rfl)) k2 bel lt2) trodAll_mk0))), rfl, bel.frame _, fun h => by cases h⟩

theorem diskCuts_over : Rows.diskCutsRow.holds Try.pinned (OpenSpec.ofChange Rows.diskCutsSpec) :=
  OpenClaim.holds_of_wide 5 Try.f5 rfl rfl rfl rfl rfl rfl rfl ⟨rfl, rfl, rfl, rfl, rfl⟩ rfl rfl rfl rfl rfl (by kernel_rfl) Try.func5 (by kernel_rfl)
    (of_decide_eq_true (by kernel_rfl)) (by unfold Func.isWrapper; first | (rw [if_pos (by decide +kernel)]; kernel_rfl) | (rw [if_neg (by decide +kernel)]; exact ⟨rfl, rfl⟩))
    (fun os started H enc _ => diskCuts_lifted os started H enc)

/-- The statement. -/
theorem diskCuts_holds : Rows.DiskCutsSaid := diskCuts_over
#print axioms diskCuts_holds
end Go.Proofs.Ytfpgdbmglpejcaa
