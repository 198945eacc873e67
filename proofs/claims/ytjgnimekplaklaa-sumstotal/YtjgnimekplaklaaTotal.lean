/- For every l, k and turn the function SumsTotal answers true: a total is right though sums on the way go over, in whatever order. -/
import Derived.Test.YtjgnimekplaklaaNoteR
import Derived.Test.YtjgnimekplaklaaKnown
import Derived.ShutString
import Derived.ChangeOld
namespace Go.Proofs.Ytjgnimekplaklaa
open Go.ChangeShapes Go.WideShapes Go.ChangeAt Go.RowKit

/-- The first k of a list that is told by places. -/
def firsts (f : Nat → Int) (k : Nat) : List Int := (List.range k).map f
theorem firsts_next (f : Nat → Int) (k : Nat) : firsts f k ++ [f k] = firsts f (k + 1) := by simp [firsts, List.range_succ]
theorem firsts_len (f : Nat → Int) (k : Nat) : (firsts f k).length = k := by simp [firsts]
theorem firsts_all {f : Nat → Int} (k : Nat) (h : ∀ j, j < k → I64 (f j)) : AllI (firsts f k) := by
  intro x hx
  simp [firsts] at hx
  obtain ⟨j, hj, rfl⟩ := hx
  exact h j hj
theorem firsts_getD (f : Nat → Int) {k j : Nat} (h : j < k) : (firsts f k).getD j 0 = f j := by simp [firsts, h]

/-- Turned round, the sum is the same. -/
theorem turned (f : Nat → Int) (n t : Nat) (hn : 0 < n) : firsts (fun i => f ((i + t) % n)) n = (firsts f n).drop (t % n) ++ (firsts f n).take (t % n) := by
  have hr : t % n < n := Nat.mod_lt _ hn
  apply List.ext_getElem
  · simp [firsts_len]; omega
  · intro i h1 h2
    rw [firsts_len] at h1
    have e : (i + t) % n = (i + t % n) % n := by rw [Nat.add_mod, Nat.mod_eq_of_lt h1]
    by_cases h : i < n - t % n
    · rw [List.getElem_append_left (by simp [firsts_len]; omega)]
      simp only [firsts, List.getElem_map, List.getElem_range, List.getElem_drop, e]
      rw [Nat.mod_eq_of_lt (by omega), Nat.add_comm]
    · rw [List.getElem_append_right (by simp [firsts_len]; omega)]
      simp only [firsts, List.getElem_map, List.getElem_range, List.getElem_take, e, List.length_drop, List.length_map, List.length_range]
      congr 1
      rw [Nat.mod_eq_sub_mod (by omega), Nat.mod_eq_of_lt (by omega)]
      omega
theorem turned_tot (f : Nat → Int) (n t : Nat) : tot (firsts (fun i => f ((i + t) % n)) n) = tot (firsts f n) := by
  rcases Nat.eq_zero_or_pos n with rfl | hn
  · rfl
  · rw [turned f n t hn, tot_perm_rot, List.take_append_drop]

theorem near_any' (v k : Int) (hk : 0 ≤ k) (w : World) : Calls Try.prog 8 #[.int .i64 v, .int .u8 k] w fun e w' => e = .returned (.int .i64 (nearZ v k)) ∧ w = w' :=
  (near_any v k hk w).mono fun _ _ h => ⟨h.1, h.2.symm⟩

/-- In this world the address leads to the bytes 'ks' (or there are none). -/
def Row8 (w : World) (ao : Option Addr) (ks : List Int) : Prop :=
  ks = [] ∨ ∃ b off, ao = some ⟨b, off, none⟩ ∧ ∀ i, i < ks.length → w.cell? ⟨b, off + i, none⟩ = some (.int .u8 (ks.getD i 0))

set_option maxRecDepth 100000 in
set_option maxHeartbeats 4000000 in
theorem total_walk (a0 : Option Addr) (n cap0 : Nat) (zs : List Int) (a1 : Option Addr) (m cap1 : Nat) (ks : List Int) (T : Nat) (w : World) (hn : zs.length = n) (hm : ks.length = m) (hr : RowAt w a0 zs) (hk : Row8 w a1 ks) (hz : AllI zs)
    (h8 : ∀ x ∈ ks, 0 ≤ x ∧ x ≤ 255) (hT : T ≤ 255) (n40 : n ≤ 40) (nm : n ≤ m) (mm : m ≤ maxLen) :
    Calls Try.prog 3 #[.slice a0 n cap0, .slice a1 m cap1, .int .u8 T] w fun e w' => e = .returned (.bool true) ∧ Below w.heap.size w w' := by
  unfold maxLen at mm
  obtain ⟨f, hf⟩ : ∃ f, (fun j => nearZ (zs.getD j 0) (ks.getD j 0)) = f := ⟨_, rfl⟩
  have hfi : ∀ j, j < n → I64 (f j) := fun j _ => by rw [← hf]; exact nearZ_i64 _ (alli_getD hz j)
  have hall := firsts_all n hfi
  have g40 : decide ((40 : Int) < (n : Int)) = false := decide_eq_false (by omega)
  have gnm : decide ((m : Int) < (n : Int)) = false := decide_eq_false (by omega)
  have gnm' : decide (m < n) = false := decide_eq_false (by omega)
  go_enter Try.func3, Try.ntmps3
  go_wp2_with (go_at_call 7; refine (known_any _).mono ?_; rintro e w1 ⟨rfl, c1⟩)
  go_loopw [7, 9] (fun s i wr => ∃ k : Nat, k ≤ n ∧ i = .int .i64 k ∧ Own wr w1.heap.size s (firsts f k) ∧ Below w1.heap.size w1 wr) (fun _ i _ => n - (intOf i).toNat)
  case atStart => exact ⟨0, by omega, rfl, Own.nil _ _, Below.refl _ _⟩
  case round =>
    obtain ⟨k, hkn, rfl, ho, hbel⟩ := hrel
    by_cases hlt : k < n
    · rcases hr with h | ⟨b0, o0, rfl, hc0⟩
      · subst h; simp at hn; omega
      rcases hk with h | ⟨b1, o1, rfl, hc1⟩
      · subst h; simp at hm; omega
      have cl0 := hc0 k (by omega)
      have ck0 := hc1 k (by omega)
      have hkk := h8 (ks.getD k 0) (by simp [show k < ks.length by omega])
      have lb0 : b0 < w1.heap.size := Nat.lt_of_lt_of_le (World.block_lt_of_cell? w _ cl0) c1.size
      have lb1 : b1 < w1.heap.size := Nat.lt_of_lt_of_le (World.block_lt_of_cell? w _ ck0) c1.size
      have cl := (hbel.cell (p := ⟨b0, o0 + k, none⟩) lb0).trans (cellK c1 cl0)
      have ck := (hbel.cell (p := ⟨b1, o1 + k, none⟩) lb1).trans (cellK c1 ck0)
      have ef : Hid (nearZ (zs.getD k 0) (ks.getD k 0) = f k) := by show _ = _; rw [← hf]
      have HO := hid ho
      clear hc0 hc1 cl0 ck0 ho hall hfi hz h8 hf
      have kn : (k : Int) < (n : Int) := by omega
      have km : (k : Int) < (m : Int) := by omega
      generalize zs.getD k 0 = x at *
      generalize ks.getD k 0 = y at *
      obtain ⟨y0, y1⟩ := hkk
      go_wp2
      go_region_held3 (fun w' => w'.cell? ⟨b0, o0 + k, none⟩ = some (.int .i64 x) ∧ w'.cell? ⟨b1, o1 + k, none⟩ = some (.int .u8 y))
        ((first | exact ⟨cl, ck⟩ | exact ⟨cellK (w := wr) (bel1 _ _) cl, cellK (w := wr) (bel1 _ _) ck⟩ | exact ⟨(c3.cell (p := ⟨b0, o0 + k, none⟩) lb0).trans cl, (c3.cell (p := ⟨b1, o1 + k, none⟩) lb1).trans ck⟩))
        ((first
          | (go_at_call 8; refine (near_any' _ _ y0 _).mono ?_; rintro e w' ⟨rfl, rfl⟩)
          | (refine app1_step (w0 := wr.drew) (by rfl) _ _ (by rfl) w1.heap.size u7 (firsts f k) (nearZ x y) (by rfl) (by rfl) HO.out.drew hbel.size (by rw [firsts_len]; omega) ?_; intro v3 w3 o3 c3)))
      go_wp2
      go_roundw
      case rel =>
        rw [ef.out, firsts_next] at o3
        exact ⟨k + 1, by omega, by go_num, o3, hbel.drew.trans c3⟩
      case measure => simp [intOf]; omega
    · have ek : k = n := by omega
      subst ek
      clear hkn hlt
      obtain ⟨ao, capA, rfl, hrow, _⟩ := ho.row
      have HO := hid ho
      rw [firsts_len] at HO ⊢
      have eT := turned_tot f k T
      have hgi : ∀ j, j < k → I64 (f ((j + T) % k)) := fun j hj => hfi _ (Nat.mod_lt _ (by omega))
      have hallB := firsts_all (f := fun i => f ((i + T) % k)) k hgi
      clear hfi hgi ho hr hk hz h8 hf g40 gnm gnm'
      generalize hg : (fun i => f ((i + T) % k)) = g at *
      generalize wr = wa at *
      go_wp2
      go_loopw [8, 10] (fun s i wv => ∃ j : Nat, j ≤ k ∧ i = .int .i64 j ∧ Own wv wa.heap.size s (firsts g j) ∧ Below wa.heap.size wa wv) (fun _ i _ => k - (intOf i).toNat)
      case atStart => exact ⟨0, by omega, rfl, Own.nil _ _, Below.refl _ _⟩
      case round =>
        obtain ⟨j, hjn, rfl, hoB, hbelB⟩ := hrel
        by_cases hlt : j < k
        · rcases hrow with h | ⟨b0, o0, rfl, hc0⟩
          · have := congrArg List.length h; rw [firsts_len] at this; simp at this; omega
          obtain ⟨r, hr⟩ : ∃ r, (j + T) % k = r := ⟨_, rfl⟩
          have hrk : r < k := by rw [← hr]; exact Nat.mod_lt _ (by omega)
          have cl0 := hc0 r (by rw [firsts_len]; exact hrk)
          rw [firsts_getD f hrk] at cl0
          have eg : Hid (g j = f r) := by show _ = _; rw [← hg, ← hr]
          have cl := cellK hbelB cl0
          have HB := hid hoB
          have q1 : ((j : Int) + (T : Int)).tmod (k : Int) = (r : Int) := by rw [Int.tmod_eq_emod_of_nonneg (by omega), ← hr]; simp
          have q2 : IntKind.i64.wrap ((j : Int) + (T : Int)) = (j : Int) + (T : Int) := by rw [IntKind.wrap_i64]; omega
          have q3 : ¬ (k : Int) = 0 := by omega
          have q4 : (r : Int) < (k : Int) := by omega
          have q5 : (j : Int) < (k : Int) := by omega
          clear hc0 cl0 hoB hall hallB eT hg hr
          generalize f r = y at *
          go_wp2_with (at_builtin; refine app1_list (w0 := wr) (by rfl) _ _ (by rfl) wa.heap.size u8 (firsts g j) y (by rfl) (by rfl) HB.out hbelB.size (by rw [firsts_len]; omega) ?_; intro v3 w3 o3 c3)
          go_roundw
          case rel =>
            rw [← eg.out, firsts_next] at o3
            exact ⟨j + 1, by omega, by go_num, o3, hbelB.trans c3⟩
          case measure => simp [intOf]; omega
        · have ek : j = k := by omega
          subst ek
          have HA := HO.out.keep hbelB
          clear HO hjn hlt hrow hg hm hn
          go_wp2_with (first
            | (go_at_call 10; refine (totalR_own _ _ _ _ (HA.keep bel) hall).mono ?_; rintro e w3 ⟨rfl, c⟩; have bel2 := (sq bel c))
            | (go_at_call 9; refine (total_own _ _ _ _ (hoB.keep bel) hallB).mono ?_; rintro e w3 ⟨rfl, c⟩; have bel := (sq bel c); clear hallB)
            | (go_at_call 9; refine (total_own _ _ _ _ HA hall).mono ?_; rintro e w2 ⟨rfl, bel⟩))
          go_ret
          exact ⟨rfl, (sq ((sq ((sq c1 hbel)) hbelB)) bel2)⟩
/-- A slice of integers that came in. -/
def IsRow (k : IntKind) (w : World) (a : Option Addr) (len cap : Nat) (zs : List Int) : Prop :=
  (a = none ∧ len = 0 ∧ cap = 0 ∧ zs = []) ∨
  ∃ x, a = some x ∧ len ≤ cap ∧ cap ≤ maxLen ∧ zs.length = cap ∧ (∀ i, i < zs.length → w.cell? (x.add i) = some (.int k (zs.getD i 0))) ∧ ∀ n ∈ zs, (Lit.int k n).wf = true


set_option maxRecDepth 100000 in
set_option maxHeartbeats 1000000 in
theorem total_out1 (a0 : Option Addr) (n cap0 : Nat) (a1 : Option Addr) (m cap1 : Nat) (T : Int) (w : World) (h : 40 < n) :
    Calls Try.prog 3 #[.slice a0 n cap0, .slice a1 m cap1, .int .u8 T] w fun e w' => e = .returned (.bool true) ∧ Below w.heap.size w w' := by
  have g1 : decide ((40 : Int) < (n : Int)) = true := decide_eq_true (by omega)
  go_enter Try.func3, Try.ntmps3
  go_wp2_with (go_at_call 7; refine (known_any _).mono ?_; rintro e w1 ⟨rfl, c1⟩)
  go_ret
  exact ⟨rfl, c1⟩
set_option maxRecDepth 100000 in
set_option maxHeartbeats 1000000 in
theorem total_out2 (a0 : Option Addr) (n cap0 : Nat) (a1 : Option Addr) (m cap1 : Nat) (T : Int) (w : World) (h : ¬ 40 < n) (h2 : m < n) :
    Calls Try.prog 3 #[.slice a0 n cap0, .slice a1 m cap1, .int .u8 T] w fun e w' => e = .returned (.bool true) ∧ Below w.heap.size w w' := by
  have g1 : decide ((40 : Int) < (n : Int)) = false := decide_eq_false (by omega)
  have g2 : decide ((m : Int) < (n : Int)) = true := decide_eq_true (by omega)
  go_enter Try.func3, Try.ntmps3
  go_wp2_with (go_at_call 7; refine (known_any _).mono ?_; rintro e w1 ⟨rfl, c1⟩)
  go_ret
  exact ⟨rfl, c1⟩

/-- The elements of a slice that came in. -/
theorem row_of {k : IntKind} {w : World} {a : Option Addr} {len cap : Nat} {zs : List Int} (h : IsRow k w a len cap zs) :
    ((zs.take len).length = len ∧ len ≤ maxLen) ∧ (∀ n ∈ zs.take len, (Lit.int k n).wf = true) ∧
    (zs.take len = [] ∨ ∃ b off, a = some ⟨b, off, none⟩ ∧ ∀ i, i < (zs.take len).length → w.cell? ⟨b, off + i, none⟩ = some (.int k ((zs.take len).getD i 0))) := by
  rcases h with ⟨rfl, rfl, rfl, rfl⟩ | ⟨x, rfl, hl, hm, hz, hcell, hwz⟩
  · exact ⟨⟨rfl, by unfold maxLen; omega⟩, fun n hn => by simp at hn, .inl rfl⟩
  · have hlen : (zs.take len).length = len := by rw [List.length_take]; omega
    refine ⟨⟨hlen, by omega⟩, fun n hn => hwz n (List.mem_of_mem_take hn), ?_⟩
    by_cases h0 : len = 0
    · subst h0; exact .inl (by simp)
    · obtain ⟨b, off, spot⟩ := x
      have hc := hcell 0 (by omega)
      have hspot : spot = none := by simpa [Addr.add] using World.cell?_spot hc
      subst hspot
      refine .inr ⟨b, off, rfl, fun i hi => ?_⟩
      rw [hlen] at hi
      have := hcell i (by omega)
      have e : (⟨b, off, none⟩ : Addr).add i = ⟨b, off + i, none⟩ := by simp [Addr.add]
      rw [e] at this
      rw [this]
      simp [hi]

theorem total_all (a0 : Option Addr) (len0 cap0 : Nat) (z0 : List Int) (a1 : Option Addr) (len1 cap1 : Nat) (z1 : List Int) (a2 : Int) (w : World) (w0 : IsRow .i64 w a0 len0 cap0 z0) (w1 : IsRow .u8 w a1 len1 cap1 z1) (w2 : (Lit.int .u8 a2).wf = true) :
    Calls Try.prog 3 #[.slice a0 len0 cap0, .slice a1 len1 cap1, .int .u8 a2] w fun e w' => e = .returned (.bool true) ∧ Below w.heap.size w w' := by
  by_cases h1 : 40 < len0
  · exact total_out1 a0 len0 cap0 a1 len1 cap1 a2 w h1
  · by_cases h2 : len1 < len0
    · exact total_out2 a0 len0 cap0 a1 len1 cap1 a2 w h1 h2
    · have c2 := bounds_u8 w2
      obtain ⟨T, rfl⟩ := Int.eq_ofNat_of_zero_le c2.1
      obtain ⟨⟨l0, m0⟩, f0, r0⟩ := row_of w0
      obtain ⟨⟨l1, m1⟩, f1, r1⟩ := row_of w1
      exact total_walk a0 len0 cap0 (z0.take len0) a1 len1 cap1 (z1.take len1) T w l0 l1 r0 r1 (fun x hx => bounds_i64 (f0 x hx)) (fun x hx => bounds_u8 (f1 x hx)) (by omega) (by omega) (by omega) m1

theorem sumsTotal_own : ownKnob Try.prog.godebug = none := by kernel_rfl
theorem sumsTotal_laid : laidOutB Try.prog = true := by kernel_rfl

set_option maxRecDepth 100000 in
theorem sumsTotal_lifted (os : Os) (started : os.Started) (H : Type) (enc : TypeId × Value → H) :
    ReturnsInHanded {} Try.checked os 3 .any (Rows.sumsTotalSpec.pre6 enc Try.prog Try.f3 Rows.sumsTotalRow.domain false) (Rows.sumsTotalSpec.post enc Try.prog Try.f3 false true false false) := by
  refine returnsInHanded_of_change (C := Try.checked) sumsTotal_own started (by kernel_rfl) Try.func3
    (ChangeSpec.witness6 (enc := enc) (C := Try.checked) false ⟨#[], #[.slice none 0 0, .slice none 0 0, .int .u8 0], []⟩ 8 (by kernel_rfl) (by kernel_rfl) (by kernel_rfl) (by kernel_rfl)) ?_
  intro W base args ds gs before hval0 hW hcnd _
  have hval : ∀ (j : Nat) t v, Try.f3.params[j]? = some t → args[j]? = some v → Value.okWide Try.prog W .any base t v := hval0
  have hW' := hW
  obtain ⟨p, q, hA0, hV, rfl, hfz, hnd⟩ := hW
  have hA : DataW.TrodAll enc Try.prog W 0 (fun _ => true) true Try.f3.params.toList args.toList ds p := hA0
  rw [Try.params3] at hA hval
  obtain ⟨v0, vs0, d0, ds0, p0, q0, hargs, rfl, rfl, h0, r0⟩ := trodAll_cons hA
  obtain ⟨v1, vs1, d1, ds1, p1, q1, rfl, rfl, rfl, h1, r1⟩ := trodAll_cons r0
  obtain ⟨v2, vs2, d2, ds2, p2, q2, rfl, rfl, rfl, h2, r2⟩ := trodAll_cons r1
  obtain ⟨rfl, rfl, rfl⟩ := trodAll_nil r2
  obtain rfl : args = #[v0, v1, v2] := by cases args; simp_all
  obtain ⟨rfl, rfl⟩ := trodVars_none hV
  obtain ⟨a0, len0, cap0, rfl⟩ := okWide_slice Try.underlying22 (hval 0 22 v0 rfl rfl)
  have k0 := h0
  have lt0 : ∀ x ∈ p0, x.block < W.heap.size := by obtain ⟨m, hm⟩ := k0; exact DataW.trod_lt m _ _ _ hm
  obtain ⟨z0, w0⟩ : ∃ zs, IsRow .i64 W a0 len0 cap0 zs := by
    obtain ⟨fuel, hf⟩ := h0
    rcases open_ints Try.underlying22 Try.underlying2 (by kernel_rfl) hf with ⟨hcs, _⟩ | ⟨x, l, c, zs, hcs, _, hl, hm, hz, _, hcell, hwz⟩
    · simp [Value.cells] at hcs
      obtain ⟨rfl, rfl, rfl⟩ := hcs
      exact ⟨[], .inl ⟨rfl, rfl, rfl, rfl⟩⟩
    · simp [Value.cells] at hcs
      obtain ⟨rfl, rfl, rfl⟩ := hcs
      exact ⟨zs, .inr ⟨_, rfl, hl, hm, by simpa using hz, hcell, hwz⟩⟩
  obtain ⟨a1, len1, cap1, rfl⟩ := okWide_slice Try.underlying23 (hval 1 23 v1 rfl rfl)
  have k1 := h1
  have lt1 : ∀ x ∈ p1, x.block < W.heap.size := by obtain ⟨m, hm⟩ := k1; exact DataW.trod_lt m _ _ _ hm
  obtain ⟨z1, w1⟩ : ∃ zs, IsRow .u8 W a1 len1 cap1 zs := by
    obtain ⟨fuel, hf⟩ := h1
    rcases open_ints Try.underlying23 Try.underlying5 (by kernel_rfl) hf with ⟨hcs, _⟩ | ⟨x, l, c, zs, hcs, _, hl, hm, hz, _, hcell, hwz⟩
    · simp [Value.cells] at hcs
      obtain ⟨rfl, rfl, rfl⟩ := hcs
      exact ⟨[], .inl ⟨rfl, rfl, rfl, rfl⟩⟩
    · simp [Value.cells] at hcs
      obtain ⟨rfl, rfl, rfl⟩ := hcs
      exact ⟨zs, .inr ⟨_, rfl, hl, hm, by simpa using hz, hcell, hwz⟩⟩
  obtain ⟨a2, rfl, rfl, rfl, w2⟩ := open_int Try.underlying5 (hval 2 5 v2 rfl rfl) h2
  clear hA0 hval0
  refine (total_all a0 len0 cap0 z0 a1 len1 cap1 z1 a2 W w0 w1 w2).mono fun e W' ⟨he, bel⟩ => ?_
  subst he
  exact ⟨_, rfl, _, _, _, [], _, [], hW', trodAll_mk1 (shut_bool Try.underlying4 _), (trodAll_cons_mk (Below.trod sumsTotal_laid (by kernel_rfl) (of_decide_eq_true (by kernel_rfl)) k0 bel lt0) (trodAll_cons_mk (Below.trod sumsTotal_laid (by kernel_rfl) (of_decide_eq_true (by kernel_rfl)) k1 bel lt1) (trodAll_cons_mk (shut_int Try.underlying5 w2) trodAll_mk0))), rfl, bel.frame _, fun h => by cases h⟩

theorem sumsTotal_over : Rows.sumsTotalRow.holds Try.pinned (OpenSpec.ofChange Rows.sumsTotalSpec) :=
  OpenClaim.holds_of_wide 3 Try.f3 rfl rfl rfl rfl rfl rfl rfl ⟨rfl, rfl, rfl, rfl, rfl⟩ rfl rfl rfl rfl rfl (by kernel_rfl) Try.func3 (by kernel_rfl)
    (of_decide_eq_true (by kernel_rfl)) (by unfold Func.isWrapper; first | (rw [if_pos (by decide +kernel)]; kernel_rfl) | (rw [if_neg (by decide +kernel)]; exact ⟨rfl, rfl⟩))
    (fun os started H enc _ => sumsTotal_lifted os started H enc)

/-- The statement. -/
theorem sumsTotal_holds : Rows.SumsTotalSaid := sumsTotal_over
#print axioms sumsTotal_holds
end Go.Proofs.Ytjgnimekplaklaa
