/- For every a, keep, torn and n the function DiskTorn answers true: which bytes of the last write that isn't kept are there behind a crash. -/
import Derived.Test.YtfpgdbmglpejcaaClones
namespace Go.Proofs.Ytfpgdbmglpejcaa
open Go.ChangeShapes Go.WideShapes Go.ChangeAt Go.RowKit

theorem own_writeN {w0 w w' : World} {p : Nat} {d : Dk} (n : Int) (X cap len : Nat) (l : List Int) (h : Own1 tc w0 w p d) (hb : Below w.heap.size w w') (hX : w.heap.size ≤ X) (hX' : X < w'.heap.size) (hlen : l.length = len) (hl : ∀ z ∈ l, Byt z)
    (hr : RowOf (Value.int .u8) w' (some ⟨X, 0, none⟩) l) (hmany : d.waits.length ≤ 1000000) :
    Calls Try.prog 18 #[.pointer (some ⟨p, 0, none⟩), .int .i64 n, .slice (some ⟨X, 0, none⟩) len cap] w' fun e w2 => e = .returned (.int .i64 (writeZ d n)) ∧ Own1 tc w0 w2 p (writeD d n l) := by
  obtain ⟨F, h1, h2, h3⟩ := h
  refine (write_at n _ cap len l (h1.below hb) hlen hl hr (fun _ a e => by cases e; exact ⟨hX', fun f => absurd (h1.lt _ f) (by show ¬ X < w.heap.size; omega)⟩) hmany).mono ?_
  rintro e w2 ⟨rfl, hT, hD⟩
  exact ⟨rfl, .step h2 (sq h3 hb) hT hD⟩
/-- 64 bytes are made. -/
theorem mk64 {ops : Array Oper} {rest : List Oper} {op : Oper} {a : Act} {w : World} {Q : Exit → Act → World → Prop} (hgd : op.guard = none) (x y : Operand) (ho : op.op = .makeSlice 28 x y) (hx : a.eval x = .int .i64 64) (hy : a.eval y = .int .i64 64)
    (h : ∀ w', w'.rangeAt w.heap.size 0 (by8 zer) → w'.there w.heap.size 0 64 → Below w.heap.size w w' → wpList Try.prog ops Q rest (a.put op.dst (.slice (some ⟨w.heap.size, 0, none⟩) 64 64)) w') : wpList Try.prog ops Q (op :: rest) a w :=
  wpList_plain hgd fun K hK => by
    obtain ⟨i0, hi0, hz0, hz1, hz2⟩ := info_parts info5
    have hr := run_make (P := Try.prog) w 28 5 i0 _ Try.underlying28 hi0 hz0 .i64 .i64 64 64 (by decide) (by decide) (by rw [hz2]; decide) (by decide)
    have e : (madeCells (Value.int .u8 0).cells ((64 : Int).toNat * i0.size)) = (by8 zer).toArray := by rw [hz1]; kernel_rfl
    rw [e] at hr
    unfold Oper.wp execOp
    simp only [ho, hx, hy, Sem.run_bind, hr, Result.andThen_ok]
    exact hK _ _ (h _ (new_range _ _ _) (new_there _ _ _ (by simp [zer])) (bel1 _ _))


/-- The byte that write number i lays, 64 times. -/
def tv (a i : Nat) : Int := bits .or .u8 (((a : Int) + (i : Int)) % 256) 1
theorem tv_byt (a i : Nat) : Byt (tv a i) := bounds_u8 (wf_bits _ _ _ _)
def tS (a i : Nat) : List Int := List.replicate 64 (tv a i)
theorem tS_sec (a i : Nat) : Sec (tS a i) := ⟨by rw [tS, List.length_replicate], fun z hz => by rw [List.eq_of_mem_replicate hz]; exact tv_byt a i⟩
theorem padS_sec64 {s : List Int} (h : Sec s) : padS s = s := by
  have hl := h.1
  unfold padS
  rw [hl]; exact lay_all h zer_sec
def tW (a m : Nat) : List (Nat × List Int) := (List.range m).map fun i => (i, tS a i)
def dT (a k m : Nat) : Dk := ⟨List.replicate k zer, tW a m, 0, false⟩
theorem tW_len (a m : Nat) : (tW a m).length = m := by simp [tW]
theorem tW_get {a m i : Nat} (h : i < m) : (tW a m)[i]? = some (i, tS a i) := by simp [tW, h]
theorem dT_zero (a k : Nat) : newD k = dT a k 0 := rfl
theorem dT_write {a k m : Nat} (h : m < k) : writeZ (dT a k m) m = 0 ∧ writeD (dT a k m) m (tS a m) = dT a k (m + 1) := by
  have f : Free (dT a k m) := ⟨rfl, rfl⟩
  have hl : m < (dT a k m).secs.length := by show m < (List.replicate k zer).length; rw [List.length_replicate]; exact h
  refine ⟨f.writeZ hl, ?_⟩
  rw [f.writeD hl, padS_sec64 (tS_sec a m)]
  show (⟨List.replicate k zer, tW a m ++ [(m, tS a m)], 0, false⟩ : Dk) = ⟨List.replicate k zer, tW a (m + 1), 0, false⟩
  rw [tW, tW, List.range_succ, List.map_append]; rfl
/-- What sector i holds behind the crash. -/
def tT (a : Nat) (bs : List Bool) (t : Nat) (z : Int) (i : Nat) : List Int := if keptB bs i then tS a i else if (i : Int) = z then lay t (tS a i) zer else zer
theorem crash_tT (a k : Nat) (bs : List Bool) (t : Nat) (z : Int) : ∀ m, m ≤ k → ∀ i, i < k → (crash bs t z (List.replicate k zer) (tW a k) m)[i]? = some (if i < m then tT a bs t z i else zer)
  | 0, _, i, hi => by simp [crash, hi]
  | m + 1, hm, i, hi => by
    have ih := crash_tT a k bs t z m (by omega)
    have hx := tW_get (a := a) (show m < k by omega)
    rw [crash_next hx, crash1]
    have hg : (crash bs t z (List.replicate k zer) (tW a k) m).getD m [] = zer := by
      have := ih m (by omega); simp at this; simp [this]
    have hlen : m < (crash bs t z (List.replicate k zer) (tW a k) m).length := by rw [crash_len, List.length_replicate]; omega
    by_cases e : i = m
    · subst e
      have hl : i < i + 1 := by omega
      rw [if_pos hl, tT, hg]
      split
      · exact List.getElem?_set_self hlen
      · split
        · exact List.getElem?_set_self hlen
        · have := ih i (by omega); simpa using this
    · have hne : m ≠ i := fun h => e h.symm
      have hcase : (if i < m + 1 then tT a bs t z i else zer) = (if i < m then tT a bs t z i else zer) := by
        by_cases h : i < m
        · rw [if_pos h, if_pos (by omega)]
        · rw [if_neg h, if_neg (by omega)]
      rw [hcase]
      split
      · show (List.set _ m _)[i]? = _
        rw [List.getElem?_set_ne hne]; exact ih i hi
      · split
        · show (List.set _ m _)[i]? = _
          rw [List.getElem?_set_ne hne]; exact ih i hi
        · exact ih i hi
theorem tT_len (a : Nat) (bs : List Bool) (torn z : Int) (i : Nat) : (tT a bs (tornN torn) z i).length = 64 := by
  unfold tT
  split
  · exact (tS_sec a i).1
  · split
    · exact (lay_sec (tS_sec a i) zer_sec (tornN_le torn)).1
    · exact zer_sec.1
theorem tT_at (a : Nat) (bs : List Bool) (torn z : Int) (i j : Nat) (hj : j < 64) : (tT a bs (tornN torn) z i)[j]? = some (if keptB bs i = true ∨ ((i : Int) = z ∧ (j : Int) < torn) then tv a i else 0) := by
  have ht := tornN_int torn
  have hS : (tS a i)[j]? = some (tv a i) := by rw [tS, List.getElem?_replicate, if_pos hj]
  have hZ : zer[j]? = some 0 := by rw [zer, List.getElem?_replicate, if_pos hj]
  unfold tT
  by_cases hq : keptB bs i = true
  · rw [if_pos hq, if_pos (.inl hq)]; exact hS
  · rw [if_neg hq]
    by_cases hz : (i : Int) = z
    · rw [if_pos hz]
      unfold lay
      by_cases hjt : j < tornN torn
      · rw [if_pos (.inr ⟨hz, by omega⟩), List.getElem?_append_left (by rw [List.length_take, (tS_sec a i).1]; omega), List.getElem?_take, if_pos hjt]; exact hS
      · have hl := tornN_le torn
        rw [if_neg (fun h => by rcases h with h | h; exact hq h; omega), List.getElem?_append_right (by rw [List.length_take, (tS_sec a i).1]; omega), List.getElem?_drop, List.length_take, (tS_sec a i).1]
        rw [show tornN torn + (j - min (tornN torn) 64) = j by omega]; exact hZ
    · rw [if_neg hz, if_neg (fun h => by rcases h with h | h; exact hq h; exact hz h.1)]; exact hZ
theorem dT_read {a k i : Nat} (bs : List Bool) (torn : Int) (hi : i < k) : reachZ (reopD (dT a k k) bs torn) i = 0 ∧ readB (reopD (dT a k k) bs torn) i = tT a bs (tornN torn) (lostZ bs k) i := by
  have f : Free (reopD (dT a k k) bs torn) := ⟨rfl, rfl⟩
  have hs : (reopD (dT a k k) bs torn).secs[i]? = some (tT a bs (tornN torn) (lostZ bs k) i) := by
    have := crash_tT a k bs (tornN torn) (lostZ bs k) k (Nat.le_refl _) i hi
    rw [if_pos hi] at this
    show (crash bs (tornN torn) (lostZ bs (tW a k).length) (List.replicate k zer) (tW a k) (tW a k).length)[i]? = _
    rw [tW_len]; exact this
  exact ⟨f.reach (List.getElem?_eq_some_iff.1 hs).1, readB_none f rfl hs⟩
/-- The first j of 64 bytes are v. -/
def fillJ (v : Int) (j : Nat) : List Int := List.replicate j v ++ List.replicate (64 - j) 0
theorem fillJ_put {w : World} {b j : Nat} {v : Int} (h : w.rangeAt b 0 (by8 (fillJ v j))) (ht : w.there b 0 64) (hj : j < 64) : (w.setCell ⟨b, j, none⟩ (.int .u8 v)).rangeAt b 0 (by8 (fillJ v (j + 1))) := by
  intro q u hu
  rw [Nat.zero_add]
  have hq : q < 64 := by
    have := (List.getElem?_eq_some_iff.1 hu).1
    simp only [by8, fillJ, List.length_map, List.length_append, List.length_replicate] at this; omega
  have hsome := (ht q hq).1
  rw [Nat.zero_add] at hsome
  by_cases e : q = j
  · subst e
    obtain ⟨y, hy⟩ := Option.isSome_iff_exists.1 hsome
    rw [World.cell?_setCell_same _ _ _ hy, ← hu]
    simp only [by8, fillJ, List.getElem?_map]
    rw [List.getElem?_append_left (by simp), List.getElem?_replicate, if_pos (by omega)]; rfl
  · rw [World.cell?_setCell_other _ _ _ _ (by simp)]
    have := h q u (by
      rw [← hu]
      simp only [by8, fillJ, List.getElem?_map]
      by_cases hlt : q < j
      · rw [List.getElem?_append_left (by simp; omega), List.getElem?_append_left (by simp; omega), List.getElem?_replicate, List.getElem?_replicate, if_pos hlt, if_pos (by omega)]
      · rw [List.getElem?_append_right (by simp; omega), List.getElem?_append_right (by simp; omega), List.getElem?_replicate, List.getElem?_replicate, List.length_replicate, List.length_replicate, if_pos (by omega), if_pos (by omega)])
    rw [Nat.zero_add] at this; exact this
theorem there_put {w : World} {b n : Nat} (h : w.there b 0 n) (a : Addr) (u : Value) : (w.setCell a u).there b 0 n := fun j hj => by
  obtain ⟨h1, h2⟩ := h j hj
  refine ⟨?_, by rw [World.frozen?_setCell]; exact h2⟩
  obtain ⟨y, hy⟩ := Option.isSome_iff_exists.1 h1
  by_cases e : a = ⟨b, 0 + j, none⟩
  · subst e; rw [World.cell?_setCell_same _ _ _ hy]; rfl
  · rw [World.cell?_setCell_other _ _ _ _ e, hy]; rfl

set_option maxRecDepth 20000 in
set_option maxHeartbeats 8000000 in
theorem torn_walk (a n : Nat) (a1 : Option Addr) (len1 cap1 : Nat) (bs : List Bool) (torn : Int) (w : World) (hn : n ≤ 255) (h1 : InF w a1 len1 bs) (g1 : len1 ≤ 20) :
    Calls Try.prog 6 #[.int .u8 (a : Int), .slice a1 len1 cap1, .int .i64 torn, .int .u8 (n : Int)] w fun e w' => e = .returned (.bool true) ∧ Below w.heap.size w w' := by
  obtain ⟨N, hN⟩ : ∃ N : Nat, n % 6 = N := ⟨_, rfl⟩
  have eN : ((n : Int) % 6) = (N : Int) := by omega
  have hN6 : N < 6 := by omega
  have dl : decide ((20 : Int) < (len1 : Int)) = false := by simp; omega
  obtain ⟨hlen, hrow, hfar⟩ := h1
  have H1 := hid hlen
  have H2 := hid hrow
  have H3 := hid hfar
  have CK : Hid (∀ i w', Below w.heap.size w w' → (len1 ≤ i ∧ keptB bs i = false) ∨ (i < len1 ∧ ∃ b o, a1 = some ⟨b, o, none⟩ ∧ w'.cell? ⟨b, o + i, none⟩ = some (.bool (keptB bs i)))) := by
    intro i w' hb
    have := flag_at (hrow.keep hfar hb) i
    rw [hlen] at this; exact this
  clear hlen hrow hfar hN
  go_enter Try.func6, Try.ntmps6
  go_wp2_with (first | (go_at_call 8; refine (own_new ((N : Int) + 1) b2).mono ?_; rintro e w3 ⟨p, rfl, D3⟩) | (go_at_call 7; refine (known_any _).mono ?_; rintro e w2 ⟨rfl, b2⟩))
  have HD3 : Hid (Own1 tc w w3 p (dT a (N + 1) 0)) := by
    have e : (min (max ((N : Int) + 1) 0) 4096).toNat = N + 1 := by omega
    rw [e] at D3; exact D3
  clear D3
  go_loopw [11, 12] (fun m x wr => ∃ (i : Nat), i ≤ N + 1 ∧ x = .int .i64 (i : Int) ∧ m = .int .i64 (lostZ bs i) ∧ Own1 tc w wr p (dT a (N + 1) i)) (fun _ x _ => N + 1 - (intOf x).toNat)
  case atStart => exact ⟨0, by omega, rfl, rfl, HD3.out⟩
  case round =>
    obtain ⟨i, hi, rfl, rfl, hD⟩ := hrel
    have HD := hid hD
    clear hD HD3
    by_cases hlt : i < N + 1
    · obtain ⟨v, hv⟩ : ∃ v, bits BinOp.or IntKind.u8 (((a : Int) + (i : Int)) % 256) 1 = v := ⟨_, rfl⟩
      have HV : Hid (tv a i = v) := hv
      obtain ⟨m, hm⟩ : ∃ m, lostZ bs i = m := ⟨_, rfl⟩
      have HL : Hid (lostZ bs (i + 1) = if keptB bs i then m else (i : Int)) := by unfold Hid; rw [← hm]; rfl
      rw [hm]
      have HM := hid hm
      clear hm
      go_wp2_with (refine mk64 rfl _ _ rfl rfl rfl ?_; intro w5 r5 t5 b5; have R5 := hid r5; have T5 := hid t5; have B5 := hid b5; clear r5 t5 b5)
      generalize wr = wa at *
      go_loopw [14] (fun y wr => ∃ (j : Nat), j ≤ 64 ∧ y = .int .i64 (j : Int) ∧ wr.rangeAt wa.heap.size 0 (by8 (fillJ v j)) ∧ wr.there wa.heap.size 0 64 ∧ Below wa.heap.size wa wr) (fun x _ => 64 - (intOf x).toNat)
      case atStart => exact ⟨0, by omega, rfl, R5.out, T5.out, B5.out⟩
      case round =>
        obtain ⟨j, hj, rfl, hr, ht, hb⟩ := hrel
        clear R5 T5 B5
        have R := hid hr
        have T := hid ht
        have B := hid hb
        clear hr ht hb
        by_cases hjl : j < 64
        · obtain ⟨y, hy⟩ := Option.isSome_iff_exists.1 (T.out j hjl).1
          have f1 := (T.out j hjl).2
          rw [Nat.zero_add] at hy f1
          go_wp2
          go_roundw
          case rel => exact ⟨j + 1, by omega, by go_num, fillJ_put R.out T.out hjl, there_put T.out _ _, B.out.setCell (Nat.le_refl _) _⟩
          case measure => simp [intOf]; omega
        · have ej : j = 64 := by omega
          obtain ⟨zw, dw⟩ := dT_write (a := a) (k := N + 1) (m := i) (by omega)
          have HZW := hid dw
          have HROW : Hid (RowOf (Value.int .u8) wr (some ⟨wa.heap.size, 0, none⟩) (tS a i)) := by
            have := R.out
            rw [ej] at this
            have e2 : fillJ v 64 = tS a i := by rw [tS, HV.out]; simp [fillJ]
            rw [e2] at this
            exact row_all this
          have HX : Hid (wa.heap.size < wr.heap.size) := by
            have := (T.out 0 (by omega)).1
            obtain ⟨y, hy⟩ := Option.isSome_iff_exists.1 this
            exact World.block_lt_of_cell? wr _ hy
          have HMANY : Hid ((dT a (N + 1) i).waits.length ≤ 1000000) := by show (tW a i).length ≤ 1000000; rw [tW_len]; omega
          clear dw ej
          rcases CK.out i w (Below.refl _ _) with ⟨hk, hq⟩ | ⟨hk, b, o, hao, _⟩
          · have hd1 : decide ((len1 : Int) ≤ (i : Int)) = true := by simp; omega
            go_wp2_with (go_at_call 18; refine (own_writeN (i : Int) wa.heap.size 64 64 (tS a i) HD.out B.out (Nat.le_refl _) HX.out (tS_sec a i).1 (tS_sec a i).2 HROW.out HMANY.out).mono ?_; rintro e w7 ⟨rfl, D7⟩; rw [HZW.out] at D7)
            go_roundw
            case rel => exact ⟨i + 1, by omega, by go_num, by rw [HL.out, hq]; rfl, D7⟩
            case measure => simp [intOf]; omega
          · subst hao
            have hd1 : decide ((len1 : Int) ≤ (i : Int)) = false := by simp; omega
            have hd2 : decide (len1 ≤ i) = false := by simp; omega
            have HC : Hid (∀ w', Below w.heap.size w w' → w'.cell? ⟨b, o + i, none⟩ = some (.bool (keptB bs i))) := by
              intro w' hb
              rcases CK.out i w' hb with ⟨h, _⟩ | ⟨_, b', o', e, hc⟩
              · omega
              · cases e; exact hc
            cases hq : keptB bs i with
            | true =>
              rw [hq] at HC
              go_wp2_with (go_at_call 18; refine (own_writeN (i : Int) wa.heap.size 64 64 (tS a i) HD.out B.out (Nat.le_refl _) HX.out (tS_sec a i).1 (tS_sec a i).2 HROW.out HMANY.out).mono ?_; rintro e w7 ⟨rfl, D7⟩; rw [HZW.out] at D7; have hck := HC.out w7 D7.bel)
              go_roundw
              case rel => exact ⟨i + 1, by omega, by go_num, by rw [HL.out, hq]; rfl, D7⟩
              case measure => simp [intOf]; omega
            | false =>
              rw [hq] at HC
              go_wp2_with (go_at_call 18; refine (own_writeN (i : Int) wa.heap.size 64 64 (tS a i) HD.out B.out (Nat.le_refl _) HX.out (tS_sec a i).1 (tS_sec a i).2 HROW.out HMANY.out).mono ?_; rintro e w7 ⟨rfl, D7⟩; rw [HZW.out] at D7; have hck := HC.out w7 D7.bel)
              go_roundw
              case rel => exact ⟨i + 1, by omega, by go_num, by rw [HL.out, hq]; rfl, D7⟩
              case measure => simp [intOf]; omega
    · have ei : i = N + 1 := by omega
      subst ei
      obtain ⟨z, hz⟩ : ∃ z, lostZ bs (N + 1) = z := ⟨_, rfl⟩
      rw [hz]
      have HZ := hid hz
      obtain ⟨d4, hd4⟩ : ∃ d4, reopD (dT a (N + 1) (N + 1)) bs torn = d4 := ⟨_, rfl⟩
      have HD4 := hid hd4
      have HDN : Hid (d4.down = false) := by unfold Hid; rw [← hd4]; rfl
      clear hz hd4
      go_wp2_with (go_at_call 16; refine (own_reopen a1 cap1 len1 bs torn HD.out H1.out H2.out H3.out).mono ?_; rintro e w6 ⟨rfl, D6⟩; rw [HD4.out] at D6)
      have HD6 := hid D6
      clear D6
      generalize wr = wa at *
      go_loopw [15] (fun x wr => ∃ (i : Nat), i ≤ N + 1 ∧ x = .int .i64 (i : Int) ∧ Own1 tc w wr p d4) (fun x _ => N + 1 - (intOf x).toNat)
      case atStart => exact ⟨0, by omega, rfl, HD6.out⟩
      case round =>
        obtain ⟨i, hi, rfl, hO⟩ := hrel
        have HO := hid hO
        clear hO HD6
        by_cases hil : i < N + 1
        · obtain ⟨q1, q2⟩ := dT_read (a := a) bs torn hil
          rw [HD4.out] at q1 q2
          rw [HZ.out] at q2
          have Q2 := hid q2
          have Q3 := hid (tT_len a bs torn z i)
          have Q4 := hid (tT_at a bs torn z i)
          obtain ⟨v, hv⟩ : ∃ v, bits BinOp.or IntKind.u8 (((a : Int) + (i : Int)) % 256) 1 = v := ⟨_, rfl⟩
          have HV : Hid (tv a i = v) := hv
          clear q2
          go_wp2_with (go_at_call 12; refine (own_read (i : Int) HO.out).mono ?_; rintro e w8 ⟨v8, rfl, y8, b8, D8⟩; rw [Q2.out] at y8; obtain ⟨g8, c8, rfl, R8, l8⟩ := y8.form64 Q3.out; have HR8 := hid R8; have HO8 := hid D8; clear R8 y8 D8 b8)
          generalize wr = wb at *
          go_loopw [18] (fun y wr => ∃ (j : Nat), j ≤ 64 ∧ y = .int .i64 (j : Int) ∧ w8 = wr) (fun x _ => 64 - (intOf x).toNat)
          case atStart => exact ⟨0, by omega, rfl, rfl⟩
          case round =>
            obtain ⟨j, hj, rfl, rfl⟩ := hrel
            by_cases hjl : j < 64
            · have hx := HR8.out j (.int .u8 (if keptB bs i = true ∨ ((i : Int) = z ∧ (j : Int) < torn) then tv a i else 0)) (by rw [List.getElem?_map, Q4.out j hjl]; rfl)
              rw [Nat.zero_add, HV.out] at hx
              rcases CK.out i w8 HO8.out.bel with ⟨hk, hq⟩ | ⟨hk, b, o, hao, hcell⟩
              · have hd1 : decide ((i : Int) < (len1 : Int)) = false := by simp; omega
                have hd2 : decide (i < len1) = false := by simp; omega
                rw [hq] at hx
                by_cases hzi : (i : Int) = z
                · by_cases hjt : (j : Int) < torn
                  · rw [if_pos (.inr ⟨hzi, hjt⟩)] at hx
                    subst hzi
                    go_wp2
                    go_roundw
                    case rel => exact ⟨j + 1, by omega, by go_num, by first | rfl | trivial⟩
                    case measure => simp [intOf]; omega
                  · rw [if_neg (fun h => by rcases h with h | h; exact absurd h (by decide); exact hjt h.2)] at hx
                    subst hzi
                    go_wp2
                    go_roundw
                    case rel => exact ⟨j + 1, by omega, by go_num, by first | rfl | trivial⟩
                    case measure => simp [intOf]; omega
                · rw [if_neg (fun h => by rcases h with h | h; exact absurd h (by decide); exact hzi h.1)] at hx
                  go_wp2
                  go_roundw
                  case rel => exact ⟨j + 1, by omega, by go_num, by first | rfl | trivial⟩
                  case measure => simp [intOf]; omega
              · subst hao
                have hd1 : decide ((i : Int) < (len1 : Int)) = true := by simp; omega
                have hd2 : decide (i < len1) = true := by simp; omega
                cases hq : keptB bs i with
                | true =>
                  rw [hq] at hx hcell
                  rw [if_pos (.inl rfl)] at hx
                  go_wp2
                  go_roundw
                  case rel => exact ⟨j + 1, by omega, by go_num, by first | rfl | trivial⟩
                  case measure => simp [intOf]; omega
                | false =>
                  rw [hq] at hx hcell
                  by_cases hzi : (i : Int) = z
                  · by_cases hjt : (j : Int) < torn
                    · rw [if_pos (.inr ⟨hzi, hjt⟩)] at hx
                      subst hzi
                      go_wp2
                      go_roundw
                      case rel => exact ⟨j + 1, by omega, by go_num, by first | rfl | trivial⟩
                      case measure => simp [intOf]; omega
                    · rw [if_neg (fun h => by rcases h with h | h; exact absurd h (by decide); exact hjt h.2)] at hx
                      subst hzi
                      go_wp2
                      go_roundw
                      case rel => exact ⟨j + 1, by omega, by go_num, by first | rfl | trivial⟩
                      case measure => simp [intOf]; omega
                  · rw [if_neg (fun h => by rcases h with h | h; exact absurd h (by decide); exact hzi h.1)] at hx
                    go_wp2
                    go_roundw
                    case rel => exact ⟨j + 1, by omega, by go_num, by first | rfl | trivial⟩
                    case measure => simp [intOf]; omega
            · have ej : j = 64 := by omega
              subst ej
              clear hj hjl
              go_wp2
              go_roundw
              case rel => exact ⟨i + 1, by omega, by go_num, HO8.out⟩
              case measure => simp [intOf]; omega
        · go_wp2_with (go_at_call 20; refine (own_down HO.out).mono ?_; rintro e w8 ⟨rfl, rfl⟩; rw [HDN.out])
          go_ret
          exact ⟨rfl, HO.out.bel⟩

theorem torn_long (a n : Int) (a1 : Option Addr) (len1 cap1 : Nat) (torn : Int) (w : World) (h : 20 < len1) :
    Calls Try.prog 6 #[.int .u8 a, .slice a1 len1 cap1, .int .i64 torn, .int .u8 n] w fun e w' => e = .returned (.bool true) ∧ Below w.heap.size w w' := by
  go_enter Try.func6, Try.ntmps6
  go_wp2_with (go_at_call 7; refine (known_any _).mono ?_; rintro e w2 ⟨rfl, b2⟩)
  go_ret
  exact ⟨rfl, b2⟩
theorem torn_all (a0 : Int) (a1 : Option Addr) (len1 cap1 : Nat) (bs : List Bool) (torn : Int) (a3 : Int) (w : World) (w0 : (Lit.int .u8 a0).wf = true) (w1 : InF w a1 len1 bs) (_w2 : (Lit.int .i64 torn).wf = true) (w3 : (Lit.int .u8 a3).wf = true) :
    Calls Try.prog 6 #[.int .u8 a0, .slice a1 len1 cap1, .int .i64 torn, .int .u8 a3] w fun e w' => e = .returned (.bool true) ∧ Below w.heap.size w w' := by
  by_cases h : 20 < len1
  · exact torn_long a0 a3 a1 len1 cap1 torn w h
  · have c0 := bounds_u8 w0
    have c3 := bounds_u8 w3
    obtain ⟨a, rfl⟩ := Int.eq_ofNat_of_zero_le c0.1
    obtain ⟨n, rfl⟩ := Int.eq_ofNat_of_zero_le c3.1
    exact torn_walk a n a1 len1 cap1 bs torn w (by omega) w1 (by omega)
theorem diskTorn_own : ownKnob Try.prog.godebug = none := by kernel_rfl
theorem diskTorn_laid : laidOutB Try.prog = true := by kernel_rfl

set_option maxRecDepth 100000 in
theorem diskTorn_lifted (os : Os) (started : os.Started) (H : Type) (enc : TypeId × Value → H) :
    ReturnsInHanded {} Try.checked os 6 .any (Rows.diskTornSpec.pre6 enc Try.prog Try.f6 Rows.diskTornRow.domain false) (Rows.diskTornSpec.post enc Try.prog Try.f6 false true false false) := by
  refine returnsInHanded_of_change (C := Try.checked) diskTorn_own started (by kernel_rfl) Try.func6
    (ChangeSpec.witness6 (enc := enc) (C := Try.checked) false ⟨#[], #[.int .u8 0, .slice none 0 0, .int .i64 0, .int .u8 0], []⟩ 8 (by kernel_rfl) (by kernel_rfl) (by kernel_rfl) (by kernel_rfl)) ?_
  intro W base args ds gs before hval0 hW hcnd _
  have hval : ∀ (j : Nat) t v, Try.f6.params[j]? = some t → args[j]? = some v → Value.okWide Try.prog W .any base t v := hval0
  have hW' := hW
  obtain ⟨p, q, hA0, hV, rfl, hfz, hnd⟩ := hW
  have hA : DataW.TrodAll enc Try.prog W 0 (fun _ => true) true Try.f6.params.toList args.toList ds p := hA0
  rw [Try.params6] at hA hval
  obtain ⟨v0, vs0, d0, ds0, p0, q0, hargs, rfl, rfl, h0, r0⟩ := trodAll_cons hA
  obtain ⟨v1, vs1, d1, ds1, p1, q1, rfl, rfl, rfl, h1, r1⟩ := trodAll_cons r0
  obtain ⟨v2, vs2, d2, ds2, p2, q2, rfl, rfl, rfl, h2, r2⟩ := trodAll_cons r1
  obtain ⟨v3, vs3, d3, ds3, p3, q3, rfl, rfl, rfl, h3, r3⟩ := trodAll_cons r2
  obtain ⟨rfl, rfl, rfl⟩ := trodAll_nil r3
  obtain rfl : args = #[v0, v1, v2, v3] := by cases args; simp_all
  obtain ⟨rfl, rfl⟩ := trodVars_none hV
  obtain ⟨a0, rfl, rfl, rfl, w0⟩ := open_int Try.underlying5 (hval 0 5 v0 rfl rfl) h0
  obtain ⟨x1, y1, z1, rfl⟩ := okWide_slice Try.underlying29 (hval 1 29 v1 rfl rfl)
  have k1 := h1
  have lt1 : ∀ x ∈ p1, x.block < W.heap.size := by obtain ⟨m, hm⟩ := k1; exact DataW.trod_lt m _ _ _ hm
  obtain ⟨a1, len1, cap1, l1, e1, w1⟩ : ∃ a len cap l, Value.slice x1 y1 z1 = .slice a len cap ∧ InF W a len l := by
    obtain ⟨fuel, hf⟩ := h1
    exact open_inF hf
  cases e1
  obtain ⟨a2, rfl, rfl, rfl, w2⟩ := open_int Try.underlying3 (hval 2 3 v2 rfl rfl) h2
  obtain ⟨a3, rfl, rfl, rfl, w3⟩ := open_int Try.underlying5 (hval 3 5 v3 rfl rfl) h3
  clear hA0 hval0
  refine (torn_all a0 x1 y1 z1 l1 a2 a3 W w0 w1 w2 w3).mono fun e W' ⟨he, bel⟩ => ?_
  subst he
  exact ⟨_, rfl, _, _, _, [], _, [], hW', trodAll_mk1 (shut_bool Try.underlying4 _), (trodAll_cons_mk (shut_int Try.underlying5 w0) (trodAll_cons_mk (Below.trod diskTorn_laid (by kernel_rfl) (of_decide_eq_true (by kernel_rfl)) k1 bel lt1) (trodAll_cons_mk (shut_int Try.underlying3 w2) (trodAll_cons_mk (shut_int Try.underlying5 w3) trodAll_mk0)))), rfl, bel.frame _, fun h => by cases h⟩

theorem diskTorn_over : Rows.diskTornRow.holds Try.pinned (OpenSpec.ofChange Rows.diskTornSpec) :=
  OpenClaim.holds_of_wide 6 Try.f6 rfl rfl rfl rfl rfl rfl rfl ⟨rfl, rfl, rfl, rfl, rfl⟩ rfl rfl rfl rfl rfl (by kernel_rfl) Try.func6 (by kernel_rfl)
    (of_decide_eq_true (by kernel_rfl)) (by unfold Func.isWrapper; first | (rw [if_pos (by decide +kernel)]; kernel_rfl) | (rw [if_neg (by decide +kernel)]; exact ⟨rfl, rfl⟩))
    (fun os started H enc _ => diskTorn_lifted os started H enc)

/-- The statement. -/
theorem diskTorn_holds : Rows.DiskTornSaid := diskTorn_over
#print axioms diskTorn_holds
end Go.Proofs.Ytfpgdbmglpejcaa
