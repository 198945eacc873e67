/- Which states may come to an end, told backwards: the code's walk. -/
import Derived.Test.YthhgochnlbiaaaaMem
import Derived.Test.YthhgochnlbiaaaaLeads
namespace Go.Proofs.Ythhgochnlbiaaaa
open Go.ChangeShapes Go.WideShapes Go.ChangeAt Go.RowKit

def OkT (l : List St) : Prop := ∀ i, I64 (sAt l i).id ∧ I64 (sAt l i).next ∧ I64 (sAt l i).other ∧ 0 ≤ (sAt l i).kind ∧ (sAt l i).kind < 256
theorem ok_leads {l : List St} (h : OkT l) (i t : Nat) : I64 ((leadsL (sAt l i)).getD t 0) := by
  have z : I64 0 := by unfold I64; omega
  have hi := h i
  unfold leadsL
  split
  · simpa using z
  · split
    · match t with
      | 0 => exact hi.2.1
      | 1 => exact hi.2.2.1
      | t + 2 => simpa using z
    · match t with
      | 0 => exact hi.2.1
      | t + 1 => simpa using z
theorem lead_to {l : List St} {f : Int → Option Int} (hp : PF l l.length f) {k t : Nat} (hn : noneB l k = false) (ht : t < (leadsL (sAt l k)).length) :
    ∃ j : Nat, j < l.length ∧ f ((leadsL (sAt l k)).getD t 0) = some (j : Int) := by
  have hm : (leadsL (sAt l k)).getD t 0 ∈ leadsL (sAt l k) := by simp [ht]
  unfold noneB at hn
  rw [List.any_eq_false] at hn
  have := hn _ hm
  rw [← hp.has] at this
  simp only [Bool.not_eq_true', Bool.not_eq_false] at this
  obtain ⟨v, hv⟩ := Option.isSome_iff_exists.1 this
  obtain ⟨j, hj, rfl, _⟩ := hp.of _ _ hv
  exact ⟨j, hj, hv⟩
/-- Blocks from lo up to hi are nobody's row, and are as they were. -/
def Fence (lo hi n : Nat) (V : Nat → Value) : Prop := ∀ j, j < n → ∀ k, (V j).ownBlock = some k → k < lo ∨ hi ≤ k
def Band (lo hi : Nat) (w w' : World) : Prop := hi ≤ w'.heap.size ∧ ∀ k, lo ≤ k → k < hi → w'.heap[k]? = w.heap[k]?
theorem Band.refl (lo : Nat) (w : World) : Band lo w.heap.size w w := ⟨Nat.le_refl _, fun _ _ _ => rfl⟩
theorem Band.below {lo hi : Nat} {w w' w2 : World} (h : Band lo hi w w') (hb : Below w'.heap.size w' w2) : Band lo hi w w2 :=
  ⟨Nat.le_trans h.1 hb.size, fun k h1 h2 => (hb.block k (by have := h.1; omega)).trans (h.2 k h1 h2)⟩
theorem Band.grown {lo hi : Nat} {w w' w2 : World} {row : Option Nat} (h : Band lo hi w w') (hg : w'.grownBy w2 row) (hr : ∀ k, row = some k → k < lo ∨ hi ≤ k) : Band lo hi w w2 :=
  ⟨Nat.le_trans h.1 hg.size, fun k h1 h2 => (hg.block k (by have := h.1; omega) (fun e => by have := hr k e.symm; omega)).trans (h.2 k h1 h2)⟩
theorem Band.set {lo hi b o : Nat} {v : Value} {w w' : World} (h : Band lo hi w w') (hb : b < lo) : Band lo hi w (w'.setCell ⟨b, o, none⟩ v) :=
  ⟨by simpa [World.setCell] using h.1, fun k h1 h2 => (Below.heap_setCell _ _ _ _ (fun e => by have : k = b := e; omega)).trans (h.2 k h1 h2)⟩
theorem Fence.push {lo hi n j m c : Nat} {V : Nat → Value} {ao : Option Addr} {w : World} (h : Fence lo hi n V) (hj : j < n) (hw : hi ≤ w.heap.size)
    (hat : (Value.slice ao m c).ownBlock = (V j).ownBlock ∨ (Value.slice ao m c).ownBlock = some w.heap.size) : Fence lo hi n (updN V j (.slice ao m c)) := by
  intro i hi k hk
  unfold updN at hk
  split at hk
  · rcases hat with ha | ha
    · exact h j hj k (by rw [← ha]; exact hk)
    · rw [hk] at ha; simp at ha; omega
  · exact h i hi k hk
theorem ME.fence {W w : World} {n bF bE : Nat} {V : Nat → Value} {F : Nat → List Int} {tv : Value} {T : List Int} {e : Nat → Bool} (h : ME W w n bF bE V F tv T e) (hi : Nat) : Fence w.heap.size hi n V :=
  fun j hj k hk => .inl (World.ownsRow.lt (h.rows j hj) k hk).2
theorem info32 : (Try.prog.info? 32).map (fun i => (i.zero, i.size, i.bytes)) = some (some (.slice none 0 0), 1, 24) := by kernel_rfl
theorem info4 : (Try.prog.info? 4).map (fun i => (i.zero, i.size, i.bytes)) = some (some (.bool false), 1, 1) := by kernel_rfl
theorem ME.made (w : World) (n : Nat) : ME w ((w.alloc (.cells (madeCells #[.slice none 0 0] n) 32)).alloc (.cells (madeCells #[.bool false] n) 4)) n w.heap.size (w.alloc (.cells (madeCells #[.slice none 0 0] n) 32)).heap.size
    (fun _ => .slice none 0 0) (fun _ => []) (.slice none 0 0) [] (fun _ => false) := by
  refine ⟨sq (bel1 _ _) (bel1 _ _), Nat.le_refl _, (bel1 _ _).size, (World.rowIs_made w _ n 32).alloc _, World.rowIs_made _ _ n 4, fun j _ => I.Row.nil _ _, I.Row.nil _ _, fun i j _ _ _ k hk => (by cases hk), fun j _ k hk => (by cases hk)⟩
set_option maxHeartbeats 8000000 in
theorem mayEnd19 (ao : Option Addr) (len cap : Nat) (l : List St) (bm nm : Nat) (f : Int → Option Int) (w : World) (h : SG w ao len cap l) (hmp : MI w bm nm f) (hs : len ≤ 1000) (hok : OkT l) (hp : PF l l.length f) (ho : Once l) (hn : ∀ k, k < l.length → noneB l k = false) :
    Calls Try.prog 19 #[.slice ao len cap, .map (some bm)] w fun e w' => ∃ b, e = .returned (.slice (some ⟨b, 0, none⟩) len len) ∧ w'.rowIs b 4 len (fun i => .bool (endF l (sAt l i).id)) ∧ Below w.heap.size w w' := by
  have hm : len ≤ 9223372036854775807 := by omega
  have HQ := hid h.leq
  have HG := hid h
  have HM := hid hmp
  have HOK := hid hok
  have HP := hid hp
  have HO := hid ho
  have HN := hid hn
  have hk1 := run_make_row' (P := Try.prog) 72 32 (.slice none 0 0) 24 Try.underlying72 info32 rfl .i64 .i64 len (by omega) (by omega)
  have hk2 := run_make_row' (P := Try.prog) 56 4 (.bool false) 1 Try.underlying56 info4 rfl .i64 .i64 len (by omega) (by omega)
  clear h hmp hok hp ho hn
  have m0 := ME.made w len
  obtain ⟨bE, hbE⟩ : ∃ b, (w.alloc (.cells (madeCells #[.slice none 0 0] len) 32)).heap.size = b := ⟨_, rfl⟩
  obtain ⟨bF, hbF⟩ : ∃ b, w.heap.size = b := ⟨_, rfl⟩
  rw [hbE, hbF] at m0
  have M0 := hid m0
  clear m0
  go_enter Try.func19, Try.ntmps19
  go_wp2
  clear hbE hbF hk1 hk2
  go_loopw [7, 24] (fun tv i wr => ∃ (k : Nat) (V : Nat → Value) (F : Nat → List Int) (a2 : Option Addr) (n2 c2 : Nat) (T : List Int) (e : Nat → Bool), k ≤ len ∧ i = .int .i64 (k : Int) ∧ tv = .slice a2 n2 c2 ∧ ME w wr len bF bE V F (.slice a2 n2 c2) T e ∧ FI l f k 0 F ∧ TI l T e ∧ Zs l k T ∧ Und k T) (fun _ i _ => len - (intOf i).toNat)
  case atStart => exact ⟨0, _, _, none, 0, 0, [], _, by omega, rfl, rfl, M0.out, FI.none_ l f, TI.none_ l, fun _ h => by omega, fun _ h => by cases h⟩
  case round =>
    obtain ⟨k, V, F, a2, n2, c2, T, e, hk, rfl, rfl, me, fi, ti, zs, un⟩ := hrel
    have ME1 := hid me
    have FI1 := hid fi
    have TI1 := hid ti
    have ZS1 := hid zs
    have UN1 := hid un
    clear me fi ti zs un M0
    by_cases hlt : k < len
    · have hkl : k < l.length := by rw [HQ.out]; exact hlt
      have hget := sAt_get hkl
      obtain ⟨r, hr⟩ : ∃ r, sAt l k = r := ⟨_, rfl⟩
      rw [hr] at hget
      obtain ⟨b, o, rfl, hc⟩ := (HG.out.below ME1.out.bel).at hget
      have HC := hid hc
      have HR := hid hr
      have HKL := hid hkl
      clear hc hget hr hkl
      go_wp2_with (first | (go_at_call 18; have kill := V4.out; refine (leads18 r _).mono ?_; rintro e8 w5 ⟨a5, c5, n5, rfl, q1, q2, q3, q4, q5, q6, l5⟩; have L9 := hid (sq L5.out l5); have V5 := hid (V4.out.below l5); have Q1 := hid q1; have Q2 := hid q2; have Q5 := hid q5; have Q6 : Hid (∀ a, a5 = some a → wr.heap.size ≤ a.block) := fun a e => Nat.le_trans L5.out.size (q6 a e); clear q1 q2 q5 q6 l5 kill V4 L5) | (have kill := V4.out; refine ld34 V4.out rfl _ rfl rfl ?_) | (have kill := V3.out; refine st34 (r := r) (w0 := wr) V3.out L3.out hb3 rfl _ _ rfl rfl rfl ?_; intro w4 v4 l4; have V4 := hid v4; have L5 := hid l4; clear v4 l4 kill V3 L3) | (refine ldS HC.out rfl _ rfl rfl ?_) | (refine al34 rfl rfl ?_; intro b3 w3 hb3 v3 l3; have V3 := hid v3; have L3 := hid l3; clear v3 l3))
      obtain ⟨lo, hlo⟩ : ∃ lo, wr.heap.size = lo := ⟨_, rfl⟩
      rw [hlo] at hb3 Q6
      have HFL : Hid (bF < lo) := by unfold Hid; rw [← hlo]; exact ME1.out.rf.lt
      have HLO := hid hlo
      clear hlo
      go_loopw [32] (fun i wx => ∃ (t : Nat) (V2 : Nat → Value) (F2 : Nat → List Int), t ≤ n5 ∧ i = .int .i64 (t : Int) ∧ ME w wx len bF bE V2 F2 (.slice a2 n2 c2) T e ∧ FI l f k t F2 ∧ Fence lo w5.heap.size len V2 ∧ Band lo w5.heap.size w5 wx) (fun i _ => n5 - (intOf i).toNat)
      case atStart => exact ⟨0, V, F, by omega, rfl, ME1.out.below L9.out, FI1.out, by rw [← HLO.out]; exact ME1.out.fence _, Band.refl _ _⟩
      case round =>
        obtain ⟨t, V2, F2, ht, rfl, me, fi, fe, ba⟩ := hrel
        have ME2 := hid me
        have FI2 := hid fi
        have FE2 := hid fe
        have BA2 := hid ba
        clear me fi fe ba
        by_cases hlt2 : t < n5
        · have htl : t < (leadsL r).length := by rw [Q1.out]; exact hlt2
          obtain ⟨y, hy⟩ : ∃ y, (leadsL r).getD t 0 = y := ⟨_, rfl⟩
          have HY : Hid (I64 y) := by unfold Hid; rw [← hy, ← HR.out]; exact ok_leads HOK.out k t
          obtain ⟨j, hj, hfj⟩ := lead_to HP.out (HN.out k HKL.out) (t := t) (by rw [HR.out]; exact htl)
          rw [HR.out, hy] at hfj
          rw [HQ.out] at hj
          have HJ : Hid ((f y).getD 0 = (j : Int)) := by unfold Hid; rw [hfj]; rfl
          have HFJ := hid hfj
          have HTL := hid htl
          have HYY := hid hy
          obtain ⟨bl, ol, rfl⟩ : ∃ bl ol, a5 = some ⟨bl, ol, none⟩ := by
            rcases Q5.out with h0 | ⟨bl, ol, e, _⟩
            · rw [h0] at htl; simp at htl
            · exact ⟨bl, ol, e⟩
          have c5 : wr.cell? ⟨bl, ol + t, none⟩ = some (.int .i64 y) := by
            rcases Q5.out with h0 | ⟨bl', ol', e, hcc⟩
            · rw [h0] at htl; simp at htl
            · cases e
              have h1 := hcc t htl
              rw [hy] at h1
              have h2 := World.block_lt_of_cell? w5 _ h1
              rw [World.cell?_of_block (w := w5) (a := ⟨bl, ol + t, none⟩) (BA2.out.2 bl (Q6.out _ rfl) h2)]
              exact h1
          obtain ⟨a3, c3, hV, hV2, hV3, hV4⟩ := (ME2.out.rows j hj).form
          obtain ⟨n3, hn3⟩ : ∃ n3, (F2 j).length = n3 := ⟨_, rfl⟩
          obtain ⟨m3, hm3⟩ : ∃ m3, n3 + 1 = m3 := ⟨_, rfl⟩
          have h3s : m3 ≤ 1000000 := by have := FI2.out.len j; omega
          rw [hn3] at hV hV2 hV3
          have HV := hid hV
          have c6 := ME2.out.rf.cell hj
          rw [hV] at c6
          have M3 := hid (ME2.out.below (bel1 wr (.cells #[.int .i64 (k : Int)] 3)))
          have R3 : Hid (I.Row w.heap.size (wr.alloc (.cells #[.int .i64 (k : Int)] 3)) (.slice a3 n3 c3) n3 (F2 j)) := by
            have := M3.out.rows j hj
            rw [hV, hn3] at this; exact this
          have HM2 := hid (HM.out.below (ME2.out.bel))
          have HNB : Hid ((Value.slice a3 n3 c3).ownBlock ≠ some bF) := by
            have := row_off (ME2.out.rows j hj) ME2.out.rf (by decide)
            rw [hV] at this; exact this
          clear hfj htl hy hV hn3
          go_wp2_with (first | (at_lookup; refine lookI _ _ rfl (wanted_none' rfl _) HM2.out y rfl rfl HY.out ?_; rw [HJ.out]) | (at_builtin; refine app1 (bx := wr.heap.size) R3.out (cell_of_head (heap_alloc_new wr _) 0) M3.out.bel.size hm3 h3s rfl _ _ rfl rfl rfl ?_; intro a7 c7 w7 r7 g7 t7; have q7 := M3.out.mid g7 HNB.out; have c8 := q7.cell hj; have f8 := q7.frozen j; have M4 := hid (M3.out.push hj r7 (by rw [HV.out]; exact g7) (by rw [HV.out]; exact t7)); have R7 := hid r7; have G7 := hid g7; have T7 := hid t7; clear r7 g7 t7 q7))
          go_roundw
          case rel => exact ⟨t + 1, _, _, by omega, by go_num, M4.out, FI2.out.push HKL.out (by rw [HR.out]; exact HTL.out) (by rw [HR.out]; exact HYY.out) HFJ.out, FE2.out.push hj (Nat.le_trans BA2.out.1 (bel1 wr (.cells #[.int .i64 (k : Int)] 3)).size) (by rw [HV.out]; exact T7.out), ((BA2.out.below (bel1 _ _)).grown G7.out (fun q hq => FE2.out j hj q (by rw [HV.out]; exact hq))).set HFL.out⟩
          case measure => simp [intOf]; omega
        · have ht2 : t = n5 := by omega
          have hv5 := V5.out
          have hv6 : RV wr b3 r := hv5.kept (BA2.out.2 b3 hb3 hv5.lt)
          have c3 := hv6.cell 1 (v := .int .u8 r.kind) rfl
          have FI3 : Hid (FI l f (k + 1) 0 F2) := FI2.out.next (by rw [HR.out, Q1.out, ht2])
          have hce := ME2.out.re.cell hlt
          have hfe := ME2.out.re.frozen k
          clear hv5 hv6 FI2
          by_cases h9 : r.kind = 90
          · have e1 : (r.kind == 90) = true := by simpa using h9
            have HE : Hid (e k = false) := by
              unfold Hid
              cases e2 : e k with
              | false => rfl
              | true => have := UN1.out _ ((TI1.out.marks k).1 e2); omega
            have TI2 := hid (TI1.out.tell HKL.out (by rw [← HR.out] at h9; exact .z (sAt_mem HKL.out) h9) HE.out)
            have M5 := hid ((ME2.out.mark k).below (bel1 (wr.setCell ⟨bE, k, none⟩ (.bool true)) (.cells #[.int .i64 (k : Int)] 3)))
            have hsz : (wr.setCell ⟨bE, k, none⟩ (.bool true)).heap.size = wr.heap.size := by simp [World.setCell]
            have C5 : Hid (((wr.setCell ⟨bE, k, none⟩ (.bool true)).alloc (.cells #[.int .i64 (k : Int)] 3)).cell? ⟨wr.heap.size, 0, none⟩ = some (.int .i64 (k : Int))) := by
              unfold Hid; rw [← hsz]; exact cell_of_head (heap_alloc_new _ _) 0
            have R5 : Hid (I.Row w.heap.size ((wr.setCell ⟨bE, k, none⟩ (.bool true)).alloc (.cells #[.int .i64 (k : Int)] 3)) (.slice a2 n2 c2) n2 T) := by
              have := M5.out.told
              have hl := this.len
              obtain ⟨a9, c9, e9, _⟩ := this.form
              cases e9
              exact this
            obtain ⟨m2, hm2⟩ : ∃ m2, n2 + 1 = m2 := ⟨_, rfl⟩
            have h2s : m2 ≤ 1000000 := by have := TI1.out.bound; have := R5.out.len; have := HQ.out; omega
            have hzs : Hid (Zs l (k + 1) (T ++ [(k : Int)])) := fun i hi h => by
              rcases Nat.lt_or_ge i k with h2 | h2
              · exact List.mem_append_left _ (ZS1.out i h2 h)
              · have : i = k := by omega
                subst this; simp
            have hun : Hid (Und (k + 1) (T ++ [(k : Int)])) := fun x hx => by
              rcases List.mem_append.1 hx with h2 | h2
              · have := UN1.out x h2; omega
              · simp at h2; omega
            clear h9 hsz
            go_wp2_with (at_builtin; refine app1 (bx := wr.heap.size) R5.out C5.out M5.out.bel.size hm2 h2s rfl _ _ rfl rfl rfl ?_; intro a7 c7 w7 r7 g7 t7; have M6 := hid (M5.out.tell r7 g7 t7); clear r7 g7 t7)
            go_roundw
            case rel => exact ⟨k + 1, V2, F2, a7, m2, c7, T ++ [(k : Int)], updN e k true, by omega, by go_num, rfl, M6.out, FI3.out, TI2.out, hzs.out, hun.out⟩
            case measure => simp [intOf]; omega
          · have e1 : (r.kind == 90) = false := by simpa using h9
            have hzs : Hid (Zs l (k + 1) T) := fun i hi h => by
              rcases Nat.lt_or_ge i k with h2 | h2
              · exact ZS1.out i h2 h
              · have : i = k := by omega
                subst this; rw [HR.out] at h; exact absurd h h9
            have hun : Hid (Und (k + 1) T) := fun x hx => by have := UN1.out x hx; omega
            clear h9
            go_wp2
            go_roundw
            case rel => exact ⟨k + 1, V2, F2, a2, n2, c2, T, e, by omega, by go_num, rfl, ME2.out, FI3.out, TI1.out, hzs.out, hun.out⟩
            case measure => simp [intOf]; omega
    · have hk2 : k = len := by omega
      have hk3 : k = l.length := by rw [HQ.out]; omega
      have FI2 : Hid (FI l f l.length 0 F) := by unfold Hid; rw [← hk3]; exact FI1.out
      have ZS2 : Hid (Zs l l.length T) := by unfold Hid; rw [← hk3]; exact ZS1.out
      have ME2 := hid ME1.out
      have TI2 := hid TI1.out
      clear UN1 FI1 ZS1 hk3 ME1 TI1
      obtain rfl : len = k := hk2.symm
      go_wp2
      go_loopw [7, 13] (fun tv i wx => ∃ (u : Nat) (a3 : Option Addr) (n3 c3 : Nat) (T : List Int) (e : Nat → Bool), u ≤ n3 ∧ i = .int .i64 (u : Int) ∧ tv = .slice a3 n3 c3 ∧ ME w wx len bF bE V F (.slice a3 n3 c3) T e ∧ TI l T e ∧ Zs l l.length T ∧ Shut F T u 0) (fun _ i _ => len - (intOf i).toNat)
      case atStart => exact ⟨0, a2, n2, c2, T, e, by omega, rfl, rfl, ME2.out, TI2.out, ZS2.out, Shut.none_ F T⟩
      case round =>
        obtain ⟨u, a3, n3, c3, T, e, hu, rfl, rfl, me, ti, zs, sh⟩ := hrel
        have ME3 := hid me
        have TI3 := hid ti
        have ZS3 := hid zs
        have SH3 := hid sh
        clear me ti zs sh ME2 TI2 ZS2
        have N3 : Hid (T.length = n3) := by
          have := ME3.out.told
          have h2 := this.len
          obtain ⟨a9, c9, e9, _⟩ := this.form
          cases e9; rfl
        have hn3 : n3 ≤ len := by have := TI3.out.bound; have := N3.out; have := HQ.out; omega
        by_cases hlt : u < n3
        · have hut : u < T.length := by rw [N3.out]; exact hlt
          obtain ⟨j, hj, hjx, hje⟩ := TI3.out.sound (T.getD u 0) (by simp [hut])
          have HJX := hid hjx
          have HJE := hid hje
          have HJL := hid hj
          have HUT := hid hut
          rw [HQ.out] at hj
          obtain ⟨bt, ot, rfl, hct⟩ : ∃ bt ot, a3 = some ⟨bt, ot, none⟩ ∧ wr.cell? ⟨bt, ot + u, none⟩ = some (.int .i64 (j : Int)) := by
            have h1 := ME3.out.told
            rw [N3.out] at h1
            rcases h1.at with h0 | ⟨bt, ot, e9, hcc⟩
            · rw [h0] at hut; simp at hut
            · have := hcc u hut
              rw [hjx] at this
              exact ⟨bt, ot, e9, this⟩
          obtain ⟨a4, c4, hV, hV2, hV3, hV4⟩ := (ME3.out.rows j hj).form
          obtain ⟨n4, hn4⟩ : ∃ n4, (F j).length = n4 := ⟨_, rfl⟩
          rw [hn4] at hV hV2 hV3
          have HV := hid hV
          have HN4 := hid hn4
          have c6 := ME3.out.rf.cell hj
          rw [hV] at c6
          clear hjx hje hut hV hn4
          go_wp2
          go_loopw [7, 75] (fun tv i wx => ∃ (q : Nat) (a5 : Option Addr) (n5 c5 : Nat) (T : List Int) (e : Nat → Bool), q ≤ n4 ∧ i = .int .i64 (q : Int) ∧ tv = .slice a5 n5 c5 ∧ ME w wx len bF bE V F (.slice a5 n5 c5) T e ∧ TI l T e ∧ Zs l l.length T ∧ Shut F T u q ∧ T.getD u 0 = (j : Int) ∧ u < T.length) (fun _ i _ => n4 - (intOf i).toNat)
          case atStart => exact ⟨0, _, _, _, T, e, by omega, rfl, rfl, ME3.out, TI3.out, ZS3.out, SH3.out, HJX.out, HUT.out⟩
          case round =>
            obtain ⟨q, a5, n5, c5, T, e, hq, rfl, rfl, me, ti, zs, sh, hjx, hut⟩ := hrel
            have ME4 := hid me
            have TI4 := hid ti
            have ZS4 := hid zs
            have SH4 := hid sh
            have HJ4 := hid hjx
            have HU4 := hid hut
            clear me ti zs sh hjx hut ME3 TI3 ZS3 SH3 HJX HUT N3 hct c6
            have N4 : Hid (T.length = n5) := by
              have := ME4.out.told
              have h2 := this.len
              obtain ⟨a9, c9, e9, _⟩ := this.form
              cases e9; rfl
            by_cases hlt2 : q < n4
            · have hql : q < (F j).length := by rw [HN4.out]; exact hlt2
              obtain ⟨i, y, hi, hix, hiy, hfy⟩ := FI2.out.of j ((F j).getD q 0) (by simp [hql])
              have HIX := hid hix
              have HIL := hid hi
              have HIE := hid (ends_lead HP.out hi hiy hfy HJE.out)
              have hil : i < len := by rw [← HQ.out]; exact hi
              obtain ⟨bq, oq, hbq, hcq⟩ : ∃ bq oq, a4 = some ⟨bq, oq, none⟩ ∧ wr.cell? ⟨bq, oq + q, none⟩ = some (.int .i64 (i : Int)) := by
                have h1 := ME4.out.rows j hj
                rw [HV.out, HN4.out] at h1
                rcases h1.at with h0 | ⟨bt, ot, e9, hcc⟩
                · rw [h0] at hql; simp at hql
                · have := hcc q hql
                  rw [hix] at this
                  exact ⟨bt, ot, e9, this⟩
              have ce := ME4.out.re.cell hil
              have fe := ME4.out.re.frozen i
              clear hi hix hiy hfy hql
              subst hbq
              cases he : e i
              · rw [he] at ce
                have HE := hid he
                have TI5 := hid (TI4.out.tell HIL.out HIE.out HE.out)
                have M5 := hid ((ME4.out.mark i).below (bel1 (wr.setCell ⟨bE, i, none⟩ (.bool true)) (.cells #[.int .i64 (i : Int)] 3)))
                have hsz : (wr.setCell ⟨bE, i, none⟩ (.bool true)).heap.size = wr.heap.size := by simp [World.setCell]
                have C5 : Hid (((wr.setCell ⟨bE, i, none⟩ (.bool true)).alloc (.cells #[.int .i64 (i : Int)] 3)).cell? ⟨wr.heap.size, 0, none⟩ = some (.int .i64 (i : Int))) := by
                  unfold Hid; rw [← hsz]; exact cell_of_head (heap_alloc_new _ _) 0
                have R5 : Hid (I.Row w.heap.size ((wr.setCell ⟨bE, i, none⟩ (.bool true)).alloc (.cells #[.int .i64 (i : Int)] 3)) (.slice a5 n5 c5) n5 T) := by
                  have := M5.out.told
                  rw [N4.out] at this
                  exact this
                obtain ⟨m2, hm2⟩ : ∃ m2, n5 + 1 = m2 := ⟨_, rfl⟩
                have h2s : m2 ≤ 1000000 := by have := TI4.out.bound; have := N4.out; have := HQ.out; omega
                have hzs : Hid (Zs l l.length (T ++ [(i : Int)])) := fun p hp h => List.mem_append_left _ (ZS4.out p hp h)
                have hsh : Hid (Shut F (T ++ [(i : Int)]) u (q + 1)) := (SH4.out.tell HU4.out _).more (by
                  rw [getD_app HU4.out, HJ4.out]
                  have := HIX.out
                  simp only [Int.toNat_natCast]
                  rw [this]; simp)
                have hj5 : Hid ((T ++ [(i : Int)]).getD u 0 = (j : Int)) := by unfold Hid; rw [getD_app HU4.out]; exact HJ4.out
                have hu5 : Hid (u < (T ++ [(i : Int)]).length) := by unfold Hid; have := HU4.out; simp; omega
                clear he hsz
                go_wp2_with (at_builtin; refine app1 (bx := wr.heap.size) R5.out C5.out M5.out.bel.size hm2 h2s rfl _ _ rfl rfl rfl ?_; intro a7 c7 w7 r7 g7 t7; have M6 := hid (M5.out.tell r7 g7 t7); clear r7 g7 t7)
                go_roundw
                case rel => exact ⟨q + 1, a7, m2, c7, _, _, by omega, by go_num, rfl, M6.out, TI5.out, hzs.out, hsh.out, hj5.out, hu5.out⟩
                case measure => simp [intOf]; omega
              · rw [he] at ce
                have hsh : Hid (Shut F T u (q + 1)) := SH4.out.more (by
                  rw [HJ4.out]
                  have := HIX.out
                  simp only [Int.toNat_natCast]
                  rw [this]; exact (TI4.out.marks i).1 he)
                clear he
                go_wp2
                go_roundw
                case rel => exact ⟨q + 1, a5, n5, c5, T, e, by omega, by go_num, rfl, ME4.out, TI4.out, ZS4.out, hsh.out, HJ4.out, HU4.out⟩
                case measure => simp [intOf]; omega
            · have hsh : Hid (Shut F T (u + 1) 0) := SH4.out.next (by rw [HJ4.out]; simp only [Int.toNat_natCast]; rw [HN4.out]; omega)
              have hu6 : u < n5 := by rw [← N4.out]; exact HU4.out
              have hn5 : n5 ≤ len := by have := TI4.out.bound; have := N4.out; have := HQ.out; omega
              go_wp2
              go_roundw
              case rel => exact ⟨u + 1, a5, n5, c5, T, e, by omega, by go_num, rfl, ME4.out, TI4.out, ZS4.out, hsh.out⟩
              case measure => simp [intOf]; omega
        · have hun : u = n3 := by omega
          have hres : Hid (wr.rowIs bE 4 len (fun i => .bool (endF l (sAt l i).id))) := ME3.out.re.congr fun i hi => by
            rw [marks_end HO.out HP.out FI2.out TI3.out ZS3.out (by rw [N3.out, ← hun]; exact SH3.out) i (by rw [HQ.out]; exact hi)]
          go_wp2
          go_ret
          exact ⟨bE, rfl, hres.out, ME3.out.bel⟩
end Go.Proofs.Ythhgochnlbiaaaa
