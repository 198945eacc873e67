/- What a crash leaves, by the program and by the document's. -/
import Derived.Test.YthhgnflkplpklabDSync
namespace Go.Proofs.Ythhgnflkplpklab.Dsc
set_option maxRecDepth 20000
open Go.ChangeShapes Go.WideShapes Go.ChangeAt Go.RowKit

/-- What one write that waits comes to in a crash. -/
def crash1 (bs : List Bool) (t : Nat) (lost : Int) (s : List (List Int)) (i : Nat) (x : Nat × List Int) : List (List Int) :=
  if keptB bs i then s.set x.1 x.2 else if (i : Int) = lost then s.set x.1 (lay t x.2 (s.getD x.1 [])) else s
/-- The first k of them. -/
def crash (bs : List Bool) (t : Nat) (lost : Int) (s : List (List Int)) (l : List (Nat × List Int)) : Nat → List (List Int)
  | 0 => s
  | k + 1 => crash1 bs t lost (crash bs t lost s l k) k (l.getD k (0, []))
def tornN (torn : Int) : Nat := (min (max torn 0) 64).toNat
theorem tornN_le (torn : Int) : tornN torn ≤ 64 := by unfold tornN; omega
theorem tornN_int (torn : Int) : ((tornN torn : Nat) : Int) = min (max torn 0) 64 := by unfold tornN; omega
def reopD (d : Dk) (bs : List Bool) (torn : Int) : Dk := { secs := crash bs (tornN torn) (lostZ bs d.waits.length) d.secs d.waits d.waits.length, waits := [], left := 0, down := false }
theorem crash_next {bs : List Bool} {t : Nat} {lost : Int} {s : List (List Int)} {l : List (Nat × List Int)} {k : Nat} {x : Nat × List Int} (hx : l[k]? = some x) :
    crash bs t lost s l (k + 1) = crash1 bs t lost (crash bs t lost s l k) k x := by
  have : l.getD k (0, []) = x := by simp [hx]
  rw [crash, this]
theorem crash_len (bs : List Bool) (t : Nat) (lost : Int) (s : List (List Int)) (l : List (Nat × List Int)) : ∀ k, (crash bs t lost s l k).length = s.length
  | 0 => rfl
  | k + 1 => by
    have := crash_len bs t lost s l k
    rw [crash, crash1]
    split
    · simpa using this
    · split
      · simpa using this
      · exact this
theorem row_kept {α : Type} {mk : α → Value} {w w' : World} {ao : Option Addr} {l : List α} {F : Nat → Prop} (h : RowOf mk w ao l) (hf : l ≠ [] → ∀ a, ao = some a → a.block < w.heap.size ∧ ¬ F a.block) (hT : Turned F w w') : RowOf mk w' ao l := by
  by_cases h0 : l = []
  · exact .inl h0
  have hf := hf h0
  rcases h with h | ⟨b, o, rfl, h⟩
  · exact .inl h
  · obtain ⟨h1, h2⟩ := hf _ rfl
    refine .inr ⟨b, o, rfl, fun i x hx => ?_⟩
    rw [World.cell?_of_block (a := ⟨b, o + i, none⟩) (hT.block b h1 h2)]; exact h i x hx
theorem row_take {w : World} {b o k : Nat} {s : List Int} (h : w.rangeAt b o (by8 s)) : RowOf (Value.int .u8) w (some ⟨b, o, none⟩) (s.take k) := by
  refine .inr ⟨b, o, rfl, fun i x hx => h i _ ?_⟩
  rw [List.getElem?_take] at hx
  split at hx
  · simp [hx]
  · cases hx
theorem Dat.end3 {t : Ty} (ht : t.Far) {w : World} {p : Nat} {sv wv : Value} {d : Dk} (h : Dat t w p sv wv d) :
    Dat t (((w.setCell ⟨p, 1, none⟩ (.slice none 0 0)).setCell ⟨p, 2, none⟩ (.int .i64 0)).setCell ⟨p, 3, none⟩ (.bool false)) p sv (.slice none 0 0) { d with waits := [], left := 0, down := false } := by
  have h1 := h.noWait ht
  have h2 := h1.put ht 2 (.int .i64 0) { d with waits := [], left := 0 } rfl rfl rfl (h1.ok.withLeft 0 d.down (by omega) (by omega))
  exact h2.put ht 3 (.bool false) { d with waits := [], left := 0, down := false } rfl rfl rfl (h2.ok.withLeft 0 false (by omega) (by omega))
theorem und49 : Try.prog.underlying 69 = some (.array 64 5) := u49
theorem slice58 (w : World) (b o tn : Nat) (h : tn ≤ 64) : (Instr.sliceAt 70 (.pointer (some ⟨b, o, none⟩)) none (some (.int .i64 (tn : Int))) none).run Try.prog w = .ok (.slice (some ⟨b, o, none⟩) tn 64) w := by
  unfold Instr.sliceAt
  simp [run_underlying u58, Instr.sureAddr, Instr.sliceBounds, go_sem]
  intro h'; omega
theorem slice49 (w : World) (b o tn : Nat) (h : tn ≤ 64) : (Instr.sliceAt 69 (.pointer (some ⟨b, o, none⟩)) none (some (.int .i64 (tn : Int))) none).run Try.prog w = .ok (.slice (some ⟨b, o, none⟩) tn 64) w := by
  unfold Instr.sliceAt
  simp [run_underlying u49, Instr.sureAddr, Instr.sliceBounds, go_sem]
  intro h'; omega
theorem run_mx (ρ : Operand → Value) (o : Oper) (x y : Operand) (a b : Int) (ho : o.op = .call { callee := .builtin .max, args := #[x, y], argTypes := #[3, 3] }) (hx : ρ x = .int .i64 a) (hy : ρ y = .int .i64 b) (w : World) :
    (execOp ρ o).run Try.prog w = .ok (.value (.int .i64 (max a b))) w := by
  unfold execOp
  simp only [ho, resolve, invoke, builtin, Sem.run_bind, Sem.run_pure, Result.andThen_ok, List.map_toArray, List.map_cons, List.map_nil, hx, hy]
  by_cases h : a < b
  · have e : max a b = b := by omega
    rw [e]
    simp [go_sem, h]
  · have e : max a b = a := by omega
    rw [e]
    simp [go_sem, h]
theorem run_mn (ρ : Operand → Value) (o : Oper) (x y : Operand) (a b : Int) (ho : o.op = .call { callee := .builtin .min, args := #[x, y], argTypes := #[3, 3] }) (hx : ρ x = .int .i64 a) (hy : ρ y = .int .i64 b) (w : World) :
    (execOp ρ o).run Try.prog w = .ok (.value (.int .i64 (min a b))) w := by
  unfold execOp
  simp only [ho, resolve, invoke, builtin, Sem.run_bind, Sem.run_pure, Result.andThen_ok, List.map_toArray, List.map_cons, List.map_nil, hx, hy]
  by_cases h : b < a
  · have e : min a b = b := by omega
    rw [e]
    simp [go_sem, h]
  · have e : min a b = a := by omega
    rw [e]
    simp [go_sem, h]
theorem row_all {w : World} {b o : Nat} {s : List Int} (h : w.rangeAt b o (by8 s)) : RowOf (Value.int .u8) w (some ⟨b, o, none⟩) s := .inr ⟨b, o, rfl, fun i x hx => h i _ (by simp [hx])⟩
theorem lost_not (bs : List Bool) (k : Nat) : ∀ m, (k : Int) = lostZ bs m → keptB bs k = false
  | 0, h => by simp [lostZ] at h
  | m + 1, h => by
    unfold lostZ at h
    split at h
    · exact lost_not bs k m h
    · have : k = m := by omega
      subst this; simp_all

set_option maxHeartbeats 8000000 in
theorem reopen_ok (p : Nat) (sv wv : Value) (F : Nat → Prop) (d : Dk) (w : World) (ao : Option Addr) (kcap : Nat) (bs : List Bool) (torn : Int) (h : Dat tc w p sv wv d) (hF : ∀ k, Feet p sv wv k → F k)
    (hr : RowOf Value.bool w ao bs) (hfar : bs ≠ [] → ∀ a, ao = some a → a.block < w.heap.size ∧ ¬ F a.block) :
    Calls Try.prog 10 #[.pointer (some ⟨p, 0, none⟩), .slice ao bs.length kcap, .int .i64 torn] w fun e w' => e = .returned (.tuple #[]) ∧ Turned F w w' ∧ Dat tc w' p sv (.slice none 0 0) (reopD d bs torn) := by
  have H := hid h
  have HF := hid hF
  have HR := hid hr
  have HFAR := hid hfar
  obtain ⟨a, cap, rfl, hmax⟩ := sv_form h.waits
  have c1 := h.c1
  have etn := tornN_int torn
  have htn := tornN_le torn
  have HC : Hid (reopD d bs torn = { secs := crash bs (tornN torn) (lostZ bs d.waits.length) d.secs d.waits d.waits.length, waits := [], left := 0, down := false }) := rfl
  generalize tornN torn = tn at *
  have ETN := hid etn
  have HZ := hid (lostZ_lt bs d.waits.length)
  generalize hzz : lostZ bs d.waits.length = z at *
  have HZZ := hid hzz
  clear h hF hr hfar etn hzz
  go_enter Try.func10, Try.ntmps10
  go_wp2_with (first | (go_at_call 14; refine (within_any _ _ _).mono ?_; rintro e w1 ⟨rfl, rfl⟩; rw [← ETN.out]) | (go_at_call 23; refine (lastLost_any _ _ _ _ _ _ _ _ H.out HR.out).mono ?_; rintro e w1 ⟨rfl, rfl⟩; rw [HZZ.out]))
  go_loopw [19] (fun i wr => ∃ k : Nat, k ≤ d.waits.length ∧ i = .int .i64 (k : Int) ∧ Dat tc wr p sv (.slice a d.waits.length cap) { d with secs := crash bs tn z d.secs d.waits k } ∧ Turned F w wr) (fun i _ => d.waits.length - (intOf i).toNat)
  case atStart => exact ⟨0, by omega, rfl, H.out, Turned.refl _ _⟩
  case round =>
    obtain ⟨k, hkm, rfl, hD, hT⟩ := hrel
    have HD := hid hD
    have HT := hid hT
    have c1' := hD.c1
    have hp := hD.plt
    have HRK := hid (row_kept HR.out HFAR.out hT)
    clear hD hT c1
    by_cases hlt : k < d.waits.length
    · have hx : d.waits[k]? = some d.waits[k] := by simp [hlt]
      generalize d.waits[k] = x at *
      obtain ⟨hxn, hxs⟩ := HD.out.ok.waits x (List.mem_of_getElem? hx)
      obtain ⟨g, scap, rfl⟩ := HD.out.secForm (by omega)
      obtain ⟨gw, hgw⟩ : ∃ gw, a = some ⟨gw, 0, none⟩ := by
        obtain ⟨gw, cap', hv⟩ := HD.out.waitForm (show 0 < d.waits.length by omega)
        cases hv; exact ⟨gw, rfl⟩
      subst hgw
      have HS := hid hxs
      have HNX := hid (crash_next (bs := bs) (t := tn) (lost := z) (s := d.secs) hx)
      have elen := crash_len bs tn z d.secs d.waits k
      have c0 := HD.out.c0
      simp only [elen] at c0
      change x.1 < (crash bs tn z d.secs d.waits k).length at hxn
      rw [elen] at hxn
      obtain ⟨hr0, hr1, hr2⟩ := HD.out.atW rfl hx
      have HR0 := hid hr0
      have HX := hid hx
      clear hx hxs hr0 hr1 hr2 elen
      by_cases hq : keptB bs k = true
      · go_wp2_with (first | (go_at_call 24; refine (kept_any _ _ _ _ _ (row_kept HR.out HFAR.out (HT.out.then (Turned.of_below b4)))).mono ?_; rintro e w6 ⟨rfl, rfl⟩) | refine ld60 HR0.out HS.out rfl _ rfl rfl ?_ | (refine al60 rfl rfl ?_; intro w3 e3) | (refine st60 (by rw [← e3]; exact new_there _ _ _ (by simp [encW, zer])) HS.out rfl _ _ rfl rfl rfl ?_; intro w4 e4; obtain ⟨v4, b4⟩ := var_new e3 e4 HS.out; clear e3 e4; have V4 := hid v4; clear v4))
        have HD4 := hid (HD.out.below b4)
        have HT4 := hid (HT.out.then (Turned.of_below b4))
        have c40 := HD4.out.c0
        simp only [crash_len] at c40
        have f4 := HD.out.lt g (.inr (.inl rfl))
        have q4 := HD.out.plt
        have gp := (HD.out.far tc_far).1 g rfl
        obtain ⟨hLD, hLT⟩ := HD4.out.drew.put58 tc_far (g := g) (i := x.1) rfl (by rw [crash_len]; exact hxn) HS.out
        have HLD := hid hLD
        have HLT := hid hLT
        clear hLD hLT
        refine wp_region_noPanic ?_
        refine wp_region_held_drew (S := (fun w' => w'.cell? ⟨p, 0, none⟩ = some (.slice (some ⟨g, 0, none⟩) d.secs.length scap) ∧ w'.cell? ⟨wr.heap.size, 0, none⟩ = some (.int .i64 (x.1 : Int)) ∧ w'.rangeAt wr.heap.size 1 (by8 x.2))) (by kernel_rfl) ⟨c40, V4.out.num, V4.out.data⟩ (fun hHeld => ?_)
        (refine tk_yes (v := ?_) 0 (some 27) rfl rfl (by kernel_rfl) (by kernel_rfl) (by kernel_rfl) (fun _ _ _ h => h) (by rfl) ?_ hHeld ?_; rotate_left; focus (intro w hSw; go_simp; try with_reducible rfl))
        simp only [Act.put, List.setIfInBounds_toArray, List.set_cons_zero, List.set_cons_succ]
        (refine tk_yes (v := ?_) 1 (some 28) rfl rfl (by kernel_rfl) (by kernel_rfl) (by kernel_rfl) (fun _ _ _ h => h) (by rfl) ?_ hHeld ?_; rotate_left; focus (intro w hSw; go_simp; try with_reducible rfl))
        simp only [Act.put, List.setIfInBounds_toArray, List.set_cons_zero, List.set_cons_succ]
        (refine tk_yes (v := ?_) 2 (some 29) rfl rfl (by kernel_rfl) (by kernel_rfl) (by kernel_rfl) (fun _ _ _ h => h) (by rfl) ?_ hHeld ?_; rotate_left; focus (intro w hSw; go_simp; try with_reducible rfl))
        simp only [Act.put, List.setIfInBounds_toArray, List.set_cons_zero, List.set_cons_succ]
        (refine tk_yes (v := ?_) 3 (some 30) rfl rfl (by kernel_rfl) (by kernel_rfl) (by kernel_rfl) (fun _ _ _ h => h) (by rfl) ?_ hHeld ?_; rotate_left; focus (intro w hSw; go_simp; try with_reducible rfl))
        simp only [Act.put, List.setIfInBounds_toArray, List.set_cons_zero, List.set_cons_succ]
        (refine tk_yes (v := ?_) 4 (some 31) rfl rfl (by kernel_rfl) (by kernel_rfl) (by kernel_rfl) (fun _ _ _ h => h) (by rfl) ?_ hHeld ?_; rotate_left; focus (intro w hSw; go_simp; try with_reducible rfl))
        simp only [Act.put, List.setIfInBounds_toArray, List.set_cons_zero, List.set_cons_succ]
        (refine tk_yes (v := ?_) 5 (some 32) rfl rfl (by kernel_rfl) (by kernel_rfl) (by kernel_rfl) (fun _ _ _ h => h) (by rfl) ?_ hHeld ?_; rotate_left; focus (intro w hSw; go_simp; try with_reducible rfl))
        simp only [Act.put, List.setIfInBounds_toArray, List.set_cons_zero, List.set_cons_succ]
        (refine tk_yes (v := ?_) 6 (some 33) rfl rfl (by kernel_rfl) (by kernel_rfl) (by kernel_rfl) (fun _ _ _ h => h) (by rfl) ?_ hHeld ?_; rotate_left; focus (intro w hSw; go_simp; try with_reducible rfl))
        simp only [Act.put, List.setIfInBounds_toArray, List.set_cons_zero, List.set_cons_succ]
        refine tk_ld 7 (some 34) rfl rfl (by kernel_rfl) (by kernel_rfl) (by kernel_rfl) (fun _ _ _ h => h) (by rfl) 70 _ rfl rfl (fun w h => h.2.2) u58 rfl (by rw [i58]; simp [HS.out.1]) hHeld ?_
        simp only [Act.put, List.setIfInBounds_toArray, List.set_cons_zero, List.set_cons_succ]
        (refine tk_yes (v := ?_) 8 (some 35) rfl rfl (by kernel_rfl) (by kernel_rfl) (by kernel_rfl) (fun _ _ _ h => h) (by rfl) ?_ hHeld ?_; rotate_left; focus (intro w hSw; go_simp; try with_reducible rfl))
        simp only [Act.put, List.setIfInBounds_toArray, List.set_cons_zero, List.set_cons_succ]
        refine wpAnyH_ready (rs := [9]) (by kernel_rfl) (by simp) ?_
        refine AllReadyH.cons rfl (fun K hK => ?_) AllReadyH.nil
        refine step_of rfl (wp_st i58 _ _ rfl HS.out rfl rfl (own_there HD4.out.drew.secs rfl _ _ (by simp only [crash_len]; omega)) ?_)
        refine hK.out _ _ ⟨by rw [World.cell?_of_block (a := ⟨p, 0, none⟩) (block_setCells g _ _ _ p (Ne.symm gp))]; exact hHeld.1, by rw [World.cell?_of_block (a := ⟨wr.heap.size, 0, none⟩) (block_setCells g _ _ _ _ (by show wr.heap.size ≠ g; omega))]; exact hHeld.2.1, range_kept hHeld.2.2 (block_setCells g _ _ _ _ (by omega))⟩ (fun hHeld => ?_)
        clear hK K
        try simp only [Act.put, List.setIfInBounds_toArray]
        refine wpAnyH_done (by kernel_rfl) ?_ _
        refine NoPanic.normal ?_
        go_wp2
        go_roundw
        case rel =>
          refine ⟨k + 1, by omega, by go_num, ?_, HT4.out.drew.then (HLT.out.more HF.out)⟩
          have := HLD.out
          rw [HNX.out, crash1, if_pos hq]; exact this
        case measure => simp [intOf]; omega
      · by_cases hqz : (k : Int) = z
        · have hq' : keptB bs k = false := by simpa using hq
          have HQ := hid hq
          subst hqz
          clear hq
          go_wp2_with (first | (go_at_call 24; refine (kept_any _ _ _ _ _ (row_kept HR.out HFAR.out (HT.out.then (Turned.of_below b4)))).mono ?_; rintro e w6 ⟨rfl, rfl⟩) | refine ld60 HR0.out HS.out rfl _ rfl rfl ?_ | (refine al60 rfl rfl ?_; intro w3 e3) | (refine st60 (by rw [← e3]; exact new_there _ _ _ (by simp [encW, zer])) HS.out rfl _ _ rfl rfl rfl ?_; intro w4 e4; obtain ⟨v4, b4⟩ := var_new e3 e4 HS.out; clear e3 e4; have V4 := hid v4; clear v4))
          have HD4 := hid (HD.out.below b4)
          have HT4 := hid (HT.out.then (Turned.of_below b4))
          have c40 := HD4.out.c0
          simp only [crash_len] at c40
          have f4 := HD.out.lt g (.inr (.inl rfl))
          have q4 := HD.out.plt
          have gp := (HD.out.far tc_far).1 g rfl
          have ho : (crash bs tn k d.secs d.waits k)[x.1]? = some ((crash bs tn k d.secs d.waits k).getD x.1 []) := by
            have : x.1 < (crash bs tn k d.secs d.waits k).length := by rw [crash_len]; exact hxn
            simp [this]
          obtain ⟨hLD, hLT⟩ := HD4.out.drew.laid (P := Try.prog) tc_far (g := g) rfl x.1 tn x.2 _ HS.out ho htn
          have HLD := hid hLD
          have HLT := hid hLT
          clear hLD hLT ho
          refine wp_region_noPanic ?_
          refine wp_region_held_drew (S := (fun w' => w'.cell? ⟨p, 0, none⟩ = some (.slice (some ⟨g, 0, none⟩) d.secs.length scap) ∧ w'.cell? ⟨wr.heap.size, 0, none⟩ = some (.int .i64 (x.1 : Int)) ∧ w'.rangeAt wr.heap.size 1 (by8 x.2))) (by kernel_rfl) ⟨c40, V4.out.num, V4.out.data⟩ (fun hHeld => ?_)
          (refine tk_yes (v := ?_) 0 (some 39) rfl rfl (by kernel_rfl) (by kernel_rfl) (by kernel_rfl) (fun _ _ _ h => h) (by rfl) ?_ hHeld ?_; rotate_left; focus (intro w hSw; go_simp; try with_reducible rfl))
          simp only [Act.put, List.setIfInBounds_toArray, List.set_cons_zero, List.set_cons_succ]
          (refine tk_yes (v := ?_) 1 (some 40) rfl rfl (by kernel_rfl) (by kernel_rfl) (by kernel_rfl) (fun _ _ _ h => h) (by rfl) ?_ hHeld ?_; rotate_left; focus (intro w hSw; go_simp; try with_reducible rfl))
          simp only [Act.put, List.setIfInBounds_toArray, List.set_cons_zero, List.set_cons_succ]
          (refine tk_yes (v := ?_) 2 (some 41) rfl rfl (by kernel_rfl) (by kernel_rfl) (by kernel_rfl) (fun _ _ _ h => h) (by rfl) ?_ hHeld ?_; rotate_left; focus (intro w hSw; go_simp; try with_reducible rfl))
          simp only [Act.put, List.setIfInBounds_toArray, List.set_cons_zero, List.set_cons_succ]
          (refine tk_yes (v := ?_) 3 (some 42) rfl rfl (by kernel_rfl) (by kernel_rfl) (by kernel_rfl) (fun _ _ _ h => h) (by rfl) ?_ hHeld ?_; rotate_left; focus (intro w hSw; go_simp; try with_reducible rfl))
          simp only [Act.put, List.setIfInBounds_toArray, List.set_cons_zero, List.set_cons_succ]
          (refine tk_yes (v := ?_) 4 (some 43) rfl rfl (by kernel_rfl) (by kernel_rfl) (by kernel_rfl) (fun _ _ _ h => h) (by rfl) ?_ hHeld ?_; rotate_left; focus (intro w hSw; go_simp; try with_reducible rfl))
          simp only [Act.put, List.setIfInBounds_toArray, List.set_cons_zero, List.set_cons_succ]
          (refine tk_yes (v := ?_) 5 (some 44) rfl rfl (by kernel_rfl) (by kernel_rfl) (by kernel_rfl) (fun _ _ _ h => h) (by rfl) ?_ hHeld ?_; rotate_left; focus (intro w hSw; go_simp; try with_reducible rfl))
          simp only [Act.put, List.setIfInBounds_toArray, List.set_cons_zero, List.set_cons_succ]
          (refine tk_yes (v := ?_) 6 (some 45) rfl rfl (by kernel_rfl) (by kernel_rfl) (by kernel_rfl) (fun _ _ _ h => h) (by rfl) ?_ hHeld ?_; rotate_left; focus (intro w hSw; go_simp; try with_reducible rfl))
          simp only [Act.put, List.setIfInBounds_toArray, List.set_cons_zero, List.set_cons_succ]
          (refine tk_yes (v := ?_) 7 (some 46) rfl rfl (by kernel_rfl) (by kernel_rfl) (by kernel_rfl) (fun _ _ _ h => h) (by rfl) ?_ hHeld ?_; rotate_left; focus (intro w hSw; go_simp; try with_reducible rfl))
          simp only [Act.put, List.setIfInBounds_toArray, List.set_cons_zero, List.set_cons_succ]
          (refine tk_yes (v := ?_) 8 (some 47) rfl rfl (by kernel_rfl) (by kernel_rfl) (by kernel_rfl) (fun _ _ _ h => h) (by rfl) ?_ hHeld ?_; rotate_left; focus (intro w hSw; go_simp; try with_reducible rfl))
          simp only [Act.put, List.setIfInBounds_toArray, List.set_cons_zero, List.set_cons_succ]
          (refine tk_yes (v := ?_) 9 (some 48) rfl rfl (by kernel_rfl) (by kernel_rfl) (by kernel_rfl) (fun _ _ _ h => h) (by rfl) ?_ hHeld ?_; rotate_left; focus (intro w hSw; go_simp; try with_reducible rfl))
          simp only [Act.put, List.setIfInBounds_toArray, List.set_cons_zero, List.set_cons_succ]
          (refine tk_yes (v := .slice (some ⟨wr.heap.size, 1, none⟩) tn 64) 10 (some 49) rfl rfl (by kernel_rfl) (by kernel_rfl) (by kernel_rfl) (fun _ _ _ h => h) (by rfl) ?_ hHeld ?_; focus (intro w hSw; go_simp; simp only [slice58 w _ _ _ htn, Result.andThen_ok]))
          simp only [Act.put, List.setIfInBounds_toArray, List.set_cons_zero, List.set_cons_succ]
          refine wpAnyH_ready (rs := [11]) (by kernel_rfl) (by simp) ?_
          refine AllReadyH.cons rfl (fun K hK => ?_) AllReadyH.nil
          refine step_of rfl (cp_step _ _ rfl g (x.1 * 64) 64 64 (some ⟨wr.heap.size, 1, none⟩) tn 64 (x.2.take tn) rfl rfl (by rw [List.length_take, HS.out.1]; omega) (row_take V4.out.data) (own_there HD4.out.drew.secs rfl _ _ (by simp only [crash_len]; omega)) (fun u => ?_))
          rw [List.take_take, show min 64 tn = tn by omega]
          refine hK.out _ _ ⟨by rw [World.cell?_of_block (a := ⟨p, 0, none⟩) (block_setCells g _ _ _ p (Ne.symm gp))]; exact hHeld.1, by rw [World.cell?_of_block (a := ⟨wr.heap.size, 0, none⟩) (block_setCells g _ _ _ _ (by show wr.heap.size ≠ g; omega))]; exact hHeld.2.1, range_kept hHeld.2.2 (block_setCells g _ _ _ _ (by omega))⟩ (fun hHeld => ?_)
          clear hK K
          try simp only [Act.put, List.setIfInBounds_toArray]
          refine wpAnyH_done (by kernel_rfl) ?_ _
          refine NoPanic.normal ?_
          generalize hw9 : w4.drew.setCells g (x.1 * 64) (by8 (x.2.take tn)) = w9 at *
          clear hw9
          go_wp2
          go_roundw
          case rel =>
            refine ⟨k + 1, by omega, by go_num, ?_, HT4.out.drew.then (HLT.out.more HF.out)⟩
            have := HLD.out
            rw [HNX.out, crash1, if_neg HQ.out, if_pos rfl]; exact this
          case measure => simp [intOf]; omega
        · have HEQ := hid hqz
          have hq' : keptB bs k = false := by simpa using hq
          have HQ := hid hq
          clear hq
          go_wp2_with (first | (go_at_call 24; refine (kept_any _ _ _ _ _ (row_kept HR.out HFAR.out (HT.out.then (Turned.of_below b4)))).mono ?_; rintro e w6 ⟨rfl, rfl⟩) | refine ld60 HR0.out HS.out rfl _ rfl rfl ?_ | (refine al60 rfl rfl ?_; intro w3 e3) | (refine st60 (by rw [← e3]; exact new_there _ _ _ (by simp [encW, zer])) HS.out rfl _ _ rfl rfl rfl ?_; intro w4 e4; obtain ⟨v4, b4⟩ := var_new e3 e4 HS.out; clear e3 e4; have V4 := hid v4; clear v4))
          go_roundw
          case rel =>
            refine ⟨k + 1, by omega, by go_num, ?_, HT.out.then (Turned.of_below b4)⟩
            have := HD.out.below b4
            rw [HNX.out, crash1, if_neg HQ.out, if_neg HEQ.out]; exact this
          case measure => simp [intOf]; omega
    · have ek : k = d.waits.length := by omega
      have f1 := HD.out.f 1
      have f2 := HD.out.f 2
      have f3 := HD.out.f 3
      have c2 := HD.out.c2
      have c3 := HD.out.c3
      go_wp2
      simp [bodyPost, results, Try.results10, go_sem]
      refine ⟨((HT.out.setCell _ _ (HF.out p (.inl rfl))).setCell _ _ (HF.out p (.inl rfl))).setCell _ _ (HF.out p (.inl rfl)), ?_⟩
      have := HD.out.end3 tc_far
      rw [ek] at this
      rw [HC.out]
      exact this

/-- What the i-th flag is: its cell, if there is one. -/
theorem flag_at {w : World} {ao : Option Addr} {bs : List Bool} (h : RowOf Value.bool w ao bs) (k : Nat) : (bs.length ≤ k ∧ keptB bs k = false) ∨ (k < bs.length ∧ ∃ b o, ao = some ⟨b, o, none⟩ ∧ w.cell? ⟨b, o + k, none⟩ = some (.bool (keptB bs k))) := by
  by_cases hk : k < bs.length
  · rcases h with rfl | ⟨b, o, rfl, h⟩
    · simp at hk
    · refine .inr ⟨hk, b, o, rfl, ?_⟩
      rw [h k bs[k] (by simp [hk])]; simp [keptB, hk]
  · exact .inl ⟨by omega, by simp [keptB, hk]⟩

theorem reopen_any (p : Nat) (F : Nat → Prop) (d : Dk) (w : World) (ao : Option Addr) (kcap : Nat) (bs : List Bool) (torn : Int) (h : Dsk tc w p F d)
    (hr : RowOf Value.bool w ao bs) (hfar : bs ≠ [] → ∀ a, ao = some a → a.block < w.heap.size ∧ ¬ F a.block) :
    Calls Try.prog 10 #[.pointer (some ⟨p, 0, none⟩), .slice ao bs.length kcap, .int .i64 torn] w fun e w' => e = .returned (.tuple #[]) ∧ Turned F w w' ∧ Dsk tc w' p (grow F w w') (reopD d bs torn) := by
  obtain ⟨sv, wv, hD, hF, hlt⟩ := h
  refine (reopen_ok p sv wv F d w ao kcap bs torn hD hF hr hfar).mono ?_
  rintro e w' ⟨rfl, hT, hD'⟩
  exact ⟨rfl, hT, dsk_same hD' hT hlt (feet_nil hF)⟩
end Go.Proofs.Ythhgnflkplpklab.Dsc
