/- A sync, by the program and by the document's. -/
import Derived.Test.YthhgnflkplpklabDWrite
namespace Go.Proofs.Ythhgnflkplpklab.Dsc
set_option maxRecDepth 20000
open Go.ChangeShapes Go.WideShapes Go.ChangeAt Go.RowKit

/-- Writes laid into the sectors, in their order. -/
def layAll (s : List (List Int)) (l : List (Nat × List Int)) : List (List Int) := l.foldl (fun s x => s.set x.1 x.2) s
theorem layAll_len (s : List (List Int)) (l : List (Nat × List Int)) : (layAll s l).length = s.length := by
  unfold layAll
  induction l generalizing s with
  | nil => rfl
  | cons x r ih => rw [List.foldl_cons, ih]; simp
theorem layAll_next {s : List (List Int)} {l : List (Nat × List Int)} {k : Nat} {x : Nat × List Int} (hx : l[k]? = some x) : layAll s (l.take (k + 1)) = (layAll s (l.take k)).set x.1 x.2 := by
  have hk : k < l.length := (List.getElem?_eq_some_iff.1 hx).1
  have e : l.take (k + 1) = l.take k ++ [x] := by rw [List.take_succ_eq_append_getElem hk]; simp_all
  rw [e]; simp [layAll]
def syncD (d : Dk) : Dk := if (stepD d).down then stepD d else { stepD d with secs := layAll d.secs d.waits, waits := [] }
/-- The document's: where the power is gone nothing is counted. -/
def syncR (d : Dk) : Dk := if d.down then d else syncD d

theorem Dat.drew {t : Ty} {w : World} {p : Nat} {sv wv : Value} {d : Dk} (h : Dat t w p sv wv d) : Dat t w.drew p sv wv d := h.kept fun _ _ => rfl
theorem Turned.drew {F : Nat → Prop} {w w' : World} (h : Turned F w w') : Turned F w w'.drew := ⟨h.os, h.tape, h.output, h.size, h.block⟩
/-- A whole sector is written. -/
theorem Dat.put58 {t : Ty} (ht : t.Far) {w : World} {p : Nat} {sv wv : Value} {d : Dk} (h : Dat t w p sv wv d) {g : Nat} (hg : sv.ownBlock = some g) {i : Nat} (hi : i < d.secs.length) {s : List Int} (hs : Sec s) :
    Dat t (w.setCells g (i * 64) (by8 s)) p sv wv { d with secs := d.secs.set i s } ∧ Turned (Feet p sv wv) w (w.setCells g (i * 64) (by8 s)) := by
  have ho : d.secs[i]? = some d.secs[i] := by simp [hi]
  have hol := h.ok.secs _ (List.mem_of_getElem? ho)
  have := h.laid (P := Try.prog) ht hg i 64 s _ hs ho (Nat.le_refl _)
  rw [lay_all hs hol, List.take_of_length_le (by have := hs.1; omega)] at this
  exact this
theorem block_setCells (b : Nat) : ∀ (vs : List Value) (o : Nat) (w : World) (k : Nat), k ≠ b → (w.setCells b o vs).heap[k]? = w.heap[k]?
  | [], _, _, _, _ => rfl
  | v :: r, o, w, k, h => by
    rw [World.setCells, block_setCells b r (o + 1) _ k h]
    exact Below.heap_setCell _ _ _ _ h
theorem Dat.secForm {t : Ty} {w : World} {p : Nat} {sv wv : Value} {d : Dk} (h : Dat t w p sv wv d) (hn : 0 < d.secs.length) : ∃ g cap, sv = .slice (some ⟨g, 0, none⟩) d.secs.length cap := by
  obtain ⟨g, cap, hv, _⟩ := h.secs.form hn; exact ⟨g, cap, hv⟩
theorem Dat.waitForm {t : Ty} {w : World} {p : Nat} {sv wv : Value} {d : Dk} (h : Dat t w p sv wv d) (hn : 0 < d.waits.length) : ∃ g cap, wv = .slice (some ⟨g, 0, none⟩) d.waits.length cap := by
  obtain ⟨g, cap, hv, _⟩ := h.waits.form hn; exact ⟨g, cap, hv⟩
theorem Dat.noWait {t : Ty} (ht : t.Far) {w : World} {p : Nat} {sv wv : Value} {d : Dk} (h : Dat t w p sv wv d) : Dat t (w.setCell ⟨p, 1, none⟩ (.slice none 0 0)) p sv (.slice none 0 0) { d with waits := [] } :=
  h.wait ht (World.ownsRow_nil _ _ _ _) rfl rfl rfl ⟨h.ok.secs, fun x hx => (by cases hx), h.ok.left, h.ok.size⟩
theorem wp_st {ty : TypeId} {op : Oper} {a : Act} {w : World} {K : Act → World → Prop} {Q : Exit → Act → World → Prop} (hn : (Try.prog.info? ty).map (·.size) = some 64) (x y : Operand) (ho : op.op = .store ty x y)
    {b o : Nat} {s : List Int} (hs : Sec s) (hx : a.eval x = .pointer (some ⟨b, o, none⟩)) (hy : a.eval y = .agg (by8 s).toArray) (ht : w.there b o 64) (h : K (a.put op.dst undef) (w.setCells b o (by8 s))) : op.wp Try.prog a w K Q :=
  wp_store_mid ty x y ho b o (by8 s).toArray hx hy (by simpa [hs.1] using ht) (by rw [hn]; simp [hs.1]) (all_oneCell_toArray (one8 s)) (by simpa using h)

set_option maxHeartbeats 4000000 in
theorem sync_ok (p : Nat) (sv wv : Value) (F : Nat → Prop) (d : Dk) (w : World) (h : Dat tc w p sv wv d) (hF : ∀ k, Feet p sv wv k → F k) (hs : (stepD d).down = false) :
    Calls Try.prog 50 #[.pointer (some ⟨p, 0, none⟩)] w fun e w' => e = .returned (.int .i64 0) ∧ Turned F w w' ∧ Dat tc w' p sv (.slice none 0 0) { stepD d with secs := layAll d.secs d.waits, waits := [] } := by
  have H := hid h
  have HF := hid hF
  obtain ⟨a, cap, rfl, hmax⟩ := sv_form h.waits
  have e0 : errZ false = 0 := rfl
  clear h hF
  go_enter Try.func50, Try.ntmps50
  go_wp2_with (go_at_call 48; refine (step_any _ _ _ _ _ H.out).mono ?_; rintro e w2 ⟨rfl, D2, T2⟩; have c1 := D2.c1; have HD2 := hid D2; clear D2; have HT2 := hid (T2.more HF.out); clear T2)
  go_loopw [16] (fun i wr => ∃ k : Nat, k ≤ d.waits.length ∧ i = .int .i64 (k : Int) ∧ Dat tc wr p sv (.slice a d.waits.length cap) { stepD d with secs := layAll d.secs (d.waits.take k) } ∧ Turned F w wr) (fun i _ => d.waits.length - (intOf i).toNat)
  case atStart => exact ⟨0, by omega, rfl, HD2.out, HT2.out⟩
  case round =>
    obtain ⟨k, hkm, rfl, hD, hT⟩ := hrel
    have HD := hid hD
    have HT := hid hT
    have c1' := hD.c1
    have hp := hD.plt
    clear hD hT c1 HD2 HT2
    by_cases hlt : k < d.waits.length
    · have hx : d.waits[k]? = some d.waits[k] := by simp [hlt]
      generalize d.waits[k] = x at *
      obtain ⟨hxn, hxs⟩ := HD.out.ok.waits x (List.mem_of_getElem? hx)
      obtain ⟨g, scap, rfl⟩ := HD.out.secForm (by omega)
      obtain ⟨gw, hgw⟩ : ∃ gw, a = some ⟨gw, 0, none⟩ := by
        obtain ⟨gw, cap', hv⟩ := HD.out.waitForm (show 0 < d.waits.length by omega)
        cases hv; exact ⟨gw, rfl⟩
      subst hgw
      have HS := hid hxs
      have HNX := hid (layAll_next (s := d.secs) hx)
      have c0 := HD.out.c0
      have elen := layAll_len d.secs (d.waits.take k)
      simp only [elen] at c0
      change x.1 < (layAll d.secs (d.waits.take k)).length at hxn
      rw [elen] at hxn
      obtain ⟨hr0, hr1, hr2⟩ := HD.out.atW rfl hx
      have HR0 := hid hr0
      have HR2 := hid hr2
      have HX := hid hx
      clear hx hxs hr0 hr2 elen
      go_wp2_with (first | refine ld60 HR0.out HS.out rfl _ rfl rfl ?_ | (refine al60 rfl rfl ?_; intro w3 e3) | (refine st60 (by rw [← e3]; exact new_there _ _ _ (by simp [encW, zer])) HS.out rfl _ _ rfl rfl rfl ?_; intro w4 e4; obtain ⟨v4, b4⟩ := var_new e3 e4 HS.out; clear e3 e4; have V4 := hid v4; clear v4))
      have HD4 := hid (HD.out.below b4)
      have HT4 := hid (HT.out.then (Turned.of_below b4))
      have c40 := HD4.out.c0
      simp only [layAll_len] at c40
      have f4 := HD.out.lt g (.inr (.inl rfl))
      have q4 := HD.out.plt
      have gp := (HD.out.far tc_far).1 g rfl
      obtain ⟨hLD, hLT⟩ := HD4.out.drew.put58 tc_far (g := g) (i := x.1) rfl (by rw [layAll_len]; exact hxn) HS.out
      have HLD := hid hLD
      have HLT := hid hLT
      clear hLD hLT
      refine wp_region_noPanic ?_
      refine wp_region_held_drew (S := (fun w' => w'.cell? ⟨p, 0, none⟩ = some (.slice (some ⟨g, 0, none⟩) d.secs.length scap) ∧ w'.cell? ⟨wr.heap.size, 0, none⟩ = some (.int .i64 (x.1 : Int)) ∧ w'.rangeAt wr.heap.size 1 (by8 x.2))) (by kernel_rfl) ⟨c40, V4.out.num, V4.out.data⟩ (fun hHeld => ?_)
      (refine tk_yes (v := ?_) 0 (some 20) rfl rfl (by kernel_rfl) (by kernel_rfl) (by kernel_rfl) (fun _ _ _ h => h) (by rfl) ?_ hHeld ?_; rotate_left; focus (intro w hSw; go_simp; try with_reducible rfl))
      simp only [Act.put, List.setIfInBounds_toArray, List.set_cons_zero, List.set_cons_succ]
      (refine tk_yes (v := ?_) 1 (some 21) rfl rfl (by kernel_rfl) (by kernel_rfl) (by kernel_rfl) (fun _ _ _ h => h) (by rfl) ?_ hHeld ?_; rotate_left; focus (intro w hSw; go_simp; try with_reducible rfl))
      simp only [Act.put, List.setIfInBounds_toArray, List.set_cons_zero, List.set_cons_succ]
      (refine tk_yes (v := ?_) 2 (some 22) rfl rfl (by kernel_rfl) (by kernel_rfl) (by kernel_rfl) (fun _ _ _ h => h) (by rfl) ?_ hHeld ?_; rotate_left; focus (intro w hSw; go_simp; try with_reducible rfl))
      simp only [Act.put, List.setIfInBounds_toArray, List.set_cons_zero, List.set_cons_succ]
      (refine tk_yes (v := ?_) 3 (some 23) rfl rfl (by kernel_rfl) (by kernel_rfl) (by kernel_rfl) (fun _ _ _ h => h) (by rfl) ?_ hHeld ?_; rotate_left; focus (intro w hSw; go_simp; try with_reducible rfl))
      simp only [Act.put, List.setIfInBounds_toArray, List.set_cons_zero, List.set_cons_succ]
      (refine tk_yes (v := ?_) 4 (some 24) rfl rfl (by kernel_rfl) (by kernel_rfl) (by kernel_rfl) (fun _ _ _ h => h) (by rfl) ?_ hHeld ?_; rotate_left; focus (intro w hSw; go_simp; try with_reducible rfl))
      simp only [Act.put, List.setIfInBounds_toArray, List.set_cons_zero, List.set_cons_succ]
      (refine tk_yes (v := ?_) 5 (some 25) rfl rfl (by kernel_rfl) (by kernel_rfl) (by kernel_rfl) (fun _ _ _ h => h) (by rfl) ?_ hHeld ?_; rotate_left; focus (intro w hSw; go_simp; try with_reducible rfl))
      simp only [Act.put, List.setIfInBounds_toArray, List.set_cons_zero, List.set_cons_succ]
      (refine tk_yes (v := ?_) 6 (some 26) rfl rfl (by kernel_rfl) (by kernel_rfl) (by kernel_rfl) (fun _ _ _ h => h) (by rfl) ?_ hHeld ?_; rotate_left; focus (intro w hSw; go_simp; try with_reducible rfl))
      simp only [Act.put, List.setIfInBounds_toArray, List.set_cons_zero, List.set_cons_succ]
      refine tk_ld 7 (some 27) rfl rfl (by kernel_rfl) (by kernel_rfl) (by kernel_rfl) (fun _ _ _ h => h) (by rfl) 70 _ rfl rfl (fun w h => h.2.2) u58 rfl (by rw [i58]; simp [HS.out.1]) hHeld ?_
      simp only [Act.put, List.setIfInBounds_toArray, List.set_cons_zero, List.set_cons_succ]
      (refine tk_yes (v := ?_) 8 (some 28) rfl rfl (by kernel_rfl) (by kernel_rfl) (by kernel_rfl) (fun _ _ _ h => h) (by rfl) ?_ hHeld ?_; rotate_left; focus (intro w hSw; go_simp; try with_reducible rfl))
      simp only [Act.put, List.setIfInBounds_toArray, List.set_cons_zero, List.set_cons_succ]
      refine wpAnyH_ready (rs := [9]) (by kernel_rfl) (by simp) ?_
      refine AllReadyH.cons rfl (fun K hK => ?_) AllReadyH.nil
      refine step_of rfl (wp_st i58 _ _ rfl HS.out rfl rfl (own_there HD4.out.drew.secs rfl _ _ (by simp only [layAll_len]; omega)) ?_)
      refine hK.out _ _ ⟨by rw [World.cell?_of_block (a := ⟨p, 0, none⟩) (block_setCells g _ _ _ p (Ne.symm gp))]; exact hHeld.1, by rw [World.cell?_of_block (a := ⟨wr.heap.size, 0, none⟩) (block_setCells g _ _ _ _ (by show wr.heap.size ≠ g; omega))]; exact hHeld.2.1, range_kept hHeld.2.2 (block_setCells g _ _ _ _ (by omega))⟩ (fun hHeld => ?_)
      clear hK K
      try simp only [Act.put, List.setIfInBounds_toArray]
      refine wpAnyH_done (by kernel_rfl) ?_ _
      refine NoPanic.normal ?_
      go_wp2
      go_roundw
      case rel =>
        refine ⟨k + 1, by omega, by go_num, ?_, HT4.out.drew.then (HLT.out.more HF.out)⟩
        have := HLD.out
        rw [HNX.out]; exact this
      case measure => simp [intOf]; omega
    · have ek : k = d.waits.length := by omega
      have f1 := HD.out.f 1
      go_wp2
      go_ret
      refine ⟨rfl, HT.out.setCell _ _ (HF.out p (.inl rfl)), ?_⟩
      have := HD.out.noWait tc_far
      rw [ek, List.take_length] at this
      simp only [hs] at this
      exact this

theorem feet_nil {p : Nat} {sv wv : Value} {F : Nat → Prop} (h : ∀ k, Feet p sv wv k → F k) : ∀ k, Feet p sv (.slice none 0 0) k → F k := by
  intro k g
  rcases g with g | g | g
  · exact h k (.inl g)
  · exact h k (.inr (.inl g))
  · cases g
theorem sync_any (p : Nat) (F : Nat → Prop) (d : Dk) (w : World) (h : Dsk tc w p F d) :
    Calls Try.prog 50 #[.pointer (some ⟨p, 0, none⟩)] w fun e w' => e = .returned (.int .i64 (errZ (stepD d).down)) ∧ Turned F w w' ∧ Dsk tc w' p (grow F w w') (syncD d) := by
  obtain ⟨sv, wv, hD, hF, hlt⟩ := h
  cases hs : (stepD d).down with
  | false =>
    refine (sync_ok p sv wv F d w hD hF hs).mono ?_
    rintro e w' ⟨rfl, hT, hD'⟩
    refine ⟨rfl, hT, ?_⟩
    have e : syncD d = { stepD d with secs := layAll d.secs d.waits, waits := [] } := by simp [syncD, hs]
    rw [e]
    exact dsk_same hD' hT hlt (feet_nil hF)
  | true =>
    have H := hid hD
    have HF := hid hF
    have HLT := hid hlt
    have e0 : errZ true = 22 := rfl
    clear hD hF hlt
    go_enter Try.func50, Try.ntmps50
    go_wp2_with (go_at_call 48; refine (step_any _ _ _ _ _ H.out).mono ?_; rintro e w2 ⟨rfl, D2, T2⟩; have HD2 := hid D2; clear D2; have HT2 := hid (T2.more HF.out); clear T2)
    go_ret
    refine ⟨rfl, HT2.out, ?_⟩
    have e : syncD d = stepD d := by simp [syncD, hs]
    rw [e]
    exact dsk_same HD2.out HT2.out HLT.out HF.out

def syncZ (d : Dk) : Int := if d.down then 22 else errZ (stepD d).down
end Go.Proofs.Ythhgnflkplpklab.Dsc
