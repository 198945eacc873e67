/- The program's disk and the document's, side by side: what each step makes of both; and a variable beside them. -/
import Derived.Test.YtfpgdbmglpejcaaTwo
namespace Go.Proofs.Ytfpgdbmglpejcaa
open Go.ChangeShapes Go.WideShapes Go.ChangeAt Go.RowKit

/-- The document's disk c is the program's d: but for how many are left where the power is gone. -/
structure Rel (d c : Dk) : Prop where
  secs : c.secs = d.secs
  waits : c.waits = d.waits
  down : c.down = d.down
  left : d.down = false → c.left = d.left
  zero : d.down = true → d.left = 0
theorem Rel.reach {d c : Dk} (h : Rel d c) (n : Int) : reachZ c n = reachZ d n := by unfold reachZ; rw [h.down, h.secs]
theorem Rel.read {d c : Dk} (h : Rel d c) (n : Int) : readB c n = readB d n := by unfold readB readS; rw [h.reach n, h.secs, h.waits]
theorem rel_new (n : Nat) : Rel (newD n) (newD n) := ⟨rfl, rfl, rfl, fun _ => rfl, fun h => by cases h⟩
theorem step_zero {d : Dk} (h0 : 0 ≤ d.left) : (stepD d).down = true → (stepD d).left = 0 := by
  unfold stepD
  by_cases h1 : 0 < d.left
  · simp only [h1, if_true]
    intro e
    have : d.left = 1 := by simpa using e
    omega
  · simp only [h1, if_false]
    intro _; omega
theorem Rel.step {d c : Dk} (h : Rel d c) (h0 : 0 ≤ d.left) (hd : d.down = false) : Rel (stepD d) (stepD c) := by
  have hl := h.left hd
  refine ⟨h.secs, h.waits, ?_, fun _ => ?_, step_zero h0⟩
  · show (if 0 < c.left then decide (c.left = 1) else c.down) = (if 0 < d.left then decide (d.left = 1) else d.down)
    rw [hl, h.down]
  · show (if 0 < c.left then c.left - 1 else c.left) = (if 0 < d.left then d.left - 1 else d.left)
    rw [hl]
theorem Rel.write {d c : Dk} (h : Rel d c) (h0 : 0 ≤ d.left) (n : Int) (l : List Int) : writeZ c n = writeZ d n ∧ Rel (writeD d n l) (writeD c n l) := by
  unfold writeZ writeD
  rw [h.reach n]
  by_cases hz : reachZ d n = 0
  · obtain ⟨_, _, hd⟩ := reach_ok hz
    have hs := h.step h0 hd
    simp only [hz, if_true]
    rw [hs.down]
    refine ⟨rfl, ?_⟩
    cases hq : (stepD d).down with
    | true => simp only [if_true]; exact hs
    | false =>
      simp only [Bool.false_eq_true, if_false]
      exact ⟨hs.secs, by show c.waits ++ _ = d.waits ++ _; rw [h.waits], rfl, fun _ => hs.left hq, fun e => (by cases e)⟩
  · simp only [hz, if_false]; exact ⟨trivial, h⟩
theorem Rel.sync {d c : Dk} (h : Rel d c) (h0 : 0 ≤ d.left) : syncZ c = errZ (stepD d).down ∧ Rel (syncD d) (syncR c) := by
  unfold syncZ syncR
  rw [h.down]
  cases hd : d.down with
  | true =>
    have hl := h.zero hd
    have hs : stepD d = d := step_still (by omega)
    simp only [if_true]
    refine ⟨by rw [hs, hd]; rfl, ?_⟩
    have e : syncD d = d := by unfold syncD; rw [hs, hd]; simp
    rw [e]; exact h
  | false =>
    simp only [Bool.false_eq_true, if_false]
    have hs := h.step h0 hd
    unfold syncD
    rw [hs.down]
    refine ⟨rfl, ?_⟩
    cases hq : (stepD d).down with
    | true => simp only [if_true]; exact hs
    | false =>
      simp only [Bool.false_eq_true, if_false]
      exact ⟨by show layAll c.secs c.waits = layAll d.secs d.waits; rw [h.secs, h.waits], rfl, hs.down, hs.left, hs.zero⟩
theorem Rel.cut {d c : Dk} (h : Rel d c) (n : Int) : Rel (cutD d n) (cutR c n) := by
  unfold cutD cutR
  cases hd : d.down with
  | true =>
    simp only [if_true]
    by_cases hn : n < 1
    · simp only [hn, if_true]
      exact ⟨h.secs, h.waits, hd.symm, fun e => (by rw [hd] at e; cases e), h.zero⟩
    · simp only [hn, if_false]
      exact ⟨h.secs, h.waits, h.down, fun e => (by rw [hd] at e; cases e), h.zero⟩
  | false =>
    simp only [Bool.false_eq_true, if_false]
    by_cases hn : n < 1
    · have e1 : max n 0 = 0 := by omega
      have e2 : decide (n ≤ 0) = true := by simp; omega
      simp only [hn, if_true, e1, e2]
      exact ⟨h.secs, h.waits, rfl, fun _ => rfl, fun _ => rfl⟩
    · have e1 : max n 0 = n := by omega
      have e2 : decide (n ≤ 0) = false := by simp; omega
      simp only [hn, if_false, e1, e2]
      exact ⟨h.secs, h.waits, by show c.down = false; rw [h.down, hd], fun _ => rfl, fun e => by cases e⟩
theorem Rel.reop {d c : Dk} (h : Rel d c) (bs : List Bool) (torn : Int) : Rel (reopD d bs torn) (reopD c bs torn) := by
  unfold reopD
  rw [h.secs, h.waits]
  exact ⟨rfl, rfl, rfl, fun _ => rfl, fun e => by cases e⟩
theorem writeD_len (d : Dk) (n : Int) (l : List Int) : (writeD d n l).waits.length ≤ d.waits.length + 1 := by
  unfold writeD
  split
  · split
    · exact Nat.le_succ _
    · show (d.waits ++ _).length ≤ _; simp
  · exact Nat.le_succ _
theorem syncD_len (d : Dk) : (syncD d).waits.length ≤ d.waits.length + 1 := by
  unfold syncD
  split
  · exact Nat.le_succ _
  · exact Nat.zero_le _
theorem cutD_len (d : Dk) (n : Int) : (cutD d n).waits.length ≤ d.waits.length + 1 := by
  unfold cutD
  split <;> exact Nat.le_succ _
theorem reopD_len (d : Dk) (bs : List Bool) (t : Int) : (reopD d bs t).waits.length ≤ d.waits.length + 1 := Nat.zero_le _

/-- Two disks and a block X of the call's own that is none of theirs. -/
def Own3 (w0 w : World) (p : Nat) (d : Dk) (q : Nat) (c : Dk) (X : Nat) (o : Obj) : Prop :=
  ∃ F G, Dsk tc w p F d ∧ Dsk tr w q G c ∧ (∀ k, F k → ¬ G k) ∧ (∀ k, F k → w0.heap.size ≤ k) ∧ (∀ k, G k → w0.heap.size ≤ k) ∧ Below w0.heap.size w0 w ∧ ¬ F X ∧ ¬ G X ∧ w.heap[X]? = some o
section
variable {w0 w w' : World} {p q X : Nat} {d c : Dk} {o : Obj}
theorem Own3.two (h : Own3 w0 w p d q c X o) : Own2 tc tr w0 w p d q c := by
  obtain ⟨F, G, h1, h2, h3, h4, h5, h6, _⟩ := h; exact ⟨F, G, h1, h2, h3, h4, h5, h6⟩
theorem Own3.cell (h : Own3 w0 w p d q c X o) : w.heap[X]? = some o := by obtain ⟨_, _, _, _, _, _, _, _, _, _, h⟩ := h; exact h
theorem Own3.more (h : Own3 w0 w p d q c X o) (hb : Below w.heap.size w w') : Own3 w0 w' p d q c X o := by
  obtain ⟨F, G, h1, h2, h3, h4, h5, h6, h7, h8, h9⟩ := h
  exact ⟨F, G, h1.below hb, h2.below hb, h3, h4, h5, sq h6 hb, h7, h8, (hb.block X (Array.getElem?_eq_some_iff.1 h9).1).trans h9⟩
theorem Own2.var (h : Own2 tc tr w0 w p d q c) (o : Obj) : Own3 w0 (w.alloc o) p d q c w.heap.size o := by
  obtain ⟨F, G, h1, h2, h3, h4, h5, h6⟩ := h
  exact ⟨F, G, h1.below (bel1 _ _), h2.below (bel1 _ _), h3, h4, h5, sq h6 (bel1 _ _), fun f => Nat.lt_irrefl _ (h1.lt _ f), fun f => Nat.lt_irrefl _ (h2.lt _ f), heap_alloc_last w o⟩
theorem Own3.stepL {F G : Nat → Prop} (h2 : Dsk tr w q G c) (h3 : ∀ k, F k → ¬ G k) (h4 : ∀ k, F k → w0.heap.size ≤ k) (h5 : ∀ k, G k → w0.heap.size ≤ k) (h6 : Below w0.heap.size w0 w) (h7 : ¬ F X) (h8 : ¬ G X) (h9 : w.heap[X]? = some o)
    (hT : Turned F w w') (hD : Dsk tc w' p (grow F w w') d) : Own3 w0 w' p d q c X o := by
  have hX := (Array.getElem?_eq_some_iff.1 h9).1
  refine ⟨_, G, hD, h2.apart hT (fun k g f => h3 k f g), fun k f g => ?_, grow_ge h4 h6.size, h5, h6.trans (hT.below h4 h6.size), fun f => ?_, h8, (hT.block X hX h7).trans h9⟩
  · rcases f with f | f
    · exact h3 k f g
    · have := h2.lt k g; omega
  · rcases f with f | f
    · exact h7 f
    · omega
theorem Own3.stepR {F G : Nat → Prop} (h1 : Dsk tc w p F d) (h3 : ∀ k, F k → ¬ G k) (h4 : ∀ k, F k → w0.heap.size ≤ k) (h5 : ∀ k, G k → w0.heap.size ≤ k) (h6 : Below w0.heap.size w0 w) (h7 : ¬ F X) (h8 : ¬ G X) (h9 : w.heap[X]? = some o)
    (hT : Turned G w w') (hD : Dsk tr w' q (grow G w w') c) : Own3 w0 w' p d q c X o := by
  have hX := (Array.getElem?_eq_some_iff.1 h9).1
  refine ⟨F, _, h1.apart hT (fun k f g => h3 k f g), hD, fun k f g => ?_, h4, grow_ge h5 h6.size, h6.trans (hT.below h5 h6.size), h7, fun f => ?_, (hT.block X hX h8).trans h9⟩
  · rcases g with g | g
    · exact h3 k f g
    · have := h1.lt k f; omega
  · rcases f with f | f
    · exact h8 f
    · omega
theorem own3_write (n : Int) (ao : Option Addr) (cap len : Nat) (l : List Int) (h : Own3 w0 w p d q c X o) (hB : InB w0 ao len l) (hmany : d.waits.length ≤ 1000000) :
    Calls Try.prog 18 #[.pointer (some ⟨p, 0, none⟩), .int .i64 n, .slice ao len cap] w fun e w' => e = .returned (.int .i64 (writeZ d n)) ∧ Own3 w0 w' p (writeD d n l) q c X o := by
  obtain ⟨F, G, h1, h2, h3, h4, h5, h6, h7, h8, h9⟩ := h
  obtain ⟨hlen, hl, hr, hfar⟩ := hB
  refine (write_at n ao cap len l h1 hlen hl (hr.keep hfar h6) (far0 h4 h6 hfar) hmany).mono ?_
  rintro e w' ⟨rfl, hT, hD⟩
  exact ⟨rfl, .stepL h2 h3 h4 h5 h6 h7 h8 h9 hT hD⟩
theorem own3_sync (h : Own3 w0 w p d q c X o) : Calls Try.prog 10 #[.pointer (some ⟨p, 0, none⟩)] w fun e w' => e = .returned (.int .i64 (errZ (stepD d).down)) ∧ Own3 w0 w' p (syncD d) q c X o := by
  obtain ⟨F, G, h1, h2, h3, h4, h5, h6, h7, h8, h9⟩ := h
  refine (sync_any p F d w h1).mono ?_
  rintro e w' ⟨rfl, hT, hD⟩
  exact ⟨rfl, .stepL h2 h3 h4 h5 h6 h7 h8 h9 hT hD⟩
theorem own3_cut (n : Int) (hn : n ≤ 9223372036854775807) (h : Own3 w0 w p d q c X o) : Calls Try.prog 14 #[.pointer (some ⟨p, 0, none⟩), .int .i64 n] w fun e w' => e = .returned (.tuple #[]) ∧ Own3 w0 w' p (cutD d n) q c X o := by
  obtain ⟨F, G, h1, h2, h3, h4, h5, h6, h7, h8, h9⟩ := h
  refine (cut_dsk n hn h1).mono ?_
  rintro e w' ⟨rfl, hT, hD⟩
  exact ⟨rfl, .stepL h2 h3 h4 h5 h6 h7 h8 h9 hT hD⟩
theorem own3_reopen (ao : Option Addr) (cap len : Nat) (bs : List Bool) (torn : Int) (h : Own3 w0 w p d q c X o) (hF : InF w0 ao len bs) :
    Calls Try.prog 16 #[.pointer (some ⟨p, 0, none⟩), .slice ao len cap, .int .i64 torn] w fun e w' => e = .returned (.tuple #[]) ∧ Own3 w0 w' p (reopD d bs torn) q c X o := by
  obtain ⟨F, G, h1, h2, h3, h4, h5, h6, h7, h8, h9⟩ := h
  obtain ⟨rfl, hr, hfar⟩ := hF
  refine (reopen_any p F d w ao cap bs torn h1 (hr.keep hfar h6) (far0 h4 h6 hfar)).mono ?_
  rintro e w' ⟨rfl, hT, hD⟩
  exact ⟨rfl, .stepL h2 h3 h4 h5 h6 h7 h8 h9 hT hD⟩
theorem own3_read (n : Int) (h : Own3 w0 w p d q c X o) : Calls Try.prog 12 #[.pointer (some ⟨p, 0, none⟩), .int .i64 n] w fun e w' => ∃ v, e = .returned (.tuple #[v, .int .i64 (reachZ d n)]) ∧ Bys w' v (readB d n) ∧ Below w.heap.size w w' ∧ Own3 w0 w' p d q c X o := by
  have h0 := h
  obtain ⟨F, G, h1, _⟩ := h
  refine (read_dsk n h1).mono ?_
  rintro e w' ⟨v, rfl, hy, hb, _⟩
  exact ⟨v, rfl, hy, hb, h0.more hb⟩
theorem own3_writeR (n : Int) (ao : Option Addr) (cap len : Nat) (l : List Int) (h : Own3 w0 w p d q c X o) (hB : InB w0 ao len l) (hmany : c.waits.length ≤ 1000000) :
    Calls Try.prog 19 #[.pointer (some ⟨q, 0, none⟩), .int .i64 n, .slice ao len cap] w fun e w' => e = .returned (.int .i64 (writeZ c n)) ∧ Own3 w0 w' p d q (writeD c n l) X o := by
  obtain ⟨F, G, h1, h2, h3, h4, h5, h6, h7, h8, h9⟩ := h
  obtain ⟨rfl, hl, hr, hfar⟩ := hB
  refine (writeR_any q G c n w ao cap l h2 hl (hr.keep hfar h6) (far0 h5 h6 hfar) hmany).mono ?_
  rintro e w' ⟨rfl, hT, hD⟩
  exact ⟨rfl, .stepR h1 h3 h4 h5 h6 h7 h8 h9 hT hD⟩
theorem own3_syncR (h : Own3 w0 w p d q c X o) : Calls Try.prog 11 #[.pointer (some ⟨q, 0, none⟩)] w fun e w' => e = .returned (.int .i64 (syncZ c)) ∧ Own3 w0 w' p d q (syncR c) X o := by
  obtain ⟨F, G, h1, h2, h3, h4, h5, h6, h7, h8, h9⟩ := h
  refine (syncR_any q G c w h2).mono ?_
  rintro e w' ⟨rfl, hT, hD⟩
  exact ⟨rfl, .stepR h1 h3 h4 h5 h6 h7 h8 h9 hT hD⟩
theorem own3_cutR (n : Int) (hn : n ≤ 9223372036854775807) (h : Own3 w0 w p d q c X o) : Calls Try.prog 15 #[.pointer (some ⟨q, 0, none⟩), .int .i64 n] w fun e w' => e = .returned (.tuple #[]) ∧ Own3 w0 w' p d q (cutR c n) X o := by
  obtain ⟨F, G, h1, h2, h3, h4, h5, h6, h7, h8, h9⟩ := h
  refine (cutR_dsk n hn h2).mono ?_
  rintro e w' ⟨rfl, hT, hD⟩
  exact ⟨rfl, .stepR h1 h3 h4 h5 h6 h7 h8 h9 hT hD⟩
theorem own3_reopenR (ao : Option Addr) (cap len : Nat) (bs : List Bool) (torn : Int) (h : Own3 w0 w p d q c X o) (hF : InF w0 ao len bs) :
    Calls Try.prog 17 #[.pointer (some ⟨q, 0, none⟩), .slice ao len cap, .int .i64 torn] w fun e w' => e = .returned (.tuple #[]) ∧ Own3 w0 w' p d q (reopD c bs torn) X o := by
  obtain ⟨F, G, h1, h2, h3, h4, h5, h6, h7, h8, h9⟩ := h
  obtain ⟨rfl, hr, hfar⟩ := hF
  refine (reopenR_any q G c w ao cap bs torn h2 (hr.keep hfar h6) (far0 h5 h6 hfar)).mono ?_
  rintro e w' ⟨rfl, hT, hD⟩
  exact ⟨rfl, .stepR h1 h3 h4 h5 h6 h7 h8 h9 hT hD⟩
theorem own3_readR (n : Int) (h : Own3 w0 w p d q c X o) : Calls Try.prog 13 #[.pointer (some ⟨q, 0, none⟩), .int .i64 n] w fun e w' => ∃ v, e = .returned (.tuple #[v, .int .i64 (reachZ c n)]) ∧ Bys w' v (readB c n) ∧ Below w.heap.size w w' ∧ Own3 w0 w' p d q c X o := by
  have h0 := h
  obtain ⟨F, G, h1, h2, _⟩ := h
  refine (readR_dsk n h2).mono ?_
  rintro e w' ⟨v, rfl, hy, hb, _⟩
  exact ⟨v, rfl, hy, hb, h0.more hb⟩
theorem own_readR {w0 w : World} {p : Nat} {d : Dk} (n : Int) (h : Own1 tr w0 w p d) : Calls Try.prog 13 #[.pointer (some ⟨p, 0, none⟩), .int .i64 n] w fun e w' => ∃ v, e = .returned (.tuple #[v, .int .i64 (reachZ d n)]) ∧ Bys w' v (readB d n) ∧ Below w.heap.size w w' ∧ Own1 tr w0 w' p d := by
  have h0 := h
  obtain ⟨F, h1, _⟩ := h
  refine (readR_dsk n h1).mono ?_
  rintro e w' ⟨v, rfl, hy, hb, _⟩
  exact ⟨v, rfl, hy, hb, h0.more hb⟩
/-- The document's disk, as the law itself looks at it. -/
theorem Own1.look {t : Ty} {w0 w : World} {p : Nat} {d : Dk} (h : Own1 t w0 w p d) : w.cell? ⟨p, 3, none⟩ = some (.bool d.down) ∧ ∃ a cap, w.cell? ⟨p, 0, none⟩ = some (.slice a d.secs.length cap) := by
  obtain ⟨F, ⟨sv, wv, hD, _⟩, _⟩ := h
  obtain ⟨a, cap, rfl, _⟩ := sv_form hD.secs
  exact ⟨hD.c3, a, cap, hD.c0⟩
end
end Go.Proofs.Ytfpgdbmglpejcaa
