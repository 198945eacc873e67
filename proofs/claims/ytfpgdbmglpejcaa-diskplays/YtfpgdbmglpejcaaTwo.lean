/- Two disks of the call's own, that share no memory: what is done to one isn't done to the other. -/
import Derived.Test.YtfpgdbmglpejcaaFace
namespace Go.Proofs.Ytfpgdbmglpejcaa
open Go.ChangeShapes Go.WideShapes Go.ChangeAt Go.RowKit

def Own2 (t u : Ty) (w0 w : World) (p : Nat) (d : Dk) (q : Nat) (c : Dk) : Prop :=
  ∃ F G, Dsk t w p F d ∧ Dsk u w q G c ∧ (∀ k, F k → ¬ G k) ∧ (∀ k, F k → w0.heap.size ≤ k) ∧ (∀ k, G k → w0.heap.size ≤ k) ∧ Below w0.heap.size w0 w
section
variable {t u : Ty} {w0 w w' : World} {p q : Nat} {d c : Dk}
theorem Own2.swap (h : Own2 t u w0 w p d q c) : Own2 u t w0 w q c p d := by
  obtain ⟨F, G, h1, h2, h3, h4, h5, h6⟩ := h; exact ⟨G, F, h2, h1, fun k g f => h3 k f g, h5, h4, h6⟩
theorem Own2.bel (h : Own2 t u w0 w p d q c) : Below w0.heap.size w0 w := by obtain ⟨_, _, _, _, _, _, _, h⟩ := h; exact h
theorem Own2.one (h : Own2 t u w0 w p d q c) : Own1 t w0 w p d := by obtain ⟨F, _, h1, _, _, h4, _, h6⟩ := h; exact ⟨F, h1, h4, h6⟩
theorem Own2.two (h : Own2 t u w0 w p d q c) : Own1 u w0 w q c := h.swap.one
theorem Own2.more (h : Own2 t u w0 w p d q c) (hb : Below w.heap.size w w') : Own2 t u w0 w' p d q c := by
  obtain ⟨F, G, h1, h2, h3, h4, h5, h6⟩ := h; exact ⟨F, G, h1.below hb, h2.below hb, h3, h4, h5, sq h6 hb⟩
theorem Own2.step {F G : Nat → Prop} (h2 : Dsk u w q G c) (h3 : ∀ k, F k → ¬ G k) (h4 : ∀ k, F k → w0.heap.size ≤ k) (h5 : ∀ k, G k → w0.heap.size ≤ k) (h6 : Below w0.heap.size w0 w) (hT : Turned F w w') (hD : Dsk t w' p (grow F w w') d) :
    Own2 t u w0 w' p d q c := by
  refine ⟨_, G, hD, h2.apart hT (fun k g f => h3 k f g), fun k f g => ?_, grow_ge h4 h6.size, h5, h6.trans (hT.below h4 h6.size)⟩
  rcases f with f | f
  · exact h3 k f g
  · have := h2.lt k g; omega
/-- A clone, or another new disk, beside one. -/
theorem Own1.beside (h : Own1 t w0 w p d) (hb : Below w.heap.size w w') (hc : Dsk u w' q (fun k => w.heap.size ≤ k ∧ k < w'.heap.size) c) : Own2 t u w0 w' p d q c := by
  obtain ⟨F, h1, h2, h3⟩ := h
  exact ⟨F, _, h1.below hb, hc, fun k f g => by have := h1.lt k f; omega, h2, fun k g => Nat.le_trans h3.size g.1, sq h3 hb⟩
theorem far0 {F : Nat → Prop} {α : Type} {l : List α} {ao : Option Addr} (h4 : ∀ k, F k → w0.heap.size ≤ k) (h6 : Below w0.heap.size w0 w) (hfar : l ≠ [] → ∀ a, ao = some a → a.block < w0.heap.size) : l ≠ [] → ∀ a, ao = some a → a.block < w.heap.size ∧ ¬ F a.block :=
  fun hl a e => ⟨Nat.lt_of_lt_of_le (hfar hl a e) h6.size, fun f => by have := h4 _ f; have := hfar hl a e; omega⟩
end
section
variable {u : Ty} {w0 w : World} {p q : Nat} {d c : Dk}
theorem own2_write (n : Int) (ao : Option Addr) (cap len : Nat) (l : List Int) (h : Own2 tc u w0 w p d q c) (hB : InB w0 ao len l) (hmany : d.waits.length ≤ 1000000) :
    Calls Try.prog 18 #[.pointer (some ⟨p, 0, none⟩), .int .i64 n, .slice ao len cap] w fun e w' => e = .returned (.int .i64 (writeZ d n)) ∧ Own2 tc u w0 w' p (writeD d n l) q c := by
  obtain ⟨F, G, h1, h2, h3, h4, h5, h6⟩ := h
  obtain ⟨hlen, hl, hr, hfar⟩ := hB
  refine (write_at n ao cap len l h1 hlen hl (hr.keep hfar h6) (far0 h4 h6 hfar) hmany).mono ?_
  rintro e w' ⟨rfl, hT, hD⟩
  exact ⟨rfl, .step h2 h3 h4 h5 h6 hT hD⟩
theorem own2_sync (h : Own2 tc u w0 w p d q c) : Calls Try.prog 10 #[.pointer (some ⟨p, 0, none⟩)] w fun e w' => e = .returned (.int .i64 (errZ (stepD d).down)) ∧ Own2 tc u w0 w' p (syncD d) q c := by
  obtain ⟨F, G, h1, h2, h3, h4, h5, h6⟩ := h
  refine (sync_any p F d w h1).mono ?_
  rintro e w' ⟨rfl, hT, hD⟩
  exact ⟨rfl, .step h2 h3 h4 h5 h6 hT hD⟩
theorem own2_cut (n : Int) (hn : n ≤ 9223372036854775807) (h : Own2 tc u w0 w p d q c) : Calls Try.prog 14 #[.pointer (some ⟨p, 0, none⟩), .int .i64 n] w fun e w' => e = .returned (.tuple #[]) ∧ Own2 tc u w0 w' p (cutD d n) q c := by
  obtain ⟨F, G, h1, h2, h3, h4, h5, h6⟩ := h
  refine (cut_dsk n hn h1).mono ?_
  rintro e w' ⟨rfl, hT, hD⟩
  exact ⟨rfl, .step h2 h3 h4 h5 h6 hT hD⟩
theorem own2_reopen (ao : Option Addr) (cap len : Nat) (bs : List Bool) (torn : Int) (h : Own2 tc u w0 w p d q c) (hF : InF w0 ao len bs) :
    Calls Try.prog 16 #[.pointer (some ⟨p, 0, none⟩), .slice ao len cap, .int .i64 torn] w fun e w' => e = .returned (.tuple #[]) ∧ Own2 tc u w0 w' p (reopD d bs torn) q c := by
  obtain ⟨F, G, h1, h2, h3, h4, h5, h6⟩ := h
  obtain ⟨rfl, hr, hfar⟩ := hF
  refine (reopen_any p F d w ao cap bs torn h1 (hr.keep hfar h6) (far0 h4 h6 hfar)).mono ?_
  rintro e w' ⟨rfl, hT, hD⟩
  exact ⟨rfl, .step h2 h3 h4 h5 h6 hT hD⟩
theorem own2_read (n : Int) (h : Own2 tc u w0 w p d q c) : Calls Try.prog 12 #[.pointer (some ⟨p, 0, none⟩), .int .i64 n] w fun e w' => ∃ v, e = .returned (.tuple #[v, .int .i64 (reachZ d n)]) ∧ Bys w' v (readB d n) ∧ Below w.heap.size w w' ∧ Own2 tc u w0 w' p d q c := by
  have h0 := h
  obtain ⟨F, G, h1, _⟩ := h
  refine (read_dsk n h1).mono ?_
  rintro e w' ⟨v, rfl, hy, hb, _⟩
  exact ⟨v, rfl, hy, hb, h0.more hb⟩
/-! The document's disk. -/
theorem own2_writeR (n : Int) (ao : Option Addr) (cap len : Nat) (l : List Int) (h : Own2 u tr w0 w p d q c) (hB : InB w0 ao len l) (hmany : c.waits.length ≤ 1000000) :
    Calls Try.prog 19 #[.pointer (some ⟨q, 0, none⟩), .int .i64 n, .slice ao len cap] w fun e w' => e = .returned (.int .i64 (writeZ c n)) ∧ Own2 u tr w0 w' p d q (writeD c n l) := by
  obtain ⟨F, G, h1, h2, h3, h4, h5, h6⟩ := h.swap
  obtain ⟨rfl, hl, hr, hfar⟩ := hB
  refine (writeR_any q F c n w ao cap l h1 hl (hr.keep hfar h6) (far0 h4 h6 hfar) hmany).mono ?_
  rintro e w' ⟨rfl, hT, hD⟩
  exact ⟨rfl, (Own2.step h2 h3 h4 h5 h6 hT hD).swap⟩
theorem own2_syncR (h : Own2 u tr w0 w p d q c) : Calls Try.prog 11 #[.pointer (some ⟨q, 0, none⟩)] w fun e w' => e = .returned (.int .i64 (syncZ c)) ∧ Own2 u tr w0 w' p d q (syncR c) := by
  obtain ⟨F, G, h1, h2, h3, h4, h5, h6⟩ := h.swap
  refine (syncR_any q F c w h1).mono ?_
  rintro e w' ⟨rfl, hT, hD⟩
  exact ⟨rfl, (Own2.step h2 h3 h4 h5 h6 hT hD).swap⟩
theorem own2_cutR (n : Int) (hn : n ≤ 9223372036854775807) (h : Own2 u tr w0 w p d q c) : Calls Try.prog 15 #[.pointer (some ⟨q, 0, none⟩), .int .i64 n] w fun e w' => e = .returned (.tuple #[]) ∧ Own2 u tr w0 w' p d q (cutR c n) := by
  obtain ⟨F, G, h1, h2, h3, h4, h5, h6⟩ := h.swap
  refine (cutR_dsk n hn h1).mono ?_
  rintro e w' ⟨rfl, hT, hD⟩
  exact ⟨rfl, (Own2.step h2 h3 h4 h5 h6 hT hD).swap⟩
theorem own2_reopenR (ao : Option Addr) (cap len : Nat) (bs : List Bool) (torn : Int) (h : Own2 u tr w0 w p d q c) (hF : InF w0 ao len bs) :
    Calls Try.prog 17 #[.pointer (some ⟨q, 0, none⟩), .slice ao len cap, .int .i64 torn] w fun e w' => e = .returned (.tuple #[]) ∧ Own2 u tr w0 w' p d q (reopD c bs torn) := by
  obtain ⟨F, G, h1, h2, h3, h4, h5, h6⟩ := h.swap
  obtain ⟨rfl, hr, hfar⟩ := hF
  refine (reopenR_any q F c w ao cap bs torn h1 (hr.keep hfar h6) (far0 h4 h6 hfar)).mono ?_
  rintro e w' ⟨rfl, hT, hD⟩
  exact ⟨rfl, (Own2.step h2 h3 h4 h5 h6 hT hD).swap⟩
theorem own2_readR (n : Int) (h : Own2 u tr w0 w p d q c) : Calls Try.prog 13 #[.pointer (some ⟨q, 0, none⟩), .int .i64 n] w fun e w' => ∃ v, e = .returned (.tuple #[v, .int .i64 (reachZ c n)]) ∧ Bys w' v (readB c n) ∧ Below w.heap.size w w' ∧ Own2 u tr w0 w' p d q c := by
  have h0 := h
  obtain ⟨F, G, h1, _⟩ := h.swap
  refine (readR_dsk n h1).mono ?_
  rintro e w' ⟨v, rfl, hy, hb, _⟩
  exact ⟨v, rfl, hy, hb, h0.more hb⟩
end
theorem own_clone {w0 w : World} {p : Nat} {d : Dk} (h : Own1 tc w0 w p d) (hmany : d.waits.length ≤ 1000000) : Calls Try.prog 22 #[.pointer (some ⟨p, 0, none⟩)] w fun e w' => ∃ q, e = .returned (.pointer (some ⟨q, 0, none⟩)) ∧ Own2 tc tc w0 w' p d q d ∧ Below w.heap.size w w' := by
  have h0 := h
  obtain ⟨F, h1, _⟩ := h
  refine (clone_any p F d w h1 hmany).mono ?_
  rintro e w' ⟨q, rfl, hb, hc⟩
  exact ⟨q, rfl, h0.beside hb hc, hb⟩
theorem own_newR (n : Int) {w0 w : World} {p : Nat} {d : Dk} (h : Own1 tc w0 w p d) : Calls Try.prog 9 #[.int .i64 n] w fun e w' => ∃ q, e = .returned (.pointer (some ⟨q, 0, none⟩)) ∧ Own2 tc tr w0 w' p d q (newD (min (max n 0) 4096).toNat) := by
  refine (newR_any n w).mono ?_
  rintro e w' ⟨q, rfl, hb, hc⟩
  exact ⟨q, rfl, h.beside hb hc⟩
end Go.Proofs.Ytfpgdbmglpejcaa
