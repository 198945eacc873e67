/- The law's own known case: written, synced, and not. -/
import Derived.Test.YthhgnflkplpklabDNew
import Derived.Lib.SlBytesConst
namespace Go.Proofs.Ythhgnflkplpklab.Dsc
open Go.ChangeShapes Go.WideShapes Go.ChangeAt Go.RowKit

theorem Dsk.lt {t : Ty} {w : World} {p : Nat} {F : Nat → Prop} {d : Dk} (h : Dsk t w p F d) : ∀ k, F k → k < w.heap.size := by obtain ⟨_, _, _, _, h⟩ := h; exact h
theorem Dsk.plt {t : Ty} {w : World} {p : Nat} {F : Nat → Prop} {d : Dk} (h : Dsk t w p F d) : p < w.heap.size := by obtain ⟨_, _, h, _⟩ := h; exact h.plt
theorem bel1 (w : World) (o : Obj) : Below w.heap.size w (w.alloc o) := (Below.refl _ _).alloc (Nat.le_refl _) o
theorem Bys.form {w : World} {v : Value} {s : List Int} (h : Bys w v s) (hs : 0 < s.length) : ∃ g cap, v = .slice (some ⟨g, 0, none⟩) s.length cap ∧ w.rangeAt g 0 (by8 s) ∧ g < w.heap.size := by
  obtain ⟨g, cap, rfl, _, hlt⟩ := World.ownsRow.form h hs
  refine ⟨g, cap, rfl, fun j u hu => ?_, hlt⟩
  have := World.ownsRow.cells h rfl j u hu
  rw [Addr.add_mid] at this; exact this
theorem Bys.form64 {w : World} {v : Value} {s : List Int} (h : Bys w v s) (hs : s.length = 64) : ∃ g cap, v = .slice (some ⟨g, 0, none⟩) 64 cap ∧ w.rangeAt g 0 (by8 s) ∧ g < w.heap.size := by
  obtain ⟨g, cap, rfl, h1, h2⟩ := h.form (by omega)
  exact ⟨g, cap, by rw [hs], h1, h2⟩
theorem range_below {w w' : World} {b o : Nat} {cs : List Value} (h : w.rangeAt b o cs) (hb : b < w.heap.size) (k : Below w.heap.size w w') : w'.rangeAt b o cs := range_kept h (k.block b hb)

theorem sectors_dsk {t : Ty} {p : Nat} {F : Nat → Prop} {d : Dk} {w : World} (h : Dsk t w p F d) : Calls Try.prog 15 #[.pointer (some ⟨p, 0, none⟩)] w fun e w' => e = .returned (.int .i64 (d.secs.length : Int)) ∧ w = w' := by
  obtain ⟨sv, wv, hD, _⟩ := h; exact sectors_any t p sv wv d w hD
theorem read_dsk {p : Nat} {F : Nat → Prop} {d : Dk} {w : World} (n : Int) (h : Dsk tc w p F d) : Calls Try.prog 16 #[.pointer (some ⟨p, 0, none⟩), .int .i64 n] w fun e w' => ∃ v, e = .returned (.tuple #[v, .int .i64 (reachZ d n)]) ∧ Bys w' v (readB d n) ∧ Below w.heap.size w w' ∧ ∀ k, v.ownBlock = some k → w.heap.size ≤ k := by
  obtain ⟨sv, wv, hD, _⟩ := h; exact read_any p sv wv d n w hD
theorem cut_dsk {p : Nat} {F : Nat → Prop} {d : Dk} {w : World} (n : Int) (hn : n ≤ 9223372036854775807) (h : Dsk tc w p F d) : Calls Try.prog 8 #[.pointer (some ⟨p, 0, none⟩), .int .i64 n] w fun e w' => e = .returned (.tuple #[]) ∧ Turned F w w' ∧ Dsk tc w' p (grow F w w') (cutD d n) := by
  obtain ⟨sv, wv, hD, hF, hlt⟩ := h
  refine (cut_any p sv wv d n w hn hD).mono ?_
  rintro e w' ⟨rfl, hD', hT⟩
  exact ⟨rfl, hT.more hF, dsk_same hD' (hT.more hF) hlt hF⟩
theorem write_at {p : Nat} {F : Nat → Prop} {d : Dk} {w : World} (n : Int) (ao : Option Addr) (cap len : Nat) (l : List Int) (h : Dsk tc w p F d) (hlen : l.length = len)
    (hl : ∀ z ∈ l, Byt z) (hr : RowOf (Value.int .u8) w ao l) (hfar : l ≠ [] → ∀ a, ao = some a → a.block < w.heap.size ∧ ¬ F a.block) (hmany : d.waits.length ≤ 1000000) :
    Calls Try.prog 40 #[.pointer (some ⟨p, 0, none⟩), .int .i64 n, .slice ao len cap] w fun e w' => e = .returned (.int .i64 (writeZ d n)) ∧ Turned F w w' ∧ Dsk tc w' p (grow F w w') (writeD d n l) := by
  subst hlen; exact write_any p F d n w ao cap l h hl hr hfar hmany
theorem reopen_nil {p : Nat} {F : Nat → Prop} {d : Dk} {w : World} (torn : Int) (h : Dsk tc w p F d) :
    Calls Try.prog 10 #[.pointer (some ⟨p, 0, none⟩), .slice none 0 0, .int .i64 torn] w fun e w' => e = .returned (.tuple #[]) ∧ Turned F w w' ∧ Dsk tc w' p (grow F w w') (reopD d [] torn) :=
  reopen_any p F d w none 0 [] torn h (.inl rfl) (fun _ a e => by cases e)
theorem new_row (w : World) (l : List Int) (fr : Nat × Nat) : RowOf (Value.int .u8) (w.alloc (.cells (by8 l).toArray 5 fr)) (some ⟨w.heap.size, 0, none⟩) l := by
  refine .inr ⟨_, _, rfl, fun i x hx => ?_⟩
  have hb := heap_alloc_last w (.cells (by8 l).toArray 5 fr)
  simp only [World.cell?, hb]
  simp [hx]
theorem new_far {t : Ty} {p : Nat} {F : Nat → Prop} {d : Dk} {w : World} (h : Dsk t w p F d) (o : Obj) : ∀ a : Addr, some (⟨w.heap.size, 0, none⟩ : Addr) = some a → a.block < (w.alloc o).heap.size ∧ ¬ F a.block := by
  intro a e; cases e
  exact ⟨by simp, fun f => Nat.lt_irrefl _ (h.lt _ f)⟩

def kd1 : Dk := writeD (newD 2) 0 [97, 98]
def kd2 : Dk := syncD kd1
def kd3 : Dk := writeD kd2 1 [99]
def kd4 : Dk := reopD kd3 [] 0
theorem kz : writeZ (newD 2) 0 = 0 ∧ errZ (stepD kd1).down = 0 ∧ writeZ kd2 1 = 0 ∧ reachZ kd4 0 = 0 ∧ reachZ kd4 1 = 0 ∧ reachZ kd4 2 = 20 := by decide
theorem kw : (newD 2).waits.length ≤ 1000000 ∧ kd2.waits.length ≤ 1000000 ∧ kd4.secs.length = 2 ∧ kd4.down = false := by decide
theorem kone : ∀ z ∈ ([97, 98] : List Int), Byt z := by unfold Byt; decide
theorem kone2 : ∀ z ∈ ([99] : List Int), Byt z := by unfold Byt; decide
theorem kr : (readB kd4 0).length = 64 ∧ (readB kd4 0)[0]? = some 97 ∧ (readB kd4 1).length = 64 ∧ (readB kd4 1)[0]? = some 0 := by decide

theorem grow_ge {F : Nat → Prop} {w w' : World} {B : Nat} (h : ∀ k, F k → B ≤ k) (hB : B ≤ w.heap.size) : ∀ k, grow F w w' k → B ≤ k := by
  intro k g
  rcases g with g | g
  · exact h k g
  · omega
/-- A disk of the call's own: in memory that was made since w0; what was there at w0 is as it was. -/
def Own1 (t : Ty) (w0 w : World) (p : Nat) (d : Dk) : Prop := ∃ F, Dsk t w p F d ∧ (∀ k, F k → w0.heap.size ≤ k) ∧ Below w0.heap.size w0 w
theorem Own1.bel {t : Ty} {w0 w : World} {p : Nat} {d : Dk} (h : Own1 t w0 w p d) : Below w0.heap.size w0 w := by obtain ⟨_, _, _, h⟩ := h; exact h
theorem Own1.ok {t : Ty} {w0 w : World} {p : Nat} {d : Dk} (h : Own1 t w0 w p d) : d.Ok := by obtain ⟨_, h, _⟩ := h; exact h.ok
theorem Own1.plt {t : Ty} {w0 w : World} {p : Nat} {d : Dk} (h : Own1 t w0 w p d) : p < w.heap.size := by obtain ⟨_, h, _⟩ := h; exact h.plt
theorem Own1.more {t : Ty} {w0 w w' : World} {p : Nat} {d : Dk} (h : Own1 t w0 w p d) (hb : Below w.heap.size w w') : Own1 t w0 w' p d := by
  obtain ⟨F, h1, h2, h3⟩ := h; exact ⟨F, h1.below hb, h2, sq h3 hb⟩
theorem Own1.step {t : Ty} {w0 w w' : World} {p : Nat} {F : Nat → Prop} {d : Dk} (h2 : ∀ k, F k → w0.heap.size ≤ k) (h3 : Below w0.heap.size w0 w) (hT : Turned F w w') (h : Dsk t w' p (grow F w w') d) : Own1 t w0 w' p d :=
  ⟨_, h, grow_ge h2 h3.size, h3.trans (hT.below h2 h3.size)⟩
theorem own_new (n : Int) {w0 w : World} (hb : Below w0.heap.size w0 w) : Calls Try.prog 5 #[.int .i64 n] w fun e w' => ∃ p, e = .returned (.pointer (some ⟨p, 0, none⟩)) ∧ Own1 tc w0 w' p (newD (min (max n 0) 4096).toNat) := by
  refine (new_any n w).mono ?_
  rintro e w' ⟨p, rfl, b, D⟩
  exact ⟨p, rfl, _, D, fun k h => Nat.le_trans hb.size h.1, sq hb b⟩
theorem own_write {w0 w : World} {p : Nat} {d : Dk} (n : Int) (ao : Option Addr) (cap len : Nat) (l : List Int) (h : Own1 tc w0 w p d) (hlen : l.length = len) (hl : ∀ z ∈ l, Byt z) (hr : RowOf (Value.int .u8) w0 ao l) (hfar : l ≠ [] → ∀ a, ao = some a → a.block < w0.heap.size) (hmany : d.waits.length ≤ 1000000) :
    Calls Try.prog 40 #[.pointer (some ⟨p, 0, none⟩), .int .i64 n, .slice ao len cap] w fun e w' => e = .returned (.int .i64 (writeZ d n)) ∧ Own1 tc w0 w' p (writeD d n l) := by
  obtain ⟨F, h1, h2, h3⟩ := h
  refine (write_at n ao cap len l h1 hlen hl (hr.keep hfar h3) (fun hl0 a e => ⟨Nat.lt_of_lt_of_le (hfar hl0 a e) h3.size, fun f => by have := h2 _ f; have := hfar hl0 a e; omega⟩) hmany).mono ?_
  rintro e w' ⟨rfl, hT, hD⟩
  exact ⟨rfl, .step h2 h3 hT hD⟩
/-- The bytes are a row that was made just now. -/
theorem own_writeL {w0 w : World} {p : Nat} {d : Dk} {fr : Nat × Nat} (n : Int) (cap len : Nat) (l : List Int) (h : Own1 tc w0 w p d) (hlen : l.length = len) (hl : ∀ z ∈ l, Byt z) (hmany : d.waits.length ≤ 1000000) :
    Calls Try.prog 40 #[.pointer (some ⟨p, 0, none⟩), .int .i64 n, .slice (some ⟨w.heap.size, 0, none⟩) len cap] (w.alloc (.cells (by8 l).toArray 5 fr)) fun e w' => e = .returned (.int .i64 (writeZ d n)) ∧ Own1 tc w0 w' p (writeD d n l) := by
  obtain ⟨F, h1, h2, h3⟩ := h
  refine (write_at n _ cap len l (h1.below (bel1 _ _)) hlen hl (new_row _ _ _) (fun _ => new_far h1 _) hmany).mono ?_
  rintro e w' ⟨rfl, hT, hD⟩
  exact ⟨rfl, .step h2 (sq h3 (bel1 _ _)) hT hD⟩
theorem own_sync {w0 w : World} {p : Nat} {d : Dk} (h : Own1 tc w0 w p d) : Calls Try.prog 50 #[.pointer (some ⟨p, 0, none⟩)] w fun e w' => e = .returned (.int .i64 (errZ (stepD d).down)) ∧ Own1 tc w0 w' p (syncD d) := by
  obtain ⟨F, h1, h2, h3⟩ := h
  refine (sync_any p F d w h1).mono ?_
  rintro e w' ⟨rfl, hT, hD⟩
  exact ⟨rfl, .step h2 h3 hT hD⟩
theorem own_cut {w0 w : World} {p : Nat} {d : Dk} (n : Int) (hn : n ≤ 9223372036854775807) (h : Own1 tc w0 w p d) : Calls Try.prog 8 #[.pointer (some ⟨p, 0, none⟩), .int .i64 n] w fun e w' => e = .returned (.tuple #[]) ∧ Own1 tc w0 w' p (cutD d n) := by
  obtain ⟨F, h1, h2, h3⟩ := h
  refine (cut_dsk n hn h1).mono ?_
  rintro e w' ⟨rfl, hT, hD⟩
  exact ⟨rfl, .step h2 h3 hT hD⟩
theorem own_reopen {w0 w : World} {p : Nat} {d : Dk} (ao : Option Addr) (cap len : Nat) (bs : List Bool) (torn : Int) (h : Own1 tc w0 w p d) (hlen : bs.length = len) (hr : RowOf Value.bool w0 ao bs) (hfar : bs ≠ [] → ∀ a, ao = some a → a.block < w0.heap.size) :
    Calls Try.prog 10 #[.pointer (some ⟨p, 0, none⟩), .slice ao len cap, .int .i64 torn] w fun e w' => e = .returned (.tuple #[]) ∧ Own1 tc w0 w' p (reopD d bs torn) := by
  subst hlen
  obtain ⟨F, h1, h2, h3⟩ := h
  refine (reopen_any p F d w ao cap bs torn h1 (hr.keep hfar h3) (fun hl0 a e => ⟨Nat.lt_of_lt_of_le (hfar hl0 a e) h3.size, fun f => by have := h2 _ f; have := hfar hl0 a e; omega⟩)).mono ?_
  rintro e w' ⟨rfl, hT, hD⟩
  exact ⟨rfl, .step h2 h3 hT hD⟩
theorem own_read {w0 w : World} {p : Nat} {d : Dk} (n : Int) (h : Own1 tc w0 w p d) : Calls Try.prog 16 #[.pointer (some ⟨p, 0, none⟩), .int .i64 n] w fun e w' => ∃ v, e = .returned (.tuple #[v, .int .i64 (reachZ d n)]) ∧ Bys w' v (readB d n) ∧ Below w.heap.size w w' ∧ Own1 tc w0 w' p d := by
  have h0 := h
  obtain ⟨F, h1, h2, h3⟩ := h
  refine (read_dsk n h1).mono ?_
  rintro e w' ⟨v, rfl, hy, hb, _⟩
  exact ⟨v, rfl, hy, hb, h0.more hb⟩
theorem own_sectors {t : Ty} {w0 w : World} {p : Nat} {d : Dk} (h : Own1 t w0 w p d) : Calls Try.prog 15 #[.pointer (some ⟨p, 0, none⟩)] w fun e w' => e = .returned (.int .i64 (d.secs.length : Int)) ∧ w = w' := by
  obtain ⟨F, h1, _⟩ := h; exact sectors_dsk h1

end Go.Proofs.Ythhgnflkplpklab.Dsc
