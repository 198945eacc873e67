/- Rows of texts held against one another. -/
import Derived.Test.YtbipikbefokihaaDoorJoin
namespace Go.Proofs.YtbipikbefokihaaDoor
open Go.ChangeShapes Go.WideShapes Go.ChangeAt Go.RowKit

theorem T.RowAt.drewN {w : World} {ao : Option Addr} {l : List ByteArray} (h : T.RowAt w ao l) (m : Nat) : T.RowAt (w.drewN m) ao l := by
  rcases h with h | ⟨b, o, e, hc⟩
  · exact .inl h
  · exact .inr ⟨b, o, e, fun i hi => by rw [Go.Proofs.YtbipikbefokihaaDoor.drewN_cell]; exact hc i hi⟩
theorem T.Given.drewN {w : World} {ao : Option Addr} {len cap : Nat} {zs : List ByteArray} (h : T.Given w ao len cap zs) (m : Nat) : T.Given (w.drewN m) ao len cap zs := ⟨h.leq, h.byt, h.row.drewN m, h.cap1, h.cap2⟩
theorem take_ne {α : Type} {A B : List α} (d : α) {k : Nat} (h : ¬ A.getD k d = B.getD k d) : ¬ A = B := fun e => h (by rw [e])
theorem ne_bytes {s t : ByteArray} (h : ¬ s = t) : (s.toList == t.toList) = false := by
  cases e : (s.toList == t.toList)
  · rfl
  · exact absurd ((MapKept.bytes_beq s t).mp (by rw [beq_toListBytes]; exact e)) h
/-! What is split and joined. -/
theorem pan_str {l : List Int} (h : Byt l) : panL (strOfNums l) = l := by
  induction l with
  | nil => rfl
  | cons x l ih =>
    have hx := byt_tail h
    have h1 := ih hx.2
    simp [panL, strOfNums] at *
    exact ⟨by have := hx.1; unfold B8 at this; omega, h1⟩
theorem pans_txts {l : List (List Int)} (h : ∀ p ∈ l, Byt p) : pans (txts l) = l := by
  induction l with
  | nil => rfl
  | cons x l ih => rw [pans, txts, List.map_cons, List.map_cons, pan_str (h x (by simp)), ← txts, ← pans, ih (fun p hp => h p (by simp [hp]))]
theorem spl_ne (r : List Int) : ∀ cur, spl cur r ≠ [] := by
  induction r with
  | nil => intro cur; simp [spl]
  | cons c r ih =>
    intro cur
    by_cases h : c = 28
    · subst h; rw [spl_28]; simp
    · rw [spl_o _ _ _ h]; exact ih _
theorem spl_byt {r : List Int} : ∀ {cur}, Byt cur → Byt r → ∀ p ∈ spl cur r, Byt p := by
  induction r with
  | nil => intro cur hc _ p hp; simp [spl] at hp; exact hp ▸ hc
  | cons c r ih =>
    intro cur hc hr p hp
    have h1 := byt_tail hr
    by_cases h : c = 28
    · subst h; rw [spl_28] at hp
      rcases List.mem_cons.1 hp with rfl | hp
      · exact hc
      · exact ih (fun x hx => by simp at hx) h1.2 p hp
    · rw [spl_o _ _ _ h] at hp
      exact ih (byt_app hc (fun x hx => by simp at hx; subst hx; exact h1.1)) h1.2 p hp
theorem spl_len {r : List Int} : ∀ {cur}, ∀ p ∈ spl cur r, p.length ≤ cur.length + r.length := by
  induction r with
  | nil => intro cur p hp; simp [spl] at hp; subst hp; simp
  | cons c r ih =>
    intro cur p hp
    by_cases h : c = 28
    · subst h; rw [spl_28] at hp
      rcases List.mem_cons.1 hp with rfl | hp
      · omega
      · have := ih p hp; simp at this ⊢; omega
    · rw [spl_o _ _ _ h] at hp
      have := ih p hp; simp at this ⊢; omega
theorem jn_spl (r : List Int) : ∀ cur, jn (spl cur r) = cur ++ r := by
  induction r with
  | nil => intro cur; simp [spl, jn]
  | cons c r ih =>
    intro cur
    by_cases h : c = 28
    · subst h; rw [spl_28, jn_cons _ _ (spl_ne _ _), ih]; simp
    · rw [spl_o _ _ _ h, ih]; simp
theorem noSep_spl (r : List Int) : ∀ cur, spB cur = false → noSep (spl cur r) = true := by
  induction r with
  | nil => intro cur h; simp [spl, noSep, h]
  | cons c r ih =>
    intro cur h
    by_cases h2 : c = 28
    · subst h2; rw [spl_28, noSep, List.all_cons, ← noSep, ih [] rfl, h]; rfl
    · rw [spl_o _ _ _ h2]
      refine ih _ ?_
      unfold spB at *
      rw [List.any_append, h]; simp [h2]
theorem spl_in (p : List Int) : ∀ cur r, spB p = false → spl cur (p ++ r) = spl (cur ++ p) r := by
  induction p with
  | nil => intro cur r _; simp
  | cons c p ih =>
    intro cur r h
    simp [spB] at h
    rw [List.cons_append, spl_o _ _ _ h.1, ih _ _ (by simp [spB]; exact h.2)]; simp
theorem spl_jn (l : List (List Int)) (h : l ≠ []) (hs : noSep l = true) : spl [] (jn l) = l := by
  induction l with
  | nil => exact absurd rfl h
  | cons p r ih =>
    simp only [noSep, List.all_cons, Bool.and_eq_true] at hs
    have hp : spB p = false := by simpa using hs.1
    by_cases h0 : r = []
    · subst h0
      have := spl_in p [] [] hp
      rw [List.append_nil] at this
      rw [jn, this]; simp [spl]
    · rw [jn_cons _ _ h0, spl_in _ _ _ hp, List.nil_append, spl_28, ih h0 hs.2]
theorem jX_spl (zs : List Int) : jOk (spl [] zs) = true ∧ jX (spl [] zs) = zs := by
  have h1 : jOk (spl [] zs) = true := by
    unfold jOk
    rw [noSep_spl _ _ rfl, decide_eq_true (List.length_pos_iff.2 (spl_ne _ _))]; rfl
  exact ⟨h1, by unfold jX; rw [if_pos h1, jn_spl]; rfl⟩
theorem spl_jX {l : List (List Int)} (h : jOk l = true) : spl [] (jX l) = l := by
  unfold jX; rw [if_pos h]
  simp only [jOk, Bool.and_eq_true] at h
  exact spl_jn _ (List.length_pos_iff.1 (by simpa using h.1)) h.2
theorem txts_pans (L : List ByteArray) : txts (pans L) = L := by
  induction L with
  | nil => rfl
  | cons s L ih => rw [pans, txts, List.map_cons, List.map_cons, str_panL, ← pans, ← txts, ih]
end Go.Proofs.YtbipikbefokihaaDoor
