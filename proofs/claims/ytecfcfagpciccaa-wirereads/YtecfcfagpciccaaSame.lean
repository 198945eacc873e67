/- Rows of texts held against one another. -/
import Derived.Test.YtecfcfagpciccaaJoin
namespace Go.Proofs.Ytecfcfagpciccaa
open Go.ChangeShapes Go.WideShapes Go.ChangeAt Go.RowKit

theorem T.RowAt.drewN {w : World} {ao : Option Addr} {l : List ByteArray} (h : T.RowAt w ao l) (m : Nat) : T.RowAt (w.drewN m) ao l := by
  rcases h with h | ⟨b, o, e, hc⟩
  · exact .inl h
  · exact .inr ⟨b, o, e, fun i hi => by rw [Go.Proofs.Ytecfcfagpciccaa.drewN_cell]; exact hc i hi⟩
theorem T.Given.drewN {w : World} {ao : Option Addr} {len cap : Nat} {zs : List ByteArray} (h : T.Given w ao len cap zs) (m : Nat) : T.Given (w.drewN m) ao len cap zs := ⟨h.leq, h.byt, h.row.drewN m, h.cap1, h.cap2⟩
theorem take_ne {α : Type} {A B : List α} (d : α) {k : Nat} (h : ¬ A.getD k d = B.getD k d) : ¬ A = B := fun e => h (by rw [e])
theorem ne_bytes {s t : ByteArray} (h : ¬ s = t) : (s.toList == t.toList) = false := by
  cases e : (s.toList == t.toList)
  · rfl
  · exact absurd ((MapKept.bytes_beq s t).mp (by rw [beq_toListBytes]; exact e)) h
set_option maxHeartbeats 2000000 in
theorem str12 (a1 a2 : Option Addr) (n1 c1 n2 c2 : Nat) (A B : List ByteArray) (w : World) (h1 : T.Given w a1 n1 c1 A) (h2 : T.Given w a2 n2 c2 B) :
    Calls Try.prog 12 #[.slice a1 n1 c1, .slice a2 n2 c2] w fun e w' => e = .returned (.bool (decide (A = B))) ∧ ∃ m, w' = w.drewN m := by
  have H1 := hid h1
  have H2 := hid h2
  have hq1 := h1.leq
  have hq2 := h2.leq
  have m1 : n1 ≤ 9223372036854775807 := Nat.le_trans h1.cap1 h1.cap2
  have m2 : n2 ≤ 9223372036854775807 := Nat.le_trans h2.cap1 h2.cap2
  clear h1 h2
  by_cases hn : n1 = n2
  · subst hn
    have HQ1 := hid hq1
    have HQ2 := hid hq2
    clear hq1 hq2
    go_enter Try.func12, Try.ntmps12
    go_wp2
    go_loopw [5] (fun i wr => ∃ (k m : Nat), k ≤ n1 ∧ i = .int .i64 (k : Int) ∧ A.take k = B.take k ∧ wr = w.drewN m) (fun i _ => n1 - (intOf i).toNat)
    case atStart => exact ⟨0, 0, by omega, rfl, rfl, rfl⟩
    case round =>
      obtain ⟨k, m, hk, rfl, hab, hwr⟩ := hrel
      have G1 : Hid (T.Given wr a1 n1 c1 A) := by unfold Hid; rw [hwr]; exact H1.out.drewN m
      have G2 : Hid (T.Given wr a2 n1 c2 B) := by unfold Hid; rw [hwr]; exact H2.out.drewN m
      have HW := hid hwr
      have HAB := hid hab
      clear hwr hab
      by_cases hlt : k < n1
      · obtain ⟨b1, o1, rfl, hc1⟩ := G1.out.cell k hlt
        obtain ⟨b2, o2, rfl, hc2⟩ := G2.out.cell k hlt
        obtain ⟨s, hs⟩ : ∃ s, A.getD k ⟨#[]⟩ = s := ⟨_, rfl⟩
        obtain ⟨t, ht⟩ : ∃ t, B.getD k ⟨#[]⟩ = t := ⟨_, rfl⟩
        rw [hs] at hc1
        rw [ht] at hc2
        by_cases e : s = t
        · have HT : Hid (A.take (k + 1) = B.take (k + 1)) := by unfold Hid; rw [take_snocG A ⟨#[]⟩ k (by rw [HQ1.out]; exact hlt), take_snocG B ⟨#[]⟩ k (by rw [HQ2.out]; exact hlt), HAB.out, hs, ht, e]
          subst e
          clear hs ht
          go_wp2
          go_quiet (fail)
          go_wp2
          go_roundw
          case rel => exact ⟨k + 1, m + nq, by omega, by go_num, HT.out, by rw [HW.out]; exact World.drewN_drewN _ _ _⟩
          case measure => simp [intOf]; omega
        · have F : Hid (decide (A = B) = false) := decide_eq_false (take_ne ⟨#[]⟩ (by rw [hs, ht]; exact e))
          have e1 : (s.toList == t.toList) = false := ne_bytes e
          clear hs ht
          go_wp2
          go_quiet (fail)
          go_wp2
          go_ret
          exact ⟨ret_bool F.out.symm, m + nq, by rw [HW.out]; exact World.drewN_drewN _ _ _⟩
      · have F : Hid (decide (A = B) = true) := decide_eq_true (by have := HAB.out; rwa [List.take_of_length_le (by rw [HQ1.out]; omega), List.take_of_length_le (by rw [HQ2.out]; omega)] at this)
        go_wp2
        go_ret
        exact ⟨ret_bool F.out.symm, m, HW.out⟩
  · have F : Hid (decide (A = B) = false) := decide_eq_false (fun e => hn (by rw [← hq1, ← hq2, e]))
    have e1 : ((n1 : Int) == (n2 : Int)) = false := by simp; omega
    have e2 : ((n1 : Int) != (n2 : Int)) = true := by simp; omega
    clear hq1 hq2
    go_enter Try.func12, Try.ntmps12
    go_wp2
    go_ret
    exact ⟨ret_bool F.out.symm, 0, rfl⟩
/-! What is split and joined. -/
theorem pan_str {l : List Int} (h : Byt l) : panL (strOfNums l) = l := by
  induction l with
  | nil => rfl
  | cons x l ih =>
    have hx := byt_tail h
    have h1 := ih hx.2
    simp [panL, strOfNums] at *
    exact ⟨by have := hx.1; unfold B8 at this; omega, h1⟩
theorem pans_txts {l : List (List Int)} (h : ∀ p ∈ l, Byt p) : pans (txts l) = l := by
  induction l with
  | nil => rfl
  | cons x l ih => rw [pans, txts, List.map_cons, List.map_cons, pan_str (h x (by simp)), ← txts, ← pans, ih (fun p hp => h p (by simp [hp]))]
theorem spl_ne (r : List Int) : ∀ cur, spl cur r ≠ [] := by
  induction r with
  | nil => intro cur; simp [spl]
  | cons c r ih =>
    intro cur
    by_cases h : c = 28
    · subst h; rw [spl_28]; simp
    · rw [spl_o _ _ _ h]; exact ih _
theorem spl_byt {r : List Int} : ∀ {cur}, Byt cur → Byt r → ∀ p ∈ spl cur r, Byt p := by
  induction r with
  | nil => intro cur hc _ p hp; simp [spl] at hp; exact hp ▸ hc
  | cons c r ih =>
    intro cur hc hr p hp
    have h1 := byt_tail hr
    by_cases h : c = 28
    · subst h; rw [spl_28] at hp
      rcases List.mem_cons.1 hp with rfl | hp
      · exact hc
      · exact ih (fun x hx => by simp at hx) h1.2 p hp
    · rw [spl_o _ _ _ h] at hp
      exact ih (byt_app hc (fun x hx => by simp at hx; subst hx; exact h1.1)) h1.2 p hp
theorem spl_len {r : List Int} : ∀ {cur}, ∀ p ∈ spl cur r, p.length ≤ cur.length + r.length := by
  induction r with
  | nil => intro cur p hp; simp [spl] at hp; subst hp; simp
  | cons c r ih =>
    intro cur p hp
    by_cases h : c = 28
    · subst h; rw [spl_28] at hp
      rcases List.mem_cons.1 hp with rfl | hp
      · omega
      · have := ih p hp; simp at this ⊢; omega
    · rw [spl_o _ _ _ h] at hp
      have := ih p hp; simp at this ⊢; omega
theorem jn_spl (r : List Int) : ∀ cur, jn (spl cur r) = cur ++ r := by
  induction r with
  | nil => intro cur; simp [spl, jn]
  | cons c r ih =>
    intro cur
    by_cases h : c = 28
    · subst h; rw [spl_28, jn_cons _ _ (spl_ne _ _), ih]; simp
    · rw [spl_o _ _ _ h, ih]; simp
theorem noSep_spl (r : List Int) : ∀ cur, spB cur = false → noSep (spl cur r) = true := by
  induction r with
  | nil => intro cur h; simp [spl, noSep, h]
  | cons c r ih =>
    intro cur h
    by_cases h2 : c = 28
    · subst h2; rw [spl_28, noSep, List.all_cons, ← noSep, ih [] rfl, h]; rfl
    · rw [spl_o _ _ _ h2]
      refine ih _ ?_
      unfold spB at *
      rw [List.any_append, h]; simp [h2]
theorem spl_in (p : List Int) : ∀ cur r, spB p = false → spl cur (p ++ r) = spl (cur ++ p) r := by
  induction p with
  | nil => intro cur r _; simp
  | cons c p ih =>
    intro cur r h
    simp [spB] at h
    rw [List.cons_append, spl_o _ _ _ h.1, ih _ _ (by simp [spB]; exact h.2)]; simp
theorem spl_jn (l : List (List Int)) (h : l ≠ []) (hs : noSep l = true) : spl [] (jn l) = l := by
  induction l with
  | nil => exact absurd rfl h
  | cons p r ih =>
    simp only [noSep, List.all_cons, Bool.and_eq_true] at hs
    have hp : spB p = false := by simpa using hs.1
    by_cases h0 : r = []
    · subst h0
      have := spl_in p [] [] hp
      rw [List.append_nil] at this
      rw [jn, this]; simp [spl]
    · rw [jn_cons _ _ h0, spl_in _ _ _ hp, List.nil_append, spl_28, ih h0 hs.2]
theorem jX_spl (zs : List Int) : jOk (spl [] zs) = true ∧ jX (spl [] zs) = zs := by
  have h1 : jOk (spl [] zs) = true := by
    unfold jOk
    rw [noSep_spl _ _ rfl, decide_eq_true (List.length_pos_iff.2 (spl_ne _ _))]; rfl
  exact ⟨h1, by unfold jX; rw [if_pos h1, jn_spl]; rfl⟩
theorem spl_jX {l : List (List Int)} (h : jOk l = true) : spl [] (jX l) = l := by
  unfold jX; rw [if_pos h]
  simp only [jOk, Bool.and_eq_true] at h
  exact spl_jn _ (List.length_pos_iff.1 (by simpa using h.1)) h.2
theorem txts_pans (L : List ByteArray) : txts (pans L) = L := by
  induction L with
  | nil => rfl
  | cons s L ih => rw [pans, txts, List.map_cons, List.map_cons, str_panL, ← pans, ← txts, ih]
end Go.Proofs.Ytecfcfagpciccaa
