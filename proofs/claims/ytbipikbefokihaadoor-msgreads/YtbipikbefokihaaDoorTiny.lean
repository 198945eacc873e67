/- The small functions: which fields a kind has, how many parts, how great a number may be. -/
import Derived.Test.YtbipikbefokihaaDoorWide
namespace Go.Proofs.YtbipikbefokihaaDoor
open Go.ChangeShapes Go.WideShapes Go.ChangeAt Go.RowKit

def LyAns (w : World) (k : Int) (e : Ending) (w' : World) : Prop :=
  ∃ ao n, e = .returned (.tuple #[.string (codeK k), .slice ao n n, .bool (okK k)]) ∧ I.Given w' ao n n (hasK k) ∧ Below w.heap.size w w'
theorem wid_small {l : List Int} (h : ∀ x ∈ l, 0 ≤ x ∧ x ≤ 100) : Wid l := fun x hx => by have := h x hx; omega
theorem has_wid (k : Int) : Wid (hasK k) := wid_small fun f hf => by
  rcases ten_cases (has_ten hf) with h | h | h | h | h | h | h | h | h | h <;> omega
theorem ly_new (w : World) (k : Int) (n : Nat) (c : ByteArray) (l : List Int) (hc : codeK k = c) (ho : okK k = true) (hl : hasK k = l) (hn : l.length = n) (hm : n ≤ 1000000) :
    LyAns w k (.returned (.tuple #[.string c, .slice (some ⟨w.heap.size, 0, none⟩) n n, .bool true])) (w.alloc (.cells (I.cellsOf l) 55)) :=
  ⟨_, n, by rw [hc, ho], by subst hl; exact I.given_new w _ n 55 hn hm (has_wid k), bel1 _ _⟩
set_option maxHeartbeats 1000000 in
theorem layout18 (k : Int) (w : World) : Calls Tryd.prog 18 #[.int .i64 k] w (LyAns w k) := by
  cases h : okK k
  · have hk : ¬ (1 ≤ k ∧ k ≤ 7) := by simpa [okK] using h
    have h1 : (k == 1) = false := by simp; omega
    have h2 : (k == 2) = false := by simp; omega
    have h3 : (k == 3) = false := by simp; omega
    have h4 : (k == 4) = false := by simp; omega
    have h5 : (k == 5) = false := by simp; omega
    have h6 : (k == 6) = false := by simp; omega
    have h7 : (k == 7) = false := by simp; omega
    have HH := hid (has_none h)
    have HC : Hid (codeK k = ⟨#[]⟩) := by
      unfold Hid codeK
      rw [if_neg (by omega), if_neg (by omega), if_neg (by omega), if_neg (by omega), if_neg (by omega), if_neg (by omega), if_neg (by omega)]
    have HO := hid h
    clear h hk
    go_enter Tryd.func18, Tryd.ntmps18
    go_wp2
    go_ret3
    exact ⟨none, 0, by rw [HC.out, HO.out]; rfl, by rw [HH.out]; exact ⟨rfl, wid_small (by simp), .inl rfl, by omega, by omega⟩, Below.refl _ _⟩
  · rcases kind_cases h with rfl | rfl | rfl | rfl | rfl | rfl | rfl <;> (
      clear h
      go_enter Tryd.func18, Tryd.ntmps18
      go_wp2
      go_ret3
      exact ly_new w _ _ _ _ rfl rfl rfl rfl (by omega))
set_option maxHeartbeats 1000000 in
theorem partsOf33 (f : Int) (w : World) (hf : f ∈ tenF) : Calls Tryd.prog 33 #[.int .i64 f] w fun e w' => e = .returned (.int .i64 (cntF f)) ∧ w = w' := by
  rcases ten_cases hf with rfl | rfl | rfl | rfl | rfl | rfl | rfl | rfl | rfl | rfl <;> (
    clear hf
    go_enter Tryd.func33, Tryd.ntmps33
    go_wp2
    go_ret
    exact ⟨rfl, rfl⟩)
set_option maxHeartbeats 1000000 in
theorem mostOf43 (f : Int) (w : World) (hf : f ∈ tenF) : Calls Tryd.prog 43 #[.int .i64 f] w fun e w' => e = .returned (.int .i64 (mostF f)) ∧ w = w' := by
  rcases ten_cases hf with rfl | rfl | rfl | rfl | rfl | rfl | rfl | rfl | rfl | rfl <;> (
    clear hf
    go_enter Tryd.func43, Tryd.ntmps43
    go_wp2
    go_ret
    exact ⟨rfl, rfl⟩)
/-- The letters of a kind's fields. -/
def letK (k : Int) : ByteArray :=
  if k = 1 then ⟨#[116, 115, 112, 97]⟩ else if k = 2 then ⟨#[116, 115, 110, 114]⟩ else if k = 3 then ⟨#[116]⟩ else if k = 4 then ⟨#[116, 115, 110, 114, 99, 100, 108, 109]⟩ else if k = 5 then ⟨#[116, 115, 97, 110]⟩ else if k = 6 then ⟨#[116, 115]⟩ else if k = 7 then ⟨#[116, 115]⟩ else ⟨#[]⟩
set_option maxHeartbeats 1000000 in
theorem parts21 (k : Int) (w : World) : Calls Tryd.prog 21 #[.int .i64 k] w fun e w' => e = .returned (.tuple #[.string (codeK k), .string (letK k), .bool (okK k)]) ∧ w = w' := by
  cases h : okK k
  · have hk : ¬ (1 ≤ k ∧ k ≤ 7) := by simpa [okK] using h
    have h1 : (k == 1) = false := by simp; omega
    have h2 : (k == 2) = false := by simp; omega
    have h3 : (k == 3) = false := by simp; omega
    have h4 : (k == 4) = false := by simp; omega
    have h5 : (k == 5) = false := by simp; omega
    have h6 : (k == 6) = false := by simp; omega
    have h7 : (k == 7) = false := by simp; omega
    have HC : Hid (codeK k = ⟨#[]⟩) := by
      unfold Hid codeK
      rw [if_neg (by omega), if_neg (by omega), if_neg (by omega), if_neg (by omega), if_neg (by omega), if_neg (by omega), if_neg (by omega)]
    have HL : Hid (letK k = ⟨#[]⟩) := by
      unfold Hid letK
      rw [if_neg (by omega), if_neg (by omega), if_neg (by omega), if_neg (by omega), if_neg (by omega), if_neg (by omega), if_neg (by omega)]
    clear h hk
    go_enter Tryd.func21, Tryd.ntmps21
    go_wp2
    go_ret3
    exact ⟨by rw [HC.out, HL.out]; rfl, rfl⟩
  · rcases kind_cases h with rfl | rfl | rfl | rfl | rfl | rfl | rfl <;> (
      clear h
      go_enter Tryd.func21, Tryd.ntmps21
      go_wp2
      go_ret3
      exact ⟨rfl, rfl⟩)
end Go.Proofs.YtbipikbefokihaaDoor
