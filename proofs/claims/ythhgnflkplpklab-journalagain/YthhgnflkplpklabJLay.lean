/- The journal, plainly: what Add and Replace come to, all steps together. No function is walked. -/
import Derived.Test.YthhgnflkplpklabJSmall
namespace Go.Proofs.Ythhgnflkplpklab
open Dsc (Dk Sec padS layAll reopD stepD writeD writeZ syncD errZ reachZ)
open Frm (Rc putL rightB bytesL)

theorem step_left {d : Dk} (h : 0 ≤ d.left) : 0 ≤ (stepD d).left := by unfold stepD; simp only; split <;> omega
theorem write_left {d : Dk} (h : 0 ≤ d.left) (n : Int) (b : List Int) : 0 ≤ (writeD d n b).left := by
  have := step_left h
  unfold writeD; split
  · split <;> exact this
  · exact h
theorem sync_left {d : Dk} (h : 0 ≤ d.left) : 0 ≤ (syncD d).left := by
  have := step_left h
  unfold syncD; split <;> exact this
theorem wrP_left {m : Nat} : ∀ {b : List Int} {n : Nat} {d : Dk}, b.length ≤ m → 0 ≤ d.left → 0 ≤ (wrP d n b).2.left := by
  induction m with
  | zero =>
    intro b n d hb h
    have : b = [] := List.length_eq_zero_iff.1 (by omega)
    subst this; rw [wrP_nil]; exact h
  | succ m ih =>
    intro b n d hb h
    by_cases h0 : b = []
    · subst h0; rw [wrP_nil]; exact h
    have hp := List.length_pos_iff.2 h0
    by_cases hz : writeZ d n = 0
    · rw [wrP_go h0 hz]; exact ih (by rw [List.length_drop]; omega) (write_left h _ _)
    · rw [wrP_end h0 hz]; exact write_left h _ _
theorem sett_left {d : Dk} (h : 0 ≤ d.left) (b : List Int) : 0 ≤ (settP d b).2.left := by
  unfold settP; split
  · exact sync_left (write_left h _ _)
  · exact write_left h _ _
/-- What a call that lays records leaves: the new ones, or the power is gone and any crash leaves the old or the new ones. -/
def Ends (d d' : Dk) (e : Int) (c a b c2 a2 b2 : Nat) (l nw : List Rc) : Prop :=
  d'.secs.length = d.secs.length ∧ (d.left = 0 → d'.left = 0) ∧
      ((e = 0 ∧ d'.waits = [] ∧ d'.down = false ∧ Holds d'.secs c2 a2 b2 nw) ∨
       (e = 22 ∧ 0 < d.left ∧ d'.down = true ∧ ∀ s', From d'.waits d'.secs s' → Holds s' c a b l ∨ Holds s' c2 a2 b2 nw))
/-- The sector where the next byte goes, and what is written from there on. -/
def addN (d : Dk) (a b : Nat) : Nat := 1 + a * arS d + b / 64
def addB (d : Dk) (a b : Nat) (rs : List Rc) : List Int := bgL d.secs (addN d a b) (b % 64) ++ frs rs
theorem add_plain {d : Dk} {c a b : Nat} {l rs : List Rc} (h : Holds d.secs c a b l) (ok : d.Ok) (hd : d.down = false) (hw : d.waits = []) (hr : Good rs) (hfit : b + (frs rs).length ≤ arS d * 64) (e : Int) (d' : Dk)
    (he : layP d (addN d a b) (addB d a b rs) (headM c a b a (b + (frs rs).length) c) (headM c a b a (b + (frs rs).length) (1 - c)) = (e, d')) : Ends d d' e c a b (1 - c) a (b + (frs rs).length) l (l ++ rs) := by
  have h8 := h.n8
  have hlen : (bgL d.secs (addN d a b) (b % 64)).length = b % 64 := bg_len ok.secs (by
    by_cases h0 : b % 64 = 0
    · exact .inr h0
    · left
      have := area_lt (s := d.secs) (k := b / 64) h8 h.a1 (by unfold arS at hfit; omega)
      unfold addN arS; omega) (by omega)
  refine lay_ends h hd hw ok.left.1 ?_ (add_calm h ok.secs (frs rs) hfit) (add_new h ok.secs hr hfit) (fun _ _ _ => ⟨wrP_left (Nat.le_refl _) ok.left.1, sett_left (wrP_left (Nat.le_refl _) ok.left.1) _⟩) e d' he
  intro k hk
  change k * 64 < (bgL d.secs (addN d a b) (b % 64) ++ frs rs).length at hk
  rw [List.length_append, hlen] at hk
  have := area_lt (s := d.secs) (k := b / 64 + k) h8 h.a1 (by unfold arS at hfit; omega)
  show 1 + a * ((d.secs.length - 1) / 2) + b / 64 + k < d.secs.length
  omega
theorem rep_plain {d : Dk} {c a b : Nat} {l rs : List Rc} (h : Holds d.secs c a b l) (ok : d.Ok) (hd : d.down = false) (hw : d.waits = []) (hr : Good rs) (hfit : (frs rs).length ≤ arS d * 64) (e : Int) (d' : Dk)
    (he : layP d (addN d (1 - a) 0) (addB d (1 - a) 0 rs) (headM c a b (1 - a) (frs rs).length c) (headM c a b (1 - a) (frs rs).length (1 - c)) = (e, d')) : Ends d d' e c a b (1 - c) (1 - a) (frs rs).length l rs := by
  have h8 := h.n8
  have e1 : addN d (1 - a) 0 = 1 + (1 - a) * ((d.secs.length - 1) / 2) := rfl
  have e2 : addB d (1 - a) 0 rs = frs rs := by unfold addB bgL; simp
  rw [e1, e2] at he
  refine lay_ends h hd hw ok.left.1 ?_ (rep_calm h (frs rs) hfit) (rep_new h hr hfit) (fun _ _ _ => ⟨wrP_left (Nat.le_refl _) ok.left.1, sett_left (wrP_left (Nat.le_refl _) ok.left.1) _⟩) e d' he
  intro k hk
  have := area_lt (s := d.secs) (a := 1 - a) (k := k) h8 (by omega) (by unfold arS at hfit; omega)
  omega
end Go.Proofs.Ythhgnflkplpklab
