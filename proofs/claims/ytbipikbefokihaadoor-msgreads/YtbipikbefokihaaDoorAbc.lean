/- Right in the document's order: the numbers' limits, what is no part, the notes. No function is walked. -/
import Derived.Test.YtbipikbefokihaaDoorEq
namespace Go.Proofs.YtbipikbefokihaaDoor
open Go.ChangeShapes Go.WideShapes Go.ChangeAt Go.RowKit

def hB (m : Ms) (f : Int) : Bool := (hasK m.kind).contains f
def aB (m : Ms) : Bool := decide (m.stan ≤ 999999) && (inB 1000000 m.amt && inB 1000000 m.loads)
def bB (m : Ms) : Bool := (hB m 1 || decide (m.stan = 0)) && ((hB m 3 || decide (m.amt = 0)) && ((hB m 8 || decide (m.loads = 0)) && (if hB m 2 = true then panB m.pan else decide (m.pan = ⟨#[]⟩))))
def zs4 (m : Ms) (f : Int) : Bool := (numsF m f).all fun v => decide (v = 0)
def cB (m : Ms) (f : Int) : Bool := (numsF m f).all (inB (mostF f)) && (hB m f || zs4 m f)
theorem zero_in {l : List Int} {hi : Int} (h0 : 0 ≤ hi) (h : (l.all fun v => decide (v = 0)) = true) : l.all (inB hi) = true := by
  rw [List.all_eq_true] at *
  intro v hv
  have : v = 0 := of_decide_eq_true (h v hv)
  subst this
  simp [inB, h0]
theorem okF_split {m : Ms} {f : Int} (h2 : ¬ f = 2) : okF m f = ((numsF m f).all (inB (mostF f)) && (hB m f || zs4 m f)) := by
  unfold okF hB rightF zeroF zs4
  cases (hasK m.kind).contains f
  · rw [if_neg Bool.false_ne_true, if_neg h2, Bool.false_or]
    cases hz : ((numsF m f).all fun v => decide (v = 0))
    · simp
    · rw [zero_in (by unfold mostF; repeat' split
                      all_goals omega) hz]; rfl
  · rw [if_pos rfl, if_neg h2]; simp
theorem right_abc {m : Ms} (hm : m.Ok) (hk : okK m.kind = true) : rightL m = (aB m && (bB m && [4, 5, 6, 7, 9].all (cB m))) := by
  obtain ⟨⟨t0, t1⟩, s0, s1⟩ := hm
  have h0 : hB m 0 = true := by
    unfold hB
    rcases kind_cases hk with h | h | h | h | h | h | h <;> rw [h] <;> decide
  have k0 : okF m 0 = true := by
    rw [okF_split (by omega), h0]
    have : inB 65535 m.term = true := by simp [inB]; omega
    simp [numsF, mostF, this]
  have k1 : okF m 1 = (decide (m.stan ≤ 999999) && (hB m 1 || decide (m.stan = 0))) := by
    rw [okF_split (by omega)]
    have : inB 999999 m.stan = decide (m.stan ≤ 999999) := by simp [inB, s0]
    simp [numsF, mostF, zs4, this]
  have k2 : okF m 2 = (if hB m 2 = true then panB m.pan else decide (m.pan = ⟨#[]⟩)) := by
    unfold okF hB rightF zeroF; rfl
  have k3 : okF m 3 = (inB 1000000 m.amt && (hB m 3 || decide (m.amt = 0))) := by
    rw [okF_split (by omega)]; simp [numsF, mostF, zs4]
  have k8 : okF m 8 = (inB 1000000 m.loads && (hB m 8 || decide (m.loads = 0))) := by
    rw [okF_split (by omega)]; simp [numsF, mostF, zs4]
  have k4 : okF m 4 = cB m 4 := okF_split (by omega)
  have k5 : okF m 5 = cB m 5 := okF_split (by omega)
  have k6 : okF m 6 = cB m 6 := okF_split (by omega)
  have k7 : okF m 7 = cB m 7 := okF_split (by omega)
  have k9 : okF m 9 = cB m 9 := okF_split (by omega)
  unfold rightL
  rw [hk]
  simp only [tenF, List.all_cons, List.all_nil, k0, k1, k2, k3, k4, k5, k6, k7, k8, k9, aB, bB]
  generalize (if hB m 2 = true then panB m.pan else decide (m.pan = ⟨#[]⟩)) = x2
  generalize cB m 4 = x4
  generalize cB m 5 = x5
  generalize cB m 6 = x6
  generalize cB m 7 = x7
  generalize cB m 9 = x9
  generalize (hB m 1 || decide (m.stan = 0)) = y1
  generalize (hB m 3 || decide (m.amt = 0)) = y3
  generalize (hB m 8 || decide (m.loads = 0)) = y8
  generalize decide (m.stan ≤ 999999) = z1
  generalize inB 1000000 m.amt = z3
  generalize inB 1000000 m.loads = z8
  simp only [Bool.true_and, Bool.and_true]
  ac_rfl
/-- A field's letter. -/
def chF (f : Int) : Int := if f = 0 then 116 else if f = 1 then 115 else if f = 2 then 112 else if f = 3 then 97 else if f = 4 then 110 else if f = 5 then 114 else if f = 6 then 99 else if f = 7 then 100 else if f = 8 then 108 else 109
theorem let_has {k f : Int} (hk : okK k = true) (hf : f ∈ tenF) : hasC (letK k) (chF f) = (hasK k).contains f := by
  rcases kind_cases hk with rfl | rfl | rfl | rfl | rfl | rfl | rfl <;> rcases ten_cases hf with rfl | rfl | rfl | rfl | rfl | rfl | rfl | rfl | rfl | rfl <;> decide
theorem let_all {k : Int} (hk : okK k = true) : panL (letK k) = (hasK k).map chF := by
  rcases kind_cases hk with rfl | rfl | rfl | rfl | rfl | rfl | rfl <;> decide
end Go.Proofs.YtbipikbefokihaaDoor
