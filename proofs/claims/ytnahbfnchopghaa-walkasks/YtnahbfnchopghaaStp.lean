/- A customer's walk, told plainly: one step, and so many. No function is walked. -/
import Derived.Test.YtnahbfnchopghaaPan
import Derived.Test.YtnahbfnchopghaaOk
import Derived.Test.YtnahbfnchopghaaStrs
namespace Go.Proofs.Ytnahbfnchopghaa
open Go.ChangeShapes Go.WideShapes Go.ChangeAt Go.RowKit

/-- Where a walk ended, and what it asked. -/
structure Rs where
  pos : Int
  steps : Int
  asked : Bool
  pan : ByteArray
  amt : Int
/-- How far a customer came, and what is left to be typed. -/
structure Wk where
  r : Rs
  pan : ByteArray
  amt : Int
  ins : List ByteArray
def numK (m : Nat) (x : ByteArray) : Int := if x.size ≤ m then numV x else 0
def numB (m : Nat) (x : ByteArray) : Bool := decide (x.size ≤ m) && numOk x
def choL (s : St) (x : ByteArray) : Int := if x = ⟨#[49]⟩ then s.next else if x = ⟨#[50]⟩ then s.other else s.id
def pinB (x : ByteArray) : Bool := numB 4 x && decide (x.size = 4)
def takeP (s : St) (x p : ByteArray) : ByteArray := if s.kind = 65 then (if panB x = true then x else p) else p
def takeA (s : St) (x : ByteArray) (a : Int) : Int := if s.kind = 68 then (if numB 7 x = true then numV x else a) else a
def takeT (s : St) (x : ByteArray) : Int :=
  if s.kind = 65 then (if panB x = true then s.next else s.id)
  else if s.kind = 66 then (if pinB x = true then s.next else s.other)
  else if s.kind = 68 then (if numB 7 x = true then s.next else s.other)
  else choL s x
def takesB (c : Int) : Bool := c == 65 || c == 66 || c == 68 || c == 69
def hasTo (k : Wk) : Bool := !k.r.asked && decide (k.pan ≠ ⟨#[]⟩) && decide (k.amt ≠ 0)
def askK (k : Wk) : Wk := if hasTo k = true then { k with r := { k.r with asked := true, pan := k.pan, amt := k.amt } } else k
def goesK (s : St) (k : Wk) : Bool := s.kind == 73 || (takesB s.kind && !k.ins.isEmpty)
def stepK (s : St) (k : Wk) : Wk :=
  if s.kind = 73 then askK k else if takesB s.kind = true then
    match k.ins with
    | [] => k
    | x :: t => { k with pan := takeP s x k.pan, amt := takeA s x k.amt, ins := t }
  else k
def stepT (s : St) (k : Wk) : Int :=
  if s.kind = 73 then s.next else if takesB s.kind = true then
    match k.ins with
    | [] => 0
    | x :: _ => takeT s x
  else 0
def advK (k : Wk) (to : Int) : Wk := { k with r := { k.r with pos := to, steps := k.r.steps + 1 } }
def goL (l : List St) (k : Wk) : Bool := foundL l k.r.pos && goesK (findL l k.r.pos) k
def nxL (l : List St) (k : Wk) : Wk := advK (stepK (findL l k.r.pos) k) (stepT (findL l k.r.pos) k)
def runK (l : List St) : Nat → Wk → Wk
  | 0, k => k
  | n + 1, k => if goL l k = true then runK l n (nxL l k) else k
def Wk.new (start : Int) (ins : List ByteArray) : Wk := ⟨⟨start, 0, false, ⟨#[]⟩, 0⟩, ⟨#[]⟩, 0, ins⟩
def runL (l : List St) (start : Int) (ins : List ByteArray) : Rs := (runK l 200 (Wk.new start (ins.take 100))).r
theorem runK_go {l : List St} {n : Nat} {k : Wk} (h : goL l k = true) : runK l (n + 1) k = runK l n (nxL l k) := by rw [runK, if_pos h]
theorem runK_stop {l : List St} {n : Nat} {k : Wk} (h : goL l k = false) : runK l n k = k := by
  cases n with
  | zero => rfl
  | succ n => rw [runK, if_neg (by rw [h]; decide)]
theorem askK_steps (k : Wk) : (askK k).r.steps = k.r.steps := by unfold askK; split <;> rfl
theorem askK_pos (k : Wk) : (askK k).r.pos = k.r.pos := by unfold askK; split <;> rfl
theorem stepK_steps (s : St) (k : Wk) : (stepK s k).r.steps = k.r.steps := by
  unfold stepK
  split
  · exact askK_steps k
  · split
    · split <;> rfl
    · rfl
theorem stepK_ins {s : St} {k : Wk} (h : Txt k.ins) : Txt (stepK s k).ins := by
  unfold stepK
  split
  · unfold askK; split <;> exact h
  · split
    · split
      · exact h
      · rename_i x t e
        rw [e] at h
        exact fun y hy => h y (List.mem_cons_of_mem _ hy)
    · exact h
end Go.Proofs.Ytnahbfnchopghaa
