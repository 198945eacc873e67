/- The library's decimals at this program's own numbers; the document's decimals: by the same plain function. -/
import Derived.Test.YtbipikbefokihaaDoorDigP
import Derived.Shelf.Strconv.Itoa4
import Derived.Lib.AppendIntMem
import Derived.Lib.ItoaLen
import Derived.Lib.SmallJoins
import Derived.BigQuiet
namespace Go.Proofs.YtbipikbefokihaaDoor
open Go.Shelf

def Tryd.lays173_ren : Go.Shelf.Ren := ⟨fun | 173 => 38 | 246 => 49 | 283 => 54 | 284 => 55 | 285 => 56 | 286 => 57 | 129 => 61 | 317 => 60 | 318 => 62 | 319 => 63 | 320 => 64 | 337 => 65 | 338 => 66 | n => n, fun | 2 => 2 | 3 => 3 | 9 => 9 | 4 => 4 | 171 => 93 | 0 => 0 | 53 => 47 | 37 => 31 | 5 => 5 | 173 => 96 | 212 => 103 | 51 => 23 | 20 => 20 | 213 => 104 | 46 => 101 | 232 => 108 | 233 => 109 | n => n, fun | 17 => 0 | 18 => 1 | 19 => 2 | n => n⟩
theorem Tryd.lays173 : Go.Proofs.LaysM.n173 Tryd.prog Tryd.lays173_ren := {
  mixed := by kernel_rfl
  f129 := Tryd.func61.trans (congrArg some (by kernel_rfl))
  f173 := Tryd.func38.trans (congrArg some (by kernel_rfl))
  f246 := Tryd.func49.trans (congrArg some (by kernel_rfl))
  f283 := Tryd.func54.trans (congrArg some (by kernel_rfl))
  f284 := Tryd.func55.trans (congrArg some (by kernel_rfl))
  f285 := Tryd.func56.trans (congrArg some (by kernel_rfl))
  f286 := Tryd.func57.trans (congrArg some (by kernel_rfl))
  f317 := Tryd.func60.trans (congrArg some (by kernel_rfl))
  f318 := Tryd.func62.trans (congrArg some (by kernel_rfl))
  f319 := Tryd.func63.trans (congrArg some (by kernel_rfl))
  f320 := Tryd.func64.trans (congrArg some (by kernel_rfl))
  f337 := Tryd.func65.trans (congrArg some (by kernel_rfl))
  f338 := Tryd.func66.trans (congrArg some (by kernel_rfl))
  t0 := Tryd.underlying0
  a0 := Tryd.isAgg0
  z0 := Tryd.sizeOf0
  v0 := Tryd.zeroValue0
  t2 := Tryd.underlying2
  a2 := Tryd.isAgg2
  z2 := Tryd.sizeOf2
  v2 := Tryd.zeroValue2
  t3 := Tryd.underlying3
  a3 := Tryd.isAgg3
  z3 := Tryd.sizeOf3
  v3 := Tryd.zeroValue3
  t4 := Tryd.underlying4
  a4 := Tryd.isAgg4
  z4 := Tryd.sizeOf4
  v4 := Tryd.zeroValue4
  t5 := Tryd.underlying5
  a5 := Tryd.isAgg5
  z5 := Tryd.sizeOf5
  v5 := Tryd.zeroValue5
  t9 := Tryd.underlying9
  a9 := Tryd.isAgg9
  z9 := Tryd.sizeOf9
  v9 := Tryd.zeroValue9
  t20 := Tryd.underlying20
  a20 := Tryd.isAgg20
  z20 := Tryd.sizeOf20
  v20 := Tryd.zeroValue20
  t37 := Tryd.underlying31
  a37 := Tryd.isAgg31
  z37 := Tryd.sizeOf31
  v37 := Tryd.zeroValue31
  t46 := Tryd.underlying101
  a46 := Tryd.isAgg101
  z46 := Tryd.sizeOf101
  v46 := Tryd.zeroValue101
  t51 := Tryd.underlying23
  a51 := Tryd.isAgg23
  z51 := Tryd.sizeOf23
  v51 := Tryd.zeroValue23
  t53 := Tryd.underlying47
  a53 := Tryd.isAgg47
  z53 := Tryd.sizeOf47
  v53 := Tryd.zeroValue47
  t171 := Tryd.underlying93
  a171 := Tryd.isAgg93
  z171 := Tryd.sizeOf93
  v171 := Tryd.zeroValue93
  t173 := Tryd.underlying96
  a173 := Tryd.isAgg96
  z173 := Tryd.sizeOf96
  v173 := Tryd.zeroValue96
  t212 := Tryd.underlying103
  a212 := Tryd.isAgg103
  z212 := Tryd.sizeOf103
  v212 := Tryd.zeroValue103
  t213 := Tryd.underlying104
  a213 := Tryd.isAgg104
  z213 := Tryd.sizeOf104
  t232 := Tryd.underlying108
  a232 := Tryd.isAgg108
  z232 := Tryd.sizeOf108
  v232 := Tryd.zeroValue108
  t233 := Tryd.underlying109
  a233 := Tryd.isAgg109
  z233 := Tryd.sizeOf109
  v233 := Tryd.zeroValue109
  g17 := by kernel_rfl
  g18 := by kernel_rfl
  g19 := by kernel_rfl
  i0 := by kernel_rfl
  i2 := by kernel_rfl
  i3 := by kernel_rfl
  i4 := by kernel_rfl
  i5 := by kernel_rfl
  i9 := by kernel_rfl
  i20 := by kernel_rfl
  i37 := by kernel_rfl
  i46 := by kernel_rfl
  i51 := by kernel_rfl
  i53 := by kernel_rfl
  i171 := by kernel_rfl
  i173 := by kernel_rfl
  i212 := by kernel_rfl
  i232 := by kernel_rfl
  i233 := by kernel_rfl
  m17 := by kernel_rfl
  m18 := by kernel_rfl
  m19 := by kernel_rfl }
open Go.ChangeShapes Go.WideShapes Go.ChangeAt Go.RowKit
def tabName : String := Rows.msgBackRow.named.headD ""
/-- The library's table of powers of ten lies where it was laid. -/
def Tab (w : World) : Prop := Lib.TabIs Tryd.prog w tabName .u64 Lib.pow10Tab
theorem tab_at : Tryd.prog.globalNamed tabName = some 0 := by kernel_rfl
theorem Tab.below {w w' : World} (h : Tab w) (hb : Below w.heap.size w w') : Tab w' := Go.Joins.tab_stays tab_at h hb (Nat.le_refl _)
/-- A number's decimals. -/
def decS (v : Int) : ByteArray := ⟨(Lib.itoa v).toArray⟩
theorem fmt38 (n : Int) (h0 : -9223372036854775808 ≤ n) (h1 : n ≤ 9223372036854775807) (w : World) (ht : Tab w) :
    Calls Tryd.prog 38 #[.int .i64 n, .int .i64 10] w fun e w' => e = .returned (.string (decS n)) ∧ Below w.heap.size w w' := by
  have h := Any.strconv_FormatInt_10 Tryd.lays173 n h0 h1 w ht
  refine Calls.mono h ?_
  rintro e w' ⟨rfl, k, os, rfl⟩
  exact ⟨rfl, Lib.below_grow _ _ (Nat.le_refl _) _ _⟩
theorem decS_len (v : Int) (h0 : -9223372036854775808 ≤ v) (h1 : v ≤ 9223372036854775807) : (decS v).size ≤ 21 := by
  have := Lib.itoa_length_le v h0 h1
  simpa [decS, ByteArray.size] using this
theorem decS_small {v : Int} (h0 : 0 ≤ v) (h1 : v < 10) : decS v = strOfNums [48 + v] := by
  obtain ⟨u, rfl⟩ : ∃ u : Nat, v = u := ⟨v.toNat, by omega⟩
  have h : u < 10 := by omega
  rw [decS, Lib.itoa_nonneg, Lib.decDigits_one h]
  have e : (48 + (u : Int)).toNat = 48 + u := by omega
  simp [strOfNums, e]
theorem decS_more {v : Int} (h : 10 ≤ v) : decS v = decS (v / 10) ++ strOfNums [48 + v % 10] := by
  obtain ⟨u, rfl⟩ : ∃ u : Nat, v = u := ⟨v.toNat, by omega⟩
  have h1 : ¬ u < 10 := by omega
  have e : ((u : Int) / 10) = ((u / 10 : Nat) : Int) := by omega
  rw [e, decS, decS, Lib.itoa_nonneg, Lib.itoa_nonneg, Lib.decDigits, dif_neg h1]
  have e2 : (48 + (u : Int) % 10).toNat = 48 + u % 10 := by omega
  apply ByteArray.ext
  simp [strOfNums, e2]
set_option maxHeartbeats 2000000 in
theorem dec22 (n : Nat) : ∀ (v : Int) (w : World), 0 ≤ v → v ≤ 9223372036854775807 → v.toNat ≤ n →
    Calls Tryd.prog 22 #[.int .i64 v] w fun e w' => e = .returned (.string (decS v)) ∧ ∃ m, w' = w.drewN m := by
  induction n using Nat.strongRecOn with
  | _ n ih =>
    intro v w h0 h1 hn
    by_cases h : v < 10
    · have HD := hid (decS_small h0 h)
      have HC := hid (digit_cut v h0 h)
      have hv : v = 0 ∨ v = 1 ∨ v = 2 ∨ v = 3 ∨ v = 4 ∨ v = 5 ∨ v = 6 ∨ v = 7 ∨ v = 8 ∨ v = 9 := by omega
      clear HC h0 h1 hn h ih
      rcases hv with rfl | rfl | rfl | rfl | rfl | rfl | rfl | rfl | rfl | rfl <;> (
        go_enter Tryd.func22, Tryd.ntmps22
        go_wp2
        go_ret
        exact ⟨by rw [HD.out]; rfl, 0, rfl⟩)
    · have HD := hid (decS_more (v := v) (by omega))
      obtain ⟨q, hq, q0, q1, q2⟩ : ∃ q, v / 10 = q ∧ 0 ≤ q ∧ q ≤ 9223372036854775807 ∧ q.toNat < n := ⟨_, rfl, by omega, by omega, by omega⟩
      obtain ⟨z, hz, z0, z1⟩ : ∃ z, v % 10 = z ∧ 0 ≤ z ∧ z < 10 := ⟨_, rfl, by omega, by omega⟩
      have hz' : v.tmod 10 = z := by rw [Int.tmod_eq_emod_of_nonneg h0, hz]
      have hq' : v.tdiv 10 = q := by rw [Int.tdiv_eq_ediv_of_nonneg h0, hq]
      have HC : Hid ((ByteArray.mk #[48, 49, 50, 51, 52, 53, 54, 55, 56, 57]).extract z.toNat (z + 1).toNat = strOfNums [48 + z]) := digit_cut z z0 z1
      have hneg : ¬ v < 0 := by omega
      rw [hq, hz] at HD
      have HI := hid (fun w' => ih q.toNat q2 q w' q0 q1 (Nat.le_refl _))
      have hsz : (decS q).size ≤ 21 := decS_len q (by omega) q1
      generalize decS q = t at *
      have hsz2 : ¬ 9223372036854775807 < t.size + (strOfNums [48 + z]).size := by have : (strOfNums [48 + z]).size = 1 := rfl; omega
      clear ih h1 hn q2 hq hz
      go_enter Tryd.func22, Tryd.ntmps22
      go_wp2
      have wq : IntKind.i64.wrap q = q := by rw [IntKind.wrap_i64]; omega
      have wz : IntKind.i64.wrap z = z := by rw [IntKind.wrap_i64]; omega
      have wz1 : IntKind.i64.wrap (z + 1) = z + 1 := by rw [IntKind.wrap_i64]; omega
      have HW : Hid (∀ m, Calls Tryd.prog 22 #[.int .i64 q] (w.drewN m) fun e w'' => e = .returned (.string t) ∧ ∃ j, w'' = w.drewN j) := fun m => Calls.quiet_of (HI.out (w.drewN m))
      go_quiet ((go_at_call 22; exact HW.out _))
      go_wp2
      go_ret
      exact ⟨by rw [HD.out, ← HC.out]; rfl, _, rfl⟩
end Go.Proofs.YtbipikbefokihaaDoor
