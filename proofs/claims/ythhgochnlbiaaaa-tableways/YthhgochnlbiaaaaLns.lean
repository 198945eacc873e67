/- The line of a state, and the state of a line. No function is walked. -/
import Derived.Test.YthhgochnlbiaaaaTiny
import Derived.Test.YthhgochnlbiaaaaDigR
namespace Go.Proofs.Ythhgochnlbiaaaa
open Go.ChangeShapes Go.WideShapes Go.ChangeAt Go.RowKit

theorem ext_list (s : ByteArray) (a b : Nat) : (s.extract a b).data.toList = (s.data.toList.take b).drop a := by
  rw [ByteArray.data_extract, Array.toList_extract]
  simp [List.extract, List.drop_take]
theorem ext_str (x : List Int) (i j m : Nat) (hj : j = i + m) : (strOfNums x).extract i j = strOfNums (pc x i m) := by
  subst hj
  apply ByteArray.ext
  apply Array.toList_inj.1
  rw [ext_list, strOfNums_data, strOfNums_data]
  unfold pc
  rw [← List.map_take, ← List.map_drop, List.drop_take, show i + m - i = m by omega]
theorem ext_rest (x : List Int) (i n : Nat) (hn : x.length = n) : (strOfNums x).extract i n = strOfNums (x.drop i) := by
  subst hn
  apply ByteArray.ext
  apply Array.toList_inj.1
  rw [ext_list, strOfNums_data, strOfNums_data, List.take_of_length_le (by simp), List.map_drop]
theorem panL_app (a b : ByteArray) : panL (a ++ b) = panL a ++ panL b := by simp [panL]
theorem panL_strN {l : List Int} (h : Byt l) : panL (strOfNums l) = l := by
  have : ∀ x ∈ l, ((UInt8.ofNat x.toNat).toNat : Int) = x := fun x hx => ofNat_toNat x (h x hx).1 (h x hx).2
  unfold panL strOfNums
  simp only [List.map_map]
  conv => rhs; rw [← List.map_id l]
  exact List.map_congr_left fun x hx => this x hx
theorem strN_inj {a b : List Int} (ha : Byt a) (hb : Byt b) : (strOfNums a = strOfNums b) ↔ a = b :=
  ⟨fun h => by rw [← panL_strN ha, h, panL_strN hb], fun h => by rw [h]⟩
/-- Has a state a line? -/
def lineK (s : St) : Bool := digOk s.id 3 && digOk s.next 3 && digOk s.other 3 && kindB s.kind
def lineL (s : St) : List Int := decL s.id 3 ++ [32, s.kind, 32] ++ decL s.next 3 ++ [32] ++ decL s.other 3 ++ [10]
def lineS (s : St) : ByteArray := if lineK s = true then strOfNums (lineL s) else ⟨#[]⟩
theorem lineL_len (s : St) : (lineL s).length = 14 := by simp [lineL, decL_length]
theorem kind_cases {c : Int} (h : kindB c = true) : c = 65 ∨ c = 66 ∨ c = 68 ∨ c = 69 ∨ c = 73 ∨ c = 90 := by
  unfold kindB at h; simp only [Bool.or_eq_true, beq_iff_eq] at h; omega
theorem kind_byt {c : Int} (h : kindB c = true) : 0 ≤ c ∧ c < 256 := by have := kind_cases h; omega
theorem line_parts {s : St} (h : lineK s = true) : digOk s.id 3 = true ∧ digOk s.next 3 = true ∧ digOk s.other 3 = true ∧ kindB s.kind = true := by
  unfold lineK at h; simp only [Bool.and_eq_true] at h; exact ⟨h.1.1.1, h.1.1.2, h.1.2, h.2⟩
theorem lineL_byt {s : St} (h : 0 ≤ s.kind ∧ s.kind < 256) : Byt (lineL s) := by
  unfold lineL
  refine byt_app (byt_app (byt_app (byt_app (byt_app (decL_byt _ _) ?_) (decL_byt _ _)) ?_) (decL_byt _ _)) ?_
  · intro x hx; simp at hx; omega
  · intro x hx; simp at hx; omega
  · intro x hx; simp at hx; omega
theorem line_no {s : St} (h : lineK s = false) : lineS s = ⟨#[]⟩ := by unfold lineS; rw [h]; rfl
theorem line_yes {s : St} (h : lineK s = true) : lineS s = strOfNums (lineL s) := by unfold lineS; rw [if_pos h]
theorem one_str (k : Int) : (⟨#[UInt8.ofNat k.toNat]⟩ : ByteArray) = strOfNums [k] := rfl
theorem sp_str : (⟨#[32]⟩ : ByteArray) = strOfNums [32] := rfl
theorem nl_str : (⟨#[10]⟩ : ByteArray) = strOfNums [10] := rfl
/-- The line, as it is put together. -/
theorem line_cat (s : St) : strOfNums (decL s.id 3) ++ ⟨#[32]⟩ ++ strOfNums [s.kind] ++ ⟨#[32]⟩ ++ strOfNums (decL s.next 3) ++ ⟨#[32]⟩ ++ strOfNums (decL s.other 3) ++ ⟨#[10]⟩ = strOfNums (lineL s) := by
  rw [sp_str, nl_str]
  simp only [← strN_app]
  unfold lineL
  simp
/-- A list of three is three. -/
theorem list3 {l : List Int} (h : l.length = 3) : ∃ a b c, l = [a, b, c] := by
  match l, h with
  | [a, b, c], _ => exact ⟨a, b, c, rfl⟩
theorem dec3 (v : Int) : decL v 3 = [48 + v / 100 % 10, 48 + v / 10 % 10, 48 + v % 10] := by
  simp only [decL]
  have : v / 10 / 10 = v / 100 := by rw [Int.ediv_ediv_of_nonneg (by decide)]; rfl
  rw [this]; rfl
theorem digOk3 (v : Int) : digOk v 3 = decide (0 ≤ v ∧ v < 1000) := by
  unfold digOk
  rw [Bool.eq_iff_iff]
  simp
theorem num3 (l : List Int) (h : l.length = 3) (hb : Byt l) : digOk (numV (strOfNums l)) 3 = true ∧ (decL (numV (strOfNums l)) 3 = l ↔ numOk (strOfNums l) = true) := by
  obtain ⟨a, b, c, rfl⟩ := list3 h
  have ha := hb a (by simp)
  have hb2 := hb b (by simp)
  have hc := hb c (by simp)
  have ea := ofNat_toNat a ha.1 ha.2
  have eb := ofNat_toNat b hb2.1 hb2.2
  have ec := ofNat_toNat c hc.1 hc.2
  have hd : (strOfNums [a, b, c]).data.toList = [UInt8.ofNat a.toNat, UInt8.ofNat b.toNat, UInt8.ofNat c.toNat] := by rw [strOfNums_data]; rfl
  have hs : (strOfNums [a, b, c]).size = 3 := by rw [strOfNums_size]; rfl
  have hD : digB (strOfNums [a, b, c]).data.toList = decide ((48 ≤ a ∧ a ≤ 57) ∧ (48 ≤ b ∧ b ≤ 57) ∧ (48 ≤ c ∧ c ≤ 57)) := by
    rw [hd]; unfold digB; simp only [List.all_cons, List.all_nil, Bool.and_true, ea, eb, ec]; simp [Bool.decide_and]
  cases e : digB (strOfNums [a, b, c]).data.toList
  · have := numOk_dig e
    rw [this.1, this.2]
    refine ⟨by decide, ?_⟩
    rw [e] at hD
    have hD := of_decide_eq_false hD.symm
    rw [dec3]
    simp only [Bool.false_eq_true, iff_false]
    intro h
    simp only [List.cons.injEq, and_true] at h
    omega
  · have := numOk_yes (s := strOfNums [a, b, c]) (by omega) (by omega) e
    have hn : numV (strOfNums [a, b, c]) = ((a - 48) * 10 + (b - 48)) * 10 + (c - 48) := by
      rw [this.2, hd]; simp only [numD, List.foldl_cons, List.foldl_nil, ea, eb, ec]; omega
    rw [e] at hD
    have hD := of_decide_eq_true hD.symm
    rw [this.1, hn, digOk3, dec3]
    refine ⟨decide_eq_true (by omega), ?_⟩
    simp only [iff_true, List.cons.injEq, and_true]
    omega
/-- Is this the head of a line? -/
def firstK (x : List Int) : Bool := decide (14 ≤ x.length) && decide (x.getD 3 0 = 32) && decide (x.getD 5 0 = 32) && decide (x.getD 9 0 = 32) && decide (x.getD 13 0 = 10) && kindB (x.getD 4 0) && numOk (strOfNums (pc x 0 3)) && numOk (strOfNums (pc x 6 3)) && numOk (strOfNums (pc x 10 3))
def firstV (x : List Int) : St := ⟨numV (strOfNums (pc x 0 3)), x.getD 4 0, numV (strOfNums (pc x 6 3)), numV (strOfNums (pc x 10 3))⟩
theorem first_short {x : List Int} (h : x.length < 14) : firstK x = false := by unfold firstK; rw [decide_eq_false (by omega)]; rfl
theorem pc_lenX (x : List Int) (i m : Nat) (h : i + m ≤ x.length) : (pc x i m).length = m := by unfold pc; rw [List.length_take, List.length_drop]; omega
theorem byt_pc {x : List Int} (h : Byt x) (i m : Nat) : Byt (pc x i m) := byt_take (byt_drop h i) m
theorem take14 {x : List Int} (h : 14 ≤ x.length) : x.take 14 = pc x 0 3 ++ [x.getD 3 0, x.getD 4 0, x.getD 5 0] ++ pc x 6 3 ++ [x.getD 9 0] ++ pc x 10 3 ++ [x.getD 13 0] := by
  unfold pc
  match x, h with
  | x0 :: x1 :: x2 :: x3 :: x4 :: x5 :: x6 :: x7 :: x8 :: x9 :: x10 :: x11 :: x12 :: x13 :: r, _ => rfl
theorem app_eq {a b c d : List Int} (h : a.length = c.length) : (a ++ b = c ++ d) ↔ (a = c ∧ b = d) :=
  ⟨fun e => List.append_inj e h, fun e => by rw [e.1, e.2]⟩
/-- What laying the line anew tells is what the guards tell. -/
theorem first_iff {x : List Int} (h : 14 ≤ x.length) (hb : Byt x) : (lineK (firstV x) && decide (lineL (firstV x) = x.take 14)) = firstK x := by
  have n1 := num3 (pc x 0 3) (pc_lenX x 0 3 (by omega)) (byt_pc hb _ _)
  have n2 := num3 (pc x 6 3) (pc_lenX x 6 3 (by omega)) (byt_pc hb _ _)
  have n3 := num3 (pc x 10 3) (pc_lenX x 10 3 (by omega)) (byt_pc hb _ _)
  have l1 : (decL (numV (strOfNums (pc x 0 3))) 3).length = (pc x 0 3).length := by rw [decL_length, pc_lenX x 0 3 (by omega)]
  have l2 : (decL (numV (strOfNums (pc x 6 3))) 3).length = (pc x 6 3).length := by rw [decL_length, pc_lenX x 6 3 (by omega)]
  have l3 : (decL (numV (strOfNums (pc x 10 3))) 3).length = (pc x 10 3).length := by rw [decL_length, pc_lenX x 10 3 (by omega)]
  rw [take14 h]
  unfold lineK lineL firstK firstV
  simp only [n1.1, n2.1, n3.1, Bool.true_and]
  rw [decide_eq_true h, Bool.true_and, Bool.eq_iff_iff]
  simp only [Bool.and_eq_true, decide_eq_true_eq, List.append_assoc]
  rw [app_eq l1, app_eq (by simp), app_eq l2, app_eq (by simp), app_eq l3, n1.2, n2.2, n3.2]
  simp only [List.cons.injEq, and_true, true_and]
  constructor
  · rintro ⟨hk, h1, ⟨h3, h5⟩, h6, h9, h10, h13⟩
    exact ⟨⟨⟨⟨⟨⟨⟨h3.symm, h5.symm⟩, h9.symm⟩, h13.symm⟩, hk⟩, h1⟩, h6⟩, h10⟩
  · rintro ⟨⟨⟨⟨⟨⟨⟨h3, h5⟩, h9⟩, h13⟩, hk⟩, h1⟩, h6⟩, h10⟩
    exact ⟨hk, h1, ⟨h3.symm, h5.symm⟩, h6, h9.symm, h10, h13.symm⟩
end Go.Proofs.Ythhgochnlbiaaaa
