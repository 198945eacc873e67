/- A key's text, which key a text is, which key is ahead: the program's and the document's. -/
import Derived.Test.YtahkgbhikkebhaaDigR
namespace Go.Proofs.Ytahkgbhikkebhaa
open Go.ChangeShapes Go.WideShapes Go.ChangeAt Go.RowKit

def dash : ByteArray := ⟨#[45]⟩
theorem digS_size (v : Int) (n : Nat) : (digS v n).size ≤ n := by
  unfold digS
  split
  · have : (strOfNums (decL v ((n : Int)).toNat)).size = n := by
      rw [Int.toNat_natCast]
      have : (strOfNums (decL v n)).data.toList.length = n := by rw [strOfNums_data]; simp [decL_length]
      simpa using this
    omega
  · exact Nat.zero_le _
/-- The text of a key. -/
def textL (t s : Int) : ByteArray := if digOk s 6 = true then ⟨#[45]⟩ ++ digS t 5 ++ ⟨#[45]⟩ ++ digS s 6 else ⟨#[]⟩
/-- Block q holds a key. -/
def KB (w : World) (q : Nat) (t s : Int) : Prop := w.heap[q]? = some (.cells #[.int .u16 t, .int .u32 s] 33 (0, 0))
theorem KB.new (w : World) (t s : Int) : KB (w.alloc (.cells #[.int .u16 t, .int .u32 s] 33)) w.heap.size t s := heap_alloc_new w _
theorem KB.lt {w : World} {q : Nat} {t s : Int} (h : KB w q t s) : q < w.heap.size := (Array.getElem?_eq_some_iff.1 h).1
theorem KB.below {w w' : World} {q : Nat} {t s : Int} (h : KB w q t s) (hb : Below w.heap.size w w') : KB w' q t s := (hb.block q h.lt).trans h
theorem KB.cells {w : World} {q : Nat} {t s : Int} (h : KB w q t s) : w.cell? ⟨q, 0, none⟩ = some (.int .u16 t) ∧ w.cell? ⟨q, 1, none⟩ = some (.int .u32 s) ∧ w.frozen? ⟨q, 0, none⟩ = false ∧ w.frozen? ⟨q, 1, none⟩ = false :=
  ⟨by rw [cell_of_head h]; rfl, by rw [cell_of_head h]; rfl, froz_of_head h 0, froz_of_head h 1⟩
theorem dash_size : (⟨#[45]⟩ : ByteArray).size = 1 := rfl
theorem app_size (a b : ByteArray) : (a ++ b).size = a.size + b.size := by simp
set_option maxHeartbeats 1000000 in
theorem text11 (t s : Int) (w : World) (h0 : 0 ≤ t) (h1 : t < 65536) (s0 : 0 ≤ s) (s1 : s < 4294967296) :
    Calls Try.prog 11 #[.agg #[.int .u16 t, .int .u32 s]] w fun e w' => e = .returned (.string (textL t s)) ∧ Below w.heap.size w w' := by
  have HD : Hid (∀ w, Calls Try.prog 21 #[.int .i64 t, .int .i64 5] w fun e w' => e = .returned (.tuple #[.string (digS t 5), .bool (digOk t 5)]) ∧ Below w.heap.size w w') := hid fun w => digits10 t 5 w (by omega)
  have HE : Hid (∀ w, Calls Try.prog 21 #[.int .i64 s, .int .i64 6] w fun e w' => e = .returned (.tuple #[.string (digS s 6), .bool (digOk s 6)]) ∧ Below w.heap.size w w') := hid fun w => digits10 s 6 w (by omega)
  have HT : Hid (textL t s = if digOk s 6 = true then ⟨#[45]⟩ ++ digS t 5 ++ ⟨#[45]⟩ ++ digS s 6 else ⟨#[]⟩) := rfl
  have z5 := digS_size t 5
  have z6 := digS_size s 6
  have x1 : IntKind.i64.wrap t = t := by rw [IntKind.wrap_i64]; omega
  have x2 : IntKind.i64.wrap s = s := by rw [IntKind.wrap_i64]; omega
  generalize digS t 5 = A at *
  generalize digS s 6 = C at *
  generalize digOk t 5 = u at *
  generalize digOk s 6 = v at *
  obtain ⟨R, hR⟩ : ∃ R, textL t s = R := ⟨_, rfl⟩
  rw [hR] at HT ⊢
  clear hR
  have y1 : ¬ 9223372036854775807 < (⟨#[45]⟩ : ByteArray).size + A.size := by rw [dash_size]; omega
  have y2 : ¬ 9223372036854775807 < ((⟨#[45]⟩ : ByteArray) ++ A).size + (⟨#[45]⟩ : ByteArray).size := by rw [app_size, dash_size]; omega
  have y3 : ¬ 9223372036854775807 < ((⟨#[45]⟩ : ByteArray) ++ A ++ ⟨#[45]⟩).size + C.size := by rw [app_size, app_size, dash_size]; omega
  have TK := hid True.intro
  cases v
  · have HT' := hid (HT.out.trans (if_neg (by decide)))
    clear HT
    go_enter Try.func11, Try.ntmps11
    go_wp2_with (first
      | (go_at_call 21; have kill := L1.out; refine (HE.out _).mono ?_; rintro e w2 ⟨rfl, l2⟩; have L2 := hid (sq L1.out l2); clear l2 L1 kill)
      | (go_at_call 21; have kill := TK.out; refine (HD.out _).mono ?_; rintro e w1 ⟨rfl, l1⟩; have L1 := hid (sq (bel1 w (.cells #[.int .u16 t, .int .u32 s] 33)) l1); obtain ⟨k0, k1, _⟩ := ((KB.new w t s).below l1).cells; clear l1 TK kill))
    go_ret
    exact ⟨congrArg (fun x => Ending.returned (Value.string x)) HT'.out.symm, L2.out⟩
  · have HT' := hid (HT.out.trans (if_pos rfl))
    clear HT
    go_enter Try.func11, Try.ntmps11
    go_wp2_with (first
      | (go_at_call 21; have kill := L1.out; refine (HE.out _).mono ?_; rintro e w2 ⟨rfl, l2⟩; have L2 := hid (sq L1.out l2); clear l2 L1 kill)
      | (go_at_call 21; have kill := TK.out; refine (HD.out _).mono ?_; rintro e w1 ⟨rfl, l1⟩; have L1 := hid (sq (bel1 w (.cells #[.int .u16 t, .int .u32 s] 33)) l1); obtain ⟨k0, k1, _⟩ := ((KB.new w t s).below l1).cells; clear l1 TK kill))
    go_ret
    exact ⟨congrArg (fun x => Ending.returned (Value.string x)) HT'.out.symm, L2.out⟩
set_option maxHeartbeats 1000000 in
theorem text13 (t s : Int) (w : World) (h0 : 0 ≤ t) (h1 : t < 65536) (s0 : 0 ≤ s) (s1 : s < 4294967296) :
    Calls Try.prog 13 #[.agg #[.int .u16 t, .int .u32 s]] w fun e w' => e = .returned (.string (textL t s)) ∧ Below w.heap.size w w' := by
  have HD : Hid (∀ w, Calls Try.prog 23 #[.int .i64 t, .int .i64 5] w fun e w' => e = .returned (.tuple #[.string (digS t 5), .bool (digOk t 5)]) ∧ Below w.heap.size w w') := hid fun w => (digits11 t 5 w (by omega)).mono fun e w' h => ⟨h.1, h.2 ▸ Below.refl _ _⟩
  have HE : Hid (∀ w, Calls Try.prog 23 #[.int .i64 s, .int .i64 6] w fun e w' => e = .returned (.tuple #[.string (digS s 6), .bool (digOk s 6)]) ∧ Below w.heap.size w w') := hid fun w => (digits11 s 6 w (by omega)).mono fun e w' h => ⟨h.1, h.2 ▸ Below.refl _ _⟩
  have HT : Hid (textL t s = if digOk s 6 = true then ⟨#[45]⟩ ++ digS t 5 ++ ⟨#[45]⟩ ++ digS s 6 else ⟨#[]⟩) := rfl
  have z5 := digS_size t 5
  have z6 := digS_size s 6
  have x1 : IntKind.i64.wrap t = t := by rw [IntKind.wrap_i64]; omega
  have x2 : IntKind.i64.wrap s = s := by rw [IntKind.wrap_i64]; omega
  generalize digS t 5 = A at *
  generalize digS s 6 = C at *
  generalize digOk t 5 = u at *
  generalize digOk s 6 = v at *
  obtain ⟨R, hR⟩ : ∃ R, textL t s = R := ⟨_, rfl⟩
  rw [hR] at HT ⊢
  clear hR
  have y1 : ¬ 9223372036854775807 < (⟨#[45]⟩ : ByteArray).size + A.size := by rw [dash_size]; omega
  have y2 : ¬ 9223372036854775807 < ((⟨#[45]⟩ : ByteArray) ++ A).size + (⟨#[45]⟩ : ByteArray).size := by rw [app_size, dash_size]; omega
  have y3 : ¬ 9223372036854775807 < ((⟨#[45]⟩ : ByteArray) ++ A ++ ⟨#[45]⟩).size + C.size := by rw [app_size, app_size, dash_size]; omega
  have TK := hid True.intro
  cases v
  · have HT' := hid (HT.out.trans (if_neg (by decide)))
    clear HT
    go_enter Try.func13, Try.ntmps13
    go_wp2_with (first
      | (go_at_call 23; have kill := L1.out; refine (HE.out _).mono ?_; rintro e w2 ⟨rfl, l2⟩; have L2 := hid (sq L1.out l2); clear l2 L1 kill)
      | (go_at_call 23; have kill := TK.out; refine (HD.out _).mono ?_; rintro e w1 ⟨rfl, l1⟩; have L1 := hid (sq (bel1 w (.cells #[.int .u16 t, .int .u32 s] 33)) l1); obtain ⟨k0, k1, _⟩ := ((KB.new w t s).below l1).cells; clear l1 TK kill))
    go_ret
    exact ⟨congrArg (fun x => Ending.returned (Value.string x)) HT'.out.symm, L2.out⟩
  · have HT' := hid (HT.out.trans (if_pos rfl))
    clear HT
    go_enter Try.func13, Try.ntmps13
    go_wp2_with (first
      | (go_at_call 23; have kill := L1.out; refine (HE.out _).mono ?_; rintro e w2 ⟨rfl, l2⟩; have L2 := hid (sq L1.out l2); clear l2 L1 kill)
      | (go_at_call 23; have kill := TK.out; refine (HD.out _).mono ?_; rintro e w1 ⟨rfl, l1⟩; have L1 := hid (sq (bel1 w (.cells #[.int .u16 t, .int .u32 s] 33)) l1); obtain ⟨k0, k1, _⟩ := ((KB.new w t s).below l1).cells; clear l1 TK kill))
    go_ret
    exact ⟨congrArg (fun x => Ending.returned (Value.string x)) HT'.out.symm, L2.out⟩
end Go.Proofs.Ytahkgbhikkebhaa
