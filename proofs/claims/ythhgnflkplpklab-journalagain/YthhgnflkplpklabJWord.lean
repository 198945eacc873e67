/- Words and heads as bytes, there and back. -/
import Derived.Test.YthhgnflkplpklabJSmall
namespace Go.Proofs.Ythhgnflkplpklab
set_option maxRecDepth 20000
open Go.ChangeShapes Go.WideShapes Go.ChangeAt Go.RowKit
open Dsc (Dk hid sq bel1)
open Frm (Rc num bytesL Given Mk Row RowAt num_bd byt_take byt_getD take_snocI num_snoc)

theorem or8w (v x : Int) (h0 : 0 ≤ v) (h1 : v < 16777216) (hx : 0 ≤ x) (hx' : x < 256) : bits .or .u32 (v * 256) x = v * 256 + x :=
  bits_join .u32 32 (by decide) (fun n a b => by rw [IntKind.wrap_u32]; omega) 8 _ _ (by omega) (by omega) (by omega) hx (by omega) (by omega)
theorem or1w (v x : Int) (h0 : 0 ≤ v) (h1 : v < 2147483648) (hx : 0 ≤ x) (hx' : x < 2) : bits .or .u32 (v * 2) x = v * 2 + x :=
  bits_join .u32 32 (by decide) (fun n a b => by rw [IntKind.wrap_u32]; omega) 1 _ _ (by omega) (by omega) (by omega) hx (by omega) (by omega)
theorem num_lt {zs : List Int} (hb : Frm.Byt zs) {k : Nat} (hk : k ≤ 3) : num (zs.take k) < 16777216 := by
  have h := (num_bd (zs.take k) (byt_take hb k)).2
  have hl : (zs.take k).length ≤ 3 := by rw [List.length_take]; omega
  have h2 : (2 : Int) ^ (8 * (zs.take k).length) ≤ 16777216 := by
    have : (2 : Nat) ^ (8 * (zs.take k).length) ≤ 2 ^ 24 := Nat.pow_le_pow_right (by decide) (by omega)
    have e : (16777216 : Int) = ((2 ^ 24 : Nat) : Int) := by decide
    rw [e]; exact_mod_cast this
  omega
set_option maxHeartbeats 1000000 in
theorem word_any {w : World} {ao : Option Addr} {len cap : Nat} {zs : List Int} (h : Given w ao len cap zs) (h4 : 4 ≤ len) :
    Calls Try.prog 28 #[.slice ao len cap] w fun e w' => e = .returned (.int .u32 (num (zs.take 4))) ∧ w = w' := by
  have hl := h.leq
  have hb := h.byt
  have c1 := h.cap1
  have c2 := h.cap2
  obtain ⟨b, off, rfl⟩ := h.row.some (by omega)
  have hcell : ∀ i, i < zs.length → w.cell? ⟨b, off + i, none⟩ = some (.int .u8 (zs.getD i 0)) := by
    rcases h.row with e | ⟨b', o', e, hc⟩
    · rw [e] at hl; simp at hl; omega
    · cases e; exact hc
  clear h
  go_enter Try.func28, Try.ntmps28
  go_wp2
  go_loop [3, 9] (fun v i => ∃ k : Nat, k ≤ 4 ∧ i = .int .i64 (k : Int) ∧ v = .int .u32 (num (zs.take k))) (fun _ i => 4 - (intOf i).toNat)
  case atStart => exact ⟨0, by omega, rfl, rfl⟩
  case round =>
    obtain ⟨k, hk, rfl, rfl⟩ := hrel
    have hn0 := (num_bd (zs.take k) (byt_take hb k)).1
    by_cases hlt : k < 4
    · have hx := byt_getD hb k
      have hsn : Hid (num (zs.take (k + 1)) = num (zs.take k) * 256 + zs.getD k 0) := by rw [take_snocI zs k (by omega)]; exact num_snoc _ _
      have hc := hcell k (by omega)
      have hp := num_lt hb (k := k) (by omega)
      generalize num (zs.take k) = p at *
      generalize zs.getD k 0 = x at *
      have e8 := or8w p x hn0 hp hx.1 hx.2
      clear hcell
      go_wp2
      go_round
      case rel => exact ⟨k + 1, by omega, by go_num, by rw [hsn.out]⟩
      case measure => simp [intOf]; omega
    · have ek : k = 4 := by omega
      subst ek
      go_wp2
      go_ret
      exact ⟨rfl, rfl⟩
/-- The first bytes of a word are written. -/
theorem bytes4 (v : Int) : bytesL v 4 = [v / 16777216 % 256, v / 65536 % 256, v / 256 % 256, v % 256] := by
  have e1 : v / 256 / 256 = v / 65536 := by omega
  have e2 : v / 256 / 256 / 256 = v / 16777216 := by omega
  show [((v / 256 / 256 / 256) % 256), ((v / 256 / 256) % 256), (v / 256 % 256), (v % 256)] = _
  rw [e2, e1]
theorem one_row (w : World) (x : Int) : RowAt (w.alloc (.cells #[.int .u8 x] 5)) (some ⟨w.heap.size, 0, none⟩) [x] := by
  refine .inr ⟨_, _, rfl, fun i hi => ?_⟩
  have : i = 0 := by simpa using hi
  subst this
  rw [Dsc.cell_of_head (heap_alloc_new w _)]; rfl
theorem Mk.size {W0 w : World} {v : Value} {n : Nat} {l : List Int} (h : Mk W0 w v n l) : W0.heap.size ≤ w.heap.size := h.2.size
/-- One byte is appended, behind the making of its row. -/
theorem app_one {ops : Array Oper} {rest : List Oper} {o : Oper} {a : Act} {W0 w : World} {Q : Exit → Act → World → Prop} {n1 c1 : Nat} {ao1 : Option Addr} {l1 : List Int} {x : Int}
    (h1 : Mk W0 w (.slice ao1 n1 c1) n1 l1) (hsmall : n1 ≤ 999999) (hgd : o.guard = none) (s y : Operand) (ho : o.op = .call { callee := .builtin .append, args := #[s, y], argTypes := #[22, 22] })
    (hs : a.eval s = .slice ao1 n1 c1) (hx : a.eval y = .slice (some ⟨w.heap.size, 0, none⟩) 1 1)
    (h : ∀ ao cap w', Mk W0 w' (.slice ao (n1 + 1) cap) (n1 + 1) (l1 ++ [x]) → wpList Try.prog ops Q rest (a.put o.dst (.slice ao (n1 + 1) cap)) w') :
    wpList Try.prog ops Q (o :: rest) a (w.alloc (.cells #[.int .u8 x] 5)) :=
  Frm.app_row (h1.1.below (bel1 _ _)) (one_row w x) rfl (fun e => by cases e) (Nat.le_trans h1.2.size (bel1 _ _).size) (by show n1 + 1 ≤ 1000000; omega) hgd s y ho hs hx fun ao cap w' r t => h ao cap w' ((h1.more (bel1 _ _)).next r t)
set_option maxHeartbeats 2000000 in
theorem putWord_any {W0 w : World} {ao : Option Addr} {n cap : Nat} {l : List Int} (h : Mk W0 w (.slice ao n cap) n l) (hn : n ≤ 1000) (v : Int) (m : Nat) (hm : n + 4 = m) :
    Calls Try.prog 56 #[.slice ao n cap, .int .u32 v] w fun e w' => ∃ ao cap, e = .returned (.slice ao m cap) ∧ Mk W0 w' (.slice ao m cap) m (l ++ bytesL v 4) := by
  subst hm
  have H := hid h
  clear h
  go_enter Try.func56, Try.ntmps56
  go_wp2
  go_loopw [0, 5] (fun o i wr => ∃ (k N : Nat) (ao : Option Addr) (cap : Nat), k ≤ 4 ∧ n + k = N ∧ i = .int .i64 (3 - (k : Int)) ∧ o = .slice ao N cap ∧ Mk W0 wr (.slice ao N cap) N (l ++ (bytesL v 4).take k)) (fun _ i _ => (intOf i + 1).toNat)
  case atStart => exact ⟨0, n, ao, cap, by omega, rfl, rfl, rfl, by simpa using H.out⟩
  case round =>
    obtain ⟨k, N, ao2, cap2, hk, hN, rfl, rfl, hD⟩ := hrel
    rw [bytes4] at hD
    have HB := hid (bytes4 v)
    have D := hid hD
    clear hD H
    have e : k = 0 ∨ k = 1 ∨ k = 2 ∨ k = 3 ∨ k = 4 := by omega
    rcases e with rfl | rfl | rfl | rfl | rfl
    · have x1 : IntKind.u8.wrap (v / 16777216) = v / 16777216 % 256 := by rw [IntKind.wrap_u8]
      have x2 : IntKind.i64.wrap 0 = 0 := by decide
      go_wp2_with (at_builtin; refine app_one D.out (by omega) rfl _ _ rfl rfl rfl ?_; intro ao3 cap3 w3 d3; have D3 := hid d3; clear d3)
      go_roundw
      case rel => exact ⟨1, N + 1, ao3, cap3, by omega, by omega, by go_num, rfl, by have := D3.out; simpa [bytes4] using this⟩
      case measure => simp [intOf]
    · have x1 : IntKind.u8.wrap (v / 65536) = v / 65536 % 256 := by rw [IntKind.wrap_u8]
      have x2 : IntKind.i64.wrap 0 = 0 := by decide
      go_wp2_with (at_builtin; refine app_one D.out (by omega) rfl _ _ rfl rfl rfl ?_; intro ao3 cap3 w3 d3; have D3 := hid d3; clear d3)
      go_roundw
      case rel => exact ⟨2, N + 1, ao3, cap3, by omega, by omega, by go_num, rfl, by have := D3.out; simpa [bytes4] using this⟩
      case measure => simp [intOf]
    · have x1 : IntKind.u8.wrap (v / 256) = v / 256 % 256 := by rw [IntKind.wrap_u8]
      have x2 : IntKind.i64.wrap 0 = 0 := by decide
      go_wp2_with (at_builtin; refine app_one D.out (by omega) rfl _ _ rfl rfl rfl ?_; intro ao3 cap3 w3 d3; have D3 := hid d3; clear d3)
      go_roundw
      case rel => exact ⟨3, N + 1, ao3, cap3, by omega, by omega, by go_num, rfl, by have := D3.out; simpa [bytes4] using this⟩
      case measure => simp [intOf]
    · have x1 : IntKind.u8.wrap (v) = v % 256 := by rw [IntKind.wrap_u8]
      have x2 : IntKind.i64.wrap 0 = 0 := by decide
      go_wp2_with (at_builtin; refine app_one D.out (by omega) rfl _ _ rfl rfl rfl ?_; intro ao3 cap3 w3 d3; have D3 := hid d3; clear d3)
      go_roundw
      case rel => exact ⟨4, N + 1, ao3, cap3, by omega, by omega, by go_num, rfl, by have := D3.out; simpa [bytes4] using this⟩
      case measure => simp [intOf]
    · go_wp2
      go_ret
      exact ⟨ao2, cap2, by rw [hN]; rfl, by rw [HB.out, hN]; exact D.out⟩
end Go.Proofs.Ythhgnflkplpklab
