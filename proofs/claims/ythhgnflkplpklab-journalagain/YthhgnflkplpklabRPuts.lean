/- Put, by the program. -/
import Derived.Test.YthhgnflkplpklabRWide
namespace Go.Proofs.Ythhgnflkplpklab.Frm
open Go.ChangeShapes Go.WideShapes Go.ChangeAt Go.RowKit

theorem body_at (r : Rc) (w : World) (N : Nat) (hN : 36 + r.pan.size = N) (hr : Rt r) (ho : r.Ok) :
    Calls Try.prog 46 #[r.val] w fun e w' => ∃ ao cap, e = .returned (.slice ao N cap) ∧ Mk w w' (.slice ao N cap) N (bodyL r) := by
  subst hN; exact body_to r w hr ho
theorem wrap_w32 {c : Int} (h : W32 c) : IntKind.u64.wrap c = c := by rw [IntKind.wrap_u64]; unfold W32 at h; omega
set_option maxHeartbeats 1000000 in
theorem put_no (r : Rc) (w : World) (hs : r.pan.size ≤ 9223372036854775807) (hr : rightB r = false) :
    Calls Try.prog 39 #[r.val] w fun e w' => e = .returned (.tuple #[.slice none 0 0, .int .i64 27]) ∧ Below w.heap.size w w' := by
  go_enter Try.func39, Try.ntmps39
  go_wp2_with (first | (refine bx29 (r := r) rfl _ rfl rfl ?_; intro b0 w0 hb0 rv0 bl0; have RV0 := hid rv0; have BL0 := hid bl0; clear rv0 bl0 hb0) | refine ld29 RV0.out rfl _ rfl rfl ?_ | (go_at_call 44; refine (right_any r _ hs).mono ?_; rintro e w1 ⟨rfl, b1⟩; have B1 := hid b1; clear b1))
  go_ret2
  exact ⟨rfl, sq BL0.out B1.out⟩
set_option maxHeartbeats 1000000 in
theorem put_yes (r : Rc) (w : World) (hr : rightB r = true) (ho : r.Ok) (n : Nat) (hn : 42 + r.pan.size = n) :
    Calls Try.prog 39 #[r.val] w fun e w' => ∃ ao cap, e = .returned (.tuple #[.slice ao n cap, .int .i64 0]) ∧ Mk w w' (.slice ao n cap) n (putL r) := by
  have hsz := (rt_of hr).size
  have HR := hid (rt_of hr)
  have HO := hid ho
  clear ho
  obtain ⟨N, hN⟩ : ∃ N, 36 + r.pan.size = N := ⟨_, rfl⟩
  have hN1 : 36 ≤ N := by omega
  have hN2 : N ≤ 55 := by omega
  have HNN := hid hN
  have en : 2 + N + 4 = n := by omega
  have HE := hid en
  have HS := hid hsz
  clear hN hn en hsz
  have HLEN : Hid ((bodyL r).length = N) := by unfold Hid; rw [bodyL_len]; exact HNN.out
  go_enter Try.func39, Try.ntmps39
  have hwr : IntKind.u64.wrap (crcL (bodyL r)) = crcL (bodyL r) := wrap_w32 (crcL_w32 (bodyL_byt r))
  go_wp2_with (first | (go_at_call 47; refine (number_to D4.out (crcL (bodyL r)) 4 n HE.out (by omega) (by omega) (by omega) HC.out.1 (by have := HC.out.2; omega)).mono ?_; rintro e w5 ⟨ao5, cap5, rfl, d5⟩; have D5 := hid d5; clear d5) | (go_at_call 38; refine (sum_any _ _ _ (bodyL r) _ HLEN.out R4.out (bodyL_byt r) (by unfold maxLen; omega)).mono ?_; rintro e w' ⟨rfl, rfl⟩; have HC := hid (crcL_w32 (bodyL_byt r))) | (at_builtin; have M2 : Mk w2 (w2.alloc (Obj.cells #[Value.int IntKind.u8 165, Value.int IntKind.u8 (N : Int)] 5)) (.slice (some ⟨w2.heap.size, 0, none⟩) 2 2) 2 [165, (N : Int)] := Mk.new w2 [165, (N : Int)] 2 rfl (by omega); have R2 : RowAt (w2.alloc (Obj.cells #[Value.int IntKind.u8 165, Value.int IntKind.u8 (N : Int)] 5)) ao2 (bodyL r) := row_mono (bel1 w2 _) D2.out.1.at; refine app_row (l1 := [165, (N : Int)]) (l2 := bodyL r) M2.1 R2 HLEN.out D2.out.1.caps.1 (by simp) (by omega) rfl _ _ rfl rfl rfl ?_; intro ao4 cap4 w4 r4 t4; have D4 := hid (M2.next r4 t4); have R4 := hid (row_mono (M2.next r4 t4).2 D2.out.1.at); clear r4 t4 M2 R2) | (go_at_call 46; refine (body_at r _ N HNN.out HR.out HO.out).mono ?_; rintro e w2 ⟨ao2, cap2, rfl, d2⟩; have D2 := hid d2; clear d2) | refine ld29 RV1.out rfl _ rfl rfl ?_ | (go_at_call 44; refine (right_any r _ (by have := HS.out; omega)).mono ?_; rintro e w1 ⟨rfl, b1⟩; have B1 := hid b1; have RV1 := hid (RV0.out.below b1); clear b1) | refine ld29 RV0.out rfl _ rfl rfl ?_ | (refine bx29 (r := r) rfl _ rfl rfl ?_; intro b0 w0 hb0 rv0 bl0; have RV0 := hid rv0; have BL0 := hid bl0; clear rv0 bl0 hb0))
  go_ret2
  have hbel : Below w.heap.size w w2 := sq (sq BL0.out B1.out) D2.out.2
  refine ⟨_, _, rfl, ?_, sq hbel D5.out.2⟩
  have e : putL r = ([165, (N : Int)] ++ bodyL r) ++ bytesL (crcL (bodyL r)) 4 := by rw [putL, HLEN.out]
  rw [e]
  exact D5.out.1.mono hbel.size
end Go.Proofs.Ythhgnflkplpklab.Frm
