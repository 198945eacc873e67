/- Put, by the document. -/
import Derived.Test.YthhgnflkplpklaaRBodyR
namespace Go.Proofs.Ythhgnflkplpklaa.Frm
set_option maxRecDepth 20000
open Go.ChangeShapes Go.WideShapes Go.ChangeAt Go.RowKit

theorem crc_gv {w : World} {ao : Option Addr} {len cap : Nat} {zs : List Int} (h : Given w ao len cap zs) :
    Calls Try.prog 51 #[.slice ao len cap] w fun e w' => e = .returned (.int .u32 (crcL zs)) ∧ w = w' :=
  crc_any ao len cap zs w h.leq h.row h.byt (by have h1 := h.cap1; have h2 := h.cap2; unfold maxLen; omega)
set_option maxHeartbeats 1000000 in
theorem putR_no (r : Rc) (w : World) (hs : r.pan.size ≤ 9223372036854775807) (hr : rightB r = false) :
    Calls Try.prog 33 #[r.val] w fun e w' => e = .returned (.tuple #[.slice none 0 0, .int .i64 27]) ∧ Below w.heap.size w w' := by
  go_enter Try.func33, Try.ntmps33
  go_wp2_with (first | (refine bx29 (r := r) rfl _ rfl rfl ?_; intro b0 w0 hb0 rv0 bl0; have RV0 := hid rv0; have BL0 := hid bl0; clear rv0 bl0 hb0) | refine ld29 RV0.out rfl _ rfl rfl ?_ | (go_at_call 24; refine (rightR_any r _ hs).mono ?_; rintro e w1 ⟨rfl, b1⟩; have B1 := hid b1; clear b1))
  go_ret2
  exact ⟨rfl, sq BL0.out B1.out⟩
set_option maxHeartbeats 1000000 in
theorem putR_yes (r : Rc) (w : World) (hr : rightB r = true) (ho : r.Ok) (n : Nat) (hn : 42 + r.pan.size = n) :
    Calls Try.prog 33 #[r.val] w fun e w' => ∃ ao cap, e = .returned (.tuple #[.slice ao n cap, .int .i64 0]) ∧ Mk w w' (.slice ao n cap) n (putL r) := by
  have hsz := (rt_of hr).size
  have HR := hid (rt_of hr)
  have HO := hid ho
  clear ho
  obtain ⟨N, hN⟩ : ∃ N, 36 + r.pan.size = N := ⟨_, rfl⟩
  have hN1 : 36 ≤ N := by omega
  have hN2 : N ≤ 55 := by omega
  have HNN := hid hN
  have en : 2 + N + 4 = n := by omega
  have HE := hid en
  have HS := hid hsz
  clear hN hn en hsz
  have HLEN : Hid ((bodyL r).length = N) := by unfold Hid; rw [bodyL_len]; exact HNN.out
  have hwr : IntKind.u64.wrap (crcL (bodyL r)) = crcL (bodyL r) := wrap_w32 (crcL_w32 (bodyL_byt r))
  have HC := hid (crcL_w32 (bodyL_byt r))
  go_enter Try.func33, Try.ntmps33
  go_wp2_with (first | (at_builtin; refine app_row D5.out.1 P5.out (bytesL_length _ _) (fun e => by cases e) D5.out.2.size (by omega) rfl _ _ rfl rfl rfl ?_; intro ao6 cap6 w6 r6 t6; have D6 := hid (D5.out.next r6 t6); clear r6 t6) | (go_at_call 50; refine (put_at (crcL (bodyL r)) 4 w4 (by omega) (by omega) HC.out.1 (by have := HC.out.2; omega)).mono ?_; rintro e w5 ⟨b5, rfl, r5, l5⟩; have D5 := hid (D4.out.more l5); have P5 := hid r5; clear r5 l5) | (go_at_call 51; refine (crc_gv G4.out).mono ?_; rintro e w' ⟨rfl, rfl⟩) | (at_builtin; have M2 : Mk w2 (w2.alloc (Obj.cells #[Value.int IntKind.u8 165, Value.int IntKind.u8 (N : Int)] 5)) (.slice (some ⟨w2.heap.size, 0, none⟩) 2 2) 2 [165, (N : Int)] := Mk.new w2 [165, (N : Int)] 2 rfl (by omega); have R2 : RowAt (w2.alloc (Obj.cells #[Value.int IntKind.u8 165, Value.int IntKind.u8 (N : Int)] 5)) ao2 (bodyL r) := row_mono (bel1 w2 _) D2.out.1.at; refine app_row (l1 := [165, (N : Int)]) (l2 := bodyL r) M2.1 R2 HLEN.out D2.out.1.caps.1 (by simp) (by omega) rfl _ _ rfl rfl rfl ?_; intro ao4 cap4 w4 r4 t4; have D4 := hid (M2.next r4 t4); have G4 := hid ((D2.out.given (bodyL_byt r)).below (M2.next r4 t4).2); clear r4 t4 M2 R2) | (go_at_call 49; refine (bodyR_to r _ N HNN.out HR.out HO.out).mono ?_; rintro e w2 ⟨ao2, cap2, rfl, d2⟩; have D2 := hid d2; clear d2) | refine ld29 RV1.out rfl _ rfl rfl ?_ | (go_at_call 24; refine (rightR_any r _ (by have := HS.out; omega)).mono ?_; rintro e w1 ⟨rfl, b1⟩; have B1 := hid b1; have RV1 := hid (RV0.out.below b1); clear b1) | refine ld29 RV0.out rfl _ rfl rfl ?_ | (refine bx29 (r := r) rfl _ rfl rfl ?_; intro b0 w0 hb0 rv0 bl0; have RV0 := hid rv0; have BL0 := hid bl0; clear rv0 bl0 hb0))
  go_ret2
  have hbel : Below w.heap.size w w2 := sq (sq BL0.out B1.out) D2.out.2
  have hE := HE.out
  subst hE
  refine ⟨ao6, cap6, rfl, ?_⟩
  have e : putL r = ([165, (N : Int)] ++ bodyL r) ++ bytesL (crcL (bodyL r)) 4 := by rw [putL, HLEN.out]
  rw [e]
  exact Mk.wide hbel D6.out
end Go.Proofs.Ythhgnflkplpklaa.Frm
