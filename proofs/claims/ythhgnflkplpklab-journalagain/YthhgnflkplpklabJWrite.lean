/- Records are laid on the disk: their frames, what stands ahead of them in their sector, the writes. -/
import Derived.Test.YthhgnflkplpklabJOpen
namespace Go.Proofs.Ythhgnflkplpklab
set_option maxRecDepth 20000
open Go.ChangeShapes Go.WideShapes Go.ChangeAt Go.RowKit
open Dsc (Dk Sec hid sq bel1 writeD writeZ syncD errZ stepD reachZ)
open Frm (Rc putL rightB bytesL num Given Mk Row RowAt RV al29 st29 ld29)

/-- Records whose parts are within their widths. -/
def Wid (l : List Rc) : Prop := ∀ r ∈ l, r.Ok ∧ r.pan.size ≤ 9223372036854775807
def AllR (l : List Rc) : Prop := ∀ r ∈ l, rightB r = true
theorem Good.of {l : List Rc} (h : Wid l) (k : AllR l) : Good l := fun r hr => ⟨k r hr, (h r hr).1⟩
theorem Good.wid {l : List Rc} (h : Good l) : Wid l := fun r hr => ⟨(h r hr).2, by have := (Frm.rt_of (h r hr).1).size; omega⟩
theorem Good.all {l : List Rc} (h : Good l) : AllR l := fun r hr => (h r hr).1
theorem frs_mono (l : List Rc) {k m : Nat} (h : k ≤ m) : (frs (l.take k)).length ≤ (frs (l.take m)).length := by
  have e : l.take m = l.take k ++ (l.take m).drop k := by
    have := List.take_append_drop k (l.take m)
    rw [List.take_take, Nat.min_eq_left h] at this; exact this.symm
  rw [e, frs_app, List.length_append]; omega
theorem app_to {ops : Array Oper} {rest : List Oper} {o : Oper} {a : Act} {W0 w : World} {Q : Exit → Act → World → Prop} {n1 c1 n2 c2 m : Nat} {ao1 ao2 : Option Addr} {l1 l2 l : List Int} {W1 : World}
    (h1 : Mk W0 w (.slice ao1 n1 c1) n1 l1) (h2 : Mk W1 w (.slice ao2 n2 c2) n2 l2) (hm : n1 + n2 = m) (hl : l1 ++ l2 = l) (hsmall : m ≤ 1000000) (hgd : o.guard = none) (s y : Operand) (ho : o.op = .call { callee := .builtin .append, args := #[s, y], argTypes := #[22, 22] })
    (hs : a.eval s = .slice ao1 n1 c1) (hx : a.eval y = .slice ao2 n2 c2)
    (h : ∀ ao cap w', Mk W0 w' (.slice ao m cap) m l → wpList Try.prog ops Q rest (a.put o.dst (.slice ao m cap)) w') :
    wpList Try.prog ops Q (o :: rest) a w := by
  subst hl
  exact app_rows (B2 := 0) h1 (h2.1.mono (Nat.zero_le _)) hm hsmall hgd s y ho hs hx h
set_option maxHeartbeats 2000000 in
theorem frames_any {w : World} {ao : Option Addr} {len cap : Nat} {rs : List Rc} (h : RG w ao len cap rs) (hw : Wid rs) (room : Int) (h0 : 0 ≤ room) (h1 : room ≤ 200000) :
    Calls Try.prog 31 #[.slice ao len cap, .int .i64 room] w fun e w' => ∃ ao' N cap' z, e = .returned (.tuple #[.slice ao' N cap', .int .i64 z]) ∧ Below w.heap.size w w' ∧
      ((z = 27 ∧ ¬ AllR rs) ∨ (z = 21 ∧ AllR rs ∧ room < (frs rs).length) ∨ (z = 0 ∧ AllR rs ∧ (frs rs).length ≤ room ∧ (frs rs).length = N ∧ Mk w w' (.slice ao' N cap') N (frs rs))) := by
  have H := hid h
  have HW := hid hw
  have hl := h.leq
  have c1 := h.cap1
  have c2 := h.cap2
  clear h hw
  go_enter Try.func31, Try.ntmps31
  go_wp2
  go_loopw [6, 7, 14] (fun o f i wr => ∃ (k m N : Nat) (ao : Option Addr) (cap : Nat) (fl : Bool), k ≤ len ∧ m ≤ k ∧ (frs (rs.take m)).length = N ∧ i = .int .i64 (k : Int) ∧ f = .bool fl ∧ o = .slice ao N cap ∧ Mk w wr (.slice ao N cap) N (frs (rs.take m)) ∧ AllR (rs.take k) ∧ (N : Int) ≤ room ∧ ((fl = false ∧ m = k) ∨ (fl = true ∧ room < (frs (rs.take k)).length))) (fun _ _ i _ => len - (intOf i).toNat)
  case atStart => exact ⟨0, 0, 0, none, 0, false, by omega, by omega, rfl, rfl, rfl, rfl, Mk.nil _, fun r hr => (by simp at hr), by simpa using h0, .inl ⟨rfl, rfl⟩⟩
  case round =>
    obtain ⟨k, m, N, ao3, cap3, fl, hk, hm, hN, rfl, rfl, rfl, d3, ha, hNr, hfl⟩ := hrel
    have D3 := hid d3
    have HA := hid ha
    clear d3 ha
    by_cases hlt : k < len
    · obtain ⟨r, hr⟩ : ∃ r, rs[k]? = some r := ⟨rs[k]'(by omega), by simp⟩
      obtain ⟨b, off, rfl, hrg⟩ := (H.out.below D3.out.bel).at hr
      have RG0 := hid hrg
      have hrm := List.mem_of_getElem? hr
      obtain ⟨hok, hpz⟩ := HW.out r hrm
      have HOK := hid hok
      have HPZ := hid hpz
      have hTk : rs.take (k + 1) = rs.take k ++ [r] := by rw [List.take_add_one, hr]; rfl
      have HT := hid hTk
      have hFk := frs_take hr
      have HF := hid hFk
      clear hrg hok hpz hTk hFk hr
      cases hR : rightB r with
      | false =>
        have HR := hid hR
        clear hR
        go_wp2_with (first | (go_at_call 39; refine (Frm.put_no r _ HPZ.out HR.out).mono ?_; rintro e w6 ⟨rfl, k6⟩; have K6 := hid k6; clear k6) | refine ld29 V5.out rfl _ rfl rfl ?_ | (refine st29 (r := r) V4.out L4.out hb4 rfl _ _ rfl rfl rfl ?_; intro w5 v5 l5; have V5 := hid v5; have L5 := hid l5; clear v5 l5) | (refine al29 rfl rfl ?_; intro b4 w4 hb4 v4 l4; have V4 := hid v4; have L4 := hid l4; clear v4 l4) | refine ldR RG0.out rfl _ rfl rfl ?_)
        go_ret2
        refine ⟨none, 0, 0, 27, rfl, sq (sq D3.out.bel L5.out) K6.out, .inl ⟨rfl, fun hall => ?_⟩⟩
        have := hall r hrm
        rw [HR.out] at this; cases this
      | true =>
        have HR := hid hR
        clear hR
        have hA1 : Hid (AllR (rs.take (k + 1))) := by
          unfold Hid; rw [HT.out]; intro x hx
          rcases List.mem_append.1 hx with hx | hx
          · exact HA.out x hx
          · simp at hx; subst hx; exact HR.out
        obtain ⟨P, hP⟩ : ∃ P, 42 + r.pan.size = P := ⟨_, rfl⟩
        have hPl : (putL r).length = P := by rw [Frm.putL_len]; exact hP
        have hP2 : P ≤ 61 := by have := (Frm.rt_of HR.out).size; omega
        have HP := hid hP
        have hLk : (frs (rs.take (k + 1))).length = (frs (rs.take k)).length + P := by rw [HF.out, List.length_append, hPl]
        clear hP hPl
        rcases hfl with ⟨rfl, rfl⟩ | ⟨rfl, hfull⟩
        · by_cases hroom : (N : Int) + P ≤ room
          · have hg1 : decide (room < (N : Int) + P) = false := by simp; omega
            have hMk : Hid (frs (rs.take m) ++ putL r = frs (rs.take (m + 1))) := HF.out.symm
            have hN1 : (frs (rs.take (m + 1))).length = N + P := by rw [hLk, hN]
            have HN1 := hid hN1
            clear hN1 hLk hN
            go_wp2_with (first | (at_builtin; refine app_to (D3.out.more (sq L5.out D6.out.bel)) D6.out (m := N + P) rfl hMk.out (by omega) rfl _ _ rfl rfl rfl ?_; intro ao8 cap8 w8 d8; have D8 := hid d8; clear d8) | (go_at_call 39; refine (Frm.put_yes r _ HR.out HOK.out P HP.out).mono ?_; rintro e w6 ⟨ao6, cap6, rfl, d6⟩; have D6 := hid d6; clear d6) | refine ld29 V5.out rfl _ rfl rfl ?_ | (refine st29 (r := r) V4.out L4.out hb4 rfl _ _ rfl rfl rfl ?_; intro w5 v5 l5; have V5 := hid v5; have L5 := hid l5; clear v5 l5) | (refine al29 rfl rfl ?_; intro b4 w4 hb4 v4 l4; have V4 := hid v4; have L4 := hid l4; clear v4 l4) | refine ldR RG0.out rfl _ rfl rfl ?_)
            go_roundw
            case rel => exact ⟨m + 1, m + 1, N + P, ao8, cap8, false, by omega, by omega, HN1.out, by go_num, by first | rfl | simp [hg1], rfl, D8.out, hA1.out, by omega, .inl ⟨rfl, rfl⟩⟩
            case measure => simp [intOf]; omega
          · have hg1 : decide (room < (N : Int) + P) = true := by simp; omega
            have hN1 : (frs (rs.take (m + 1))).length = N + P := by rw [hLk, hN]
            have HN1 := hid hN1
            have HN := hid hN
            clear hN1 hLk hN
            go_wp2_with (first | (go_at_call 39; refine (Frm.put_yes r _ HR.out HOK.out P HP.out).mono ?_; rintro e w6 ⟨ao6, cap6, rfl, d6⟩; have D6 := hid d6; clear d6) | refine ld29 V5.out rfl _ rfl rfl ?_ | (refine st29 (r := r) V4.out L4.out hb4 rfl _ _ rfl rfl rfl ?_; intro w5 v5 l5; have V5 := hid v5; have L5 := hid l5; clear v5 l5) | (refine al29 rfl rfl ?_; intro b4 w4 hb4 v4 l4; have V4 := hid v4; have L4 := hid l4; clear v4 l4) | refine ldR RG0.out rfl _ rfl rfl ?_)
            go_roundw
            case rel => exact ⟨m + 1, m, N, ao3, cap3, true, by omega, by omega, HN.out, by go_num, by first | rfl | simp [hg1], rfl, D3.out.more (sq L5.out D6.out.bel), hA1.out, by omega, .inr ⟨rfl, by rw [HN1.out]; omega⟩⟩
            case measure => simp [intOf]; omega
        · have HN := hid hN
          have HFU : Hid (room < (frs (rs.take (k + 1))).length) := by unfold Hid; rw [hLk]; omega
          clear hN hLk hfull
          go_wp2_with (first | (go_at_call 39; refine (Frm.put_yes r _ HR.out HOK.out P HP.out).mono ?_; rintro e w6 ⟨ao6, cap6, rfl, d6⟩; have D6 := hid d6; clear d6) | refine ld29 V5.out rfl _ rfl rfl ?_ | (refine st29 (r := r) V4.out L4.out hb4 rfl _ _ rfl rfl rfl ?_; intro w5 v5 l5; have V5 := hid v5; have L5 := hid l5; clear v5 l5) | (refine al29 rfl rfl ?_; intro b4 w4 hb4 v4 l4; have V4 := hid v4; have L4 := hid l4; clear v4 l4) | refine ldR RG0.out rfl _ rfl rfl ?_)
          go_roundw
          case rel => exact ⟨k + 1, m, N, ao3, cap3, true, by omega, by omega, HN.out, by go_num, rfl, rfl, D3.out.more (sq L5.out D6.out.bel), hA1.out, by omega, .inr ⟨rfl, HFU.out⟩⟩
          case measure => simp [intOf]; omega
    · have ek : k = len := by omega
      subst ek
      have eT : rs.take k = rs := List.take_of_length_le (by omega)
      rw [eT] at HA hfl
      rcases hfl with ⟨rfl, rfl⟩ | ⟨rfl, hfull⟩
      · rw [eT] at D3 hN
        have HN := hid hN
        clear hN
        go_wp2
        go_ret2
        exact ⟨ao3, N, cap3, 0, rfl, D3.out.bel, .inr (.inr ⟨rfl, HA.out, by rw [HN.out]; exact hNr, HN.out, D3.out⟩)⟩
      · have HF := hid hfull
        clear hfull
        go_wp2
        go_ret2
        exact ⟨none, 0, 0, 21, rfl, D3.out.bel, .inr (.inl ⟨rfl, HA.out, HF.out⟩)⟩
end Go.Proofs.Ythhgnflkplpklab
