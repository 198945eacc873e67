/- The bytes of the journal are read: one sector behind the other. -/
import Derived.Test.YthhgnflkplpklabJHead
namespace Go.Proofs.Ythhgnflkplpklab
set_option maxRecDepth 20000
open Go.ChangeShapes Go.WideShapes Go.ChangeAt Go.RowKit
open Dsc (Dk Sec hid sq bel1 readB readS reachZ)
open Frm (Rc num bytesL Given Mk Row RowAt num_bd byt_take byt_getD take_snocI num_snoc)
/-- k sectors from n on, one behind the other. -/
def secsL (s : List (List Int)) (n k : Nat) : List Int := ((s.drop n).take k).flatten
theorem secs_next {s : List (List Int)} {n k : Nat} (h : n + k < s.length) : secsL s n (k + 1) = secsL s n k ++ s.getD (n + k) [] := by
  unfold secsL
  have e : (s.drop n)[k]? = some (s.getD (n + k) []) := by rw [List.getElem?_drop, List.getD_eq_getElem?_getD, List.getElem?_eq_getElem h]; rfl
  rw [List.take_add_one, e]; simp
theorem secs_len {s : List (List Int)} (hs : ∀ x ∈ s, Sec x) {n : Nat} : ∀ {k : Nat}, n + k ≤ s.length → (secsL s n k).length = 64 * k
  | 0, _ => by simp [secsL]
  | k + 1, h => by
    have hx : Sec (s.getD (n + k) []) := by
      rw [List.getD_eq_getElem?_getD, List.getElem?_eq_getElem (by omega)]; exact hs _ (List.getElem_mem _)
    rw [secs_next (by omega), List.length_append, secs_len hs (by omega), hx.1]; omega
theorem secs_get {s : List (List Int)} (hs : ∀ x ∈ s, Sec x) {n t : Nat} : ∀ {k : Nat}, n + k ≤ s.length → t < 64 * k → (secsL s n k).getD t 0 = bt s (n + t / 64) (t % 64)
  | 0, _, h => by omega
  | k + 1, h, ht => by
    have hx : Sec (s.getD (n + k) []) := by
      rw [List.getD_eq_getElem?_getD, List.getElem?_eq_getElem (by omega)]; exact hs _ (List.getElem_mem _)
    rw [secs_next (by omega), getD_app, secs_len hs (by omega)]
    split
    · exact secs_get hs (by omega) (by omega)
    · have e1 : t / 64 = k := by omega
      have e2 : t - 64 * k = t % 64 := by omega
      rw [e1, e2]; rfl
theorem secs_byt {s : List (List Int)} (hs : ∀ x ∈ s, Sec x) (n k : Nat) : Frm.Byt (secsL s n k) := by
  intro x hx
  obtain ⟨l, hl, hx⟩ := List.mem_flatten.1 hx
  have := (hs l (List.mem_of_mem_drop (List.mem_of_mem_take hl))).2 x hx
  unfold Dsc.Byt at this; omega
theorem readB_nil {d : Dk} {n : Nat} (hw : d.waits = []) (hd : d.down = false) (hn : n < d.secs.length) : readB d n = d.secs.getD n [] ∧ reachZ d n = 0 := by
  have hr : reachZ d n = 0 := by unfold reachZ; rw [hd]; simp; omega
  refine ⟨?_, hr⟩
  unfold readB; rw [if_pos hr]
  unfold readS; rw [hw]; simp [Dsc.lastW]
theorem Bys.row {w : World} {v : Value} {s : List Int} (h : Dsc.Bys w v s) : Row 0 w v s.length s := h
theorem Given.cut {w : World} {ao : Option Addr} {len cap : Nat} {zs : List Int} (h : Given w ao len cap zs) {m : Nat} (hm : m ≤ len) : Given w ao m cap (zs.take m) := by
  have h1 := h.leq
  refine ⟨by rw [List.length_take]; omega, fun x hx => h.byt x (List.mem_of_mem_take hx), ?_, by have := h.cap1; omega, h.cap2⟩
  rcases h.row with e | ⟨b', o', e, hc⟩
  · left; rw [e]; simp
  · refine .inr ⟨b', o', e, fun i hi => ?_⟩
    rw [List.length_take] at hi
    rw [hc i (by omega), List.getD_eq_getElem?_getD, List.getD_eq_getElem?_getD, List.getElem?_take, if_pos (by omega)]
/-- An address is nil, and there is nothing, or it is a plain one. -/
def Flat (ao : Option Addr) (len cap : Nat) : Prop := (ao = none ∧ len = 0 ∧ cap = 0) ∨ ∃ b o, ao = some ⟨b, o, none⟩
theorem Flat.cut {ao : Option Addr} {len cap m : Nat} (h : Flat ao len cap) (hm : m ≤ len) : Flat ao m cap := by
  rcases h with ⟨h1, h2, h3⟩ | h
  · exact .inl ⟨h1, by omega, h3⟩
  · exact .inr h
theorem Row.flat {B : Nat} {w : World} {ao : Option Addr} {n cap : Nat} {l : List Int} (h : Row B w (.slice ao n cap) n l) : Flat ao n cap := by
  rcases h.2 with ⟨e, h0⟩ | ⟨g, cap, cur, e, _⟩
  · cases e; exact .inl ⟨rfl, h0, rfl⟩
  · cases e; exact .inr ⟨g, 0, rfl⟩
/-- A row is appended. -/
theorem app_rows {ops : Array Oper} {rest : List Oper} {o : Oper} {a : Act} {W0 w : World} {Q : Exit → Act → World → Prop} {n1 c1 n2 c2 B2 m : Nat} {ao1 ao2 : Option Addr} {l1 l2 : List Int}
    (h1 : Mk W0 w (.slice ao1 n1 c1) n1 l1) (h2 : Row B2 w (.slice ao2 n2 c2) n2 l2) (hm : n1 + n2 = m) (hsmall : m ≤ 1000000) (hgd : o.guard = none) (s y : Operand) (ho : o.op = .call { callee := .builtin .append, args := #[s, y], argTypes := #[22, 22] })
    (hs : a.eval s = .slice ao1 n1 c1) (hx : a.eval y = .slice ao2 n2 c2)
    (h : ∀ ao cap w', Mk W0 w' (.slice ao m cap) m (l1 ++ l2) → wpList Try.prog ops Q rest (a.put o.dst (.slice ao m cap)) w') :
    wpList Try.prog ops Q (o :: rest) a w := by
  subst hm
  exact Frm.app_row h1.1 h2.at h2.len h2.caps.1 h1.2.size hsmall hgd s y ho hs hx fun ao cap w' r t => h ao cap w' (h1.next r t)
section
variable {w0 w : World} {p q : Nat} {d : Dk} {h : Hd} {n : Nat}
theorem sector_0 (j : JL w0 w p q d h n) (h8 : 8 ≤ d.secs.length) (a : Nat) (ha : a ≤ 1) (F : Nat) (hF : 1 + a * arS d = F) :
    Calls Try.prog 29 #[.pointer (some ⟨q, 0, none⟩), .agg #[.int .i64 (a : Int), .int .i64 0]] w fun e w' => e = .returned (.int .i64 (F : Int)) ∧ Below w.heap.size w w' := by
  have := sector_any j h8 a 0 ha (by omega)
  subst hF
  simpa [mkV] using this
theorem read_jd {w0 w : World} {p : Nat} {d : Dk} (j : JD w0 w p d) (hw : d.waits = []) (hd : d.down = false) (n : Nat) (hn : n < d.secs.length) (z : Int) (hz : (n : Int) = z) :
    Calls Try.prog 16 #[.pointer (some ⟨p, 0, none⟩), .int .i64 z] w fun e w' => ∃ ao cap, e = .returned (.tuple #[.slice ao 64 cap, .int .i64 0]) ∧ Row 0 w' (.slice ao 64 cap) 64 (d.secs.getD n []) ∧ Below w.heap.size w w' := by
  subst hz
  have hs : Sec (d.secs.getD n []) := by
    rw [List.getD_eq_getElem?_getD, List.getElem?_eq_getElem hn]; exact j.ok.secs _ (List.getElem_mem _)
  obtain ⟨sv, wv, hD, _⟩ := j
  refine (Dsc.read_any p sv wv d n w hD).mono ?_
  rintro e w' ⟨v, rfl, hb, hB, _⟩
  obtain ⟨e1, e2⟩ := readB_nil hw hd hn
  rw [e1] at hb
  rw [e2]
  have hr := Bys.row hb
  rw [hs.1] at hr
  obtain ⟨ao, cap, rfl, _⟩ := hr.form
  exact ⟨ao, cap, rfl, hr, hB⟩
set_option maxHeartbeats 2000000 in
theorem logread_any (j : JL w0 w p q d h n) (ho : h.Ok) (h8 : 8 ≤ d.secs.length) (hw : d.waits = []) (hd : d.down = false) (hfit : h.b ≤ arS d * 64) :
    Calls Try.prog 18 #[.pointer (some ⟨q, 0, none⟩)] w fun e w' => ∃ ao cap, e = .returned (.tuple #[.slice ao h.b cap, .int .i64 0]) ∧ Given w' ao h.b cap ((secsL d.secs (1 + h.a * arS d) (arS d)).take h.b) ∧ Flat ao h.b cap ∧ Below w.heap.size w w' := by
  have J := hid j
  have hs := j.disk.ok.size
  have hsec := hid j.disk.ok.secs
  have hb := ho.b
  have ha := ho.a
  obtain ⟨A, hA⟩ : ∃ A, arS d = A := ⟨_, rfl⟩
  obtain ⟨B, hB⟩ : ∃ B, h.b = B := ⟨_, rfl⟩
  obtain ⟨a, hha⟩ : ∃ a, h.a = a := ⟨_, rfl⟩
  obtain ⟨F, hF⟩ : ∃ F, 1 + a * arS d = F := ⟨_, rfl⟩
  have hA2 : A ≤ 2048 := by rw [← hA]; unfold arS; omega
  have hFA : F + A ≤ d.secs.length := by
    have e : a = 0 ∨ a = 1 := by omega
    have hA' := hA
    unfold arS at hA'
    rcases e with rfl | rfl
    · rw [← hF, hA]; omega
    · rw [← hF, hA]; omega
  have hF2 : F ≤ 4096 := by omega
  have c0 := j.log.c0
  have hN : d.secs.length ≤ 4096 := by omega
  rw [hA, hB] at hfit
  rw [hB] at hb
  rw [hha] at ha
  have emin : min (B : Int) (A * 64 : Nat) = B := by omega
  clear j
  go_enter Try.func18, Try.ntmps18
  go_wp2_with (first | refine fd1 rfl _ rfl rfl ?_ | refine fd0 rfl _ rfl rfl ?_ | (go_at_call 29; refine (sector_0 (J4.out) h8 _ ha F hF).mono ?_; rintro e w5 ⟨rfl, k5⟩; have J5 := hid (J4.out.more k5); have B5 := hid (sq B4.out k5); clear k5) | (go_at_call 25; refine (room_any J2.out h8).mono ?_; rintro e w3 ⟨rfl, rfl⟩; rw [hA]) | (go_at_call 22; refine (now_any J2.out.log ho).mono ?_; rintro e w4 ⟨rfl, k4⟩; rw [hB, hha]; have J4 := hid (J2.out.more k4); have B4 := hid (sq B2.out k4); clear k4) | (go_at_call 22; refine (now_any J.out.log ho).mono ?_; rintro e w2 ⟨rfl, k2⟩; rw [hB, hha]; have J2 := hid (J.out.more k2); have B2 := hid k2; clear k2))
  go_loopw [6, 7] (fun o i wr => ∃ (k M : Nat) (ao : Option Addr) (cap : Nat), k ≤ A ∧ (k = 0 ∨ 64 * (k - 1) < B) ∧ 64 * k = M ∧ i = .int .i64 ((F + k : Nat) : Int) ∧ o = .slice ao M cap ∧ Mk w5 wr (.slice ao M cap) M (secsL d.secs F k)) (fun _ i _ => F + A - (intOf i).toNat)
  case atStart => exact ⟨0, 0, none, 0, by omega, .inl rfl, rfl, rfl, rfl, Mk.nil _⟩
  case round =>
    obtain ⟨k, M, ao6, cap6, hk, hk1, hM, rfl, rfl, d6⟩ := hrel
    have J6 := hid (J5.out.more d6.bel)
    have D6 := hid d6
    have c06 := J6.out.log.c0
    have hcap := d6.1.caps
    clear d6
    obtain ⟨z, hz⟩ : ∃ z, F + k = z := ⟨_, rfl⟩
    rw [hz]
    by_cases hlt : M < B
    · have hkA : k < A := by omega
      have hzd : z < d.secs.length := by omega
      have SN := hid (secs_next (s := d.secs) (n := F) (k := k) (by omega))
      go_wp2_with (first | (at_builtin; refine app_rows (D6.out.more K7.out) R7.out (m := M + 64) rfl (by omega) rfl _ _ rfl rfl rfl ?_; intro ao8 cap8 w8 d8; have D8 := hid d8; clear d8) | (go_at_call 16; refine (read_jd J6.out.disk hw hd z hzd _ rfl).mono ?_; rintro e w7 ⟨ao7, cap7, rfl, r7, k7⟩; have R7 := hid r7; have K7 := hid k7; clear r7 k7))
      go_roundw
      case rel => exact ⟨k + 1, M + 64, ao8, cap8, by omega, by omega, by omega, by rw [show F + (k + 1) = z + 1 by omega]; go_num, rfl, by have := D8.out; rw [SN.out, hz]; exact this⟩
      case measure => simp [intOf]; omega
    · go_wp2
      go_ret2
      refine ⟨ao6, cap6, by rw [hB]; first | rfl | simp, ?_, (Row.flat D6.out.1).cut (by omega), sq B5.out D6.out.bel⟩
      have g := Given.cut (Mk.given D6.out (secs_byt hsec.out _ _)) (m := B) (by omega)
      have e : (secsL d.secs F k).take B = (secsL d.secs F A).take B := by
        apply List.ext_getElem?
        intro t
        rw [List.getElem?_take, List.getElem?_take]
        split
        · rename_i ht
          have l1 := secs_len hsec.out (n := F) (k := k) (by omega)
          have l2 := secs_len hsec.out (n := F) (k := A) (by omega)
          have g1 := secs_get hsec.out (n := F) (t := t) (k := k) (by omega) (by omega)
          have g2 := secs_get hsec.out (n := F) (t := t) (k := A) (by omega) (by omega)
          rw [List.getD_eq_getElem?_getD, List.getElem?_eq_getElem (by omega), Option.getD_some] at g1 g2
          rw [List.getElem?_eq_getElem (by omega), List.getElem?_eq_getElem (by omega), g1, g2]
        · rfl
      rw [hB, hha, hF, hA, ← e]; exact g
end
end Go.Proofs.Ythhgnflkplpklab
