/- Records, their bytes and their sum, plainly: a record's bytes read back are the record; a record of which one byte is another, or that is cut off, is none. -/
import Derived.Test.YthhgnflkplpklabRMath
namespace Go.Proofs.Ythhgnflkplpklab.Frm
open Go.RowKit

/-! ### The sum -/
def W32 (c : Int) : Prop := 0 ≤ c ∧ c < 4294967296
theorem xor_nat (a b : Nat) (ha : a < 4294967296) (hb : b < 4294967296) : bits .xor .u32 (a : Int) (b : Int) = ((a ^^^ b : Nat) : Int) := by
  have hx : a ^^^ b < 2 ^ 32 := Nat.xor_lt_two_pow (by omega) (by omega)
  have h1 : (BitVec.ofInt 32 (a : Int)).toNat = a := by
    rw [BitVec.ofInt_natCast, BitVec.toNat_ofNat]; exact Nat.mod_eq_of_lt (by omega)
  have h2 : (BitVec.ofInt 32 (b : Int)).toNat = b := by
    rw [BitVec.ofInt_natCast, BitVec.toNat_ofNat]; exact Nat.mod_eq_of_lt (by omega)
  show IntKind.u32.wrap ((BitVec.ofInt 32 (a : Int) ^^^ BitVec.ofInt 32 (b : Int)).toNat : Int) = _
  rw [BitVec.toNat_xor, h1, h2, IntKind.wrap_u32]
  omega
theorem w32_nat {c : Int} (h : W32 c) : ∃ n : Nat, c = n ∧ n < 4294967296 := ⟨c.toNat, by unfold W32 at h; omega, by unfold W32 at h; omega⟩
theorem xor_w32 {a b : Int} (ha : W32 a) (hb : W32 b) : W32 (bits .xor .u32 a b) := by
  obtain ⟨m, rfl, hm⟩ := w32_nat ha
  obtain ⟨n, rfl, hn⟩ := w32_nat hb
  rw [xor_nat m n hm hn]
  have : m ^^^ n < 2 ^ 32 := Nat.xor_lt_two_pow (by omega) (by omega)
  unfold W32; omega
theorem xor_inj {a b c : Int} (ha : W32 a) (hb : W32 b) (hc : W32 c) (h : bits .xor .u32 a c = bits .xor .u32 b c) : a = b := by
  obtain ⟨m, rfl, hm⟩ := w32_nat ha
  obtain ⟨n, rfl, hn⟩ := w32_nat hb
  obtain ⟨k, rfl, hk⟩ := w32_nat hc
  rw [xor_nat m k hm hk, xor_nat n k hn hk] at h
  have h' : m ^^^ k = n ^^^ k := by omega
  have : m = n := by
    have := congrArg (· ^^^ k) h'
    simpa [Nat.xor_assoc] using this
  omega
theorem xor_inj' {a b c : Int} (ha : W32 a) (hb : W32 b) (hc : W32 c) (h : bits .xor .u32 c a = bits .xor .u32 c b) : a = b := by
  obtain ⟨m, rfl, hm⟩ := w32_nat ha
  obtain ⟨n, rfl, hn⟩ := w32_nat hb
  obtain ⟨k, rfl, hk⟩ := w32_nat hc
  rw [xor_nat k m hk hm, xor_nat k n hk hn] at h
  have h' : k ^^^ m = k ^^^ n := by omega
  have : m = n := by
    have := congrArg (k ^^^ ·) h'
    simpa [← Nat.xor_assoc] using this
  omega
/-- One bit goes out. -/
def crcS (c : Int) : Int := if c % 2 = 0 then c / 2 else bits .xor .u32 (c / 2) 2197175160
def crcT : Nat → Int → Int
  | 0, c => c
  | k + 1, c => crcS (crcT k c)
def crcB (c x : Int) : Int := crcT 8 (bits .xor .u32 c x)
def crcF (l : List Int) : Int := l.foldl crcB 4294967295
def crcL (l : List Int) : Int := bits .xor .u32 (crcF l) 4294967295
theorem w32_poly : W32 2197175160 := by unfold W32; omega
theorem w32_ones : W32 4294967295 := by unfold W32; omega
theorem crcS_w32 {c : Int} (h : W32 c) : W32 (crcS c) := by
  have hh : W32 (c / 2) := by unfold W32 at *; omega
  unfold crcS
  split
  · exact hh
  · exact xor_w32 hh w32_poly
theorem crcT_w32 {c : Int} (h : W32 c) : ∀ k, W32 (crcT k c)
  | 0 => h
  | k + 1 => crcS_w32 (crcT_w32 h k)
theorem crcS_high {c : Int} (h : W32 c) (ho : ¬ c % 2 = 0) : 2147483648 ≤ crcS c := by
  unfold crcS
  rw [if_neg ho]
  obtain ⟨n, rfl, hn⟩ := w32_nat h
  have e : ((n : Int) / 2) = ((n / 2 : Nat) : Int) := by omega
  rw [e, show (2197175160 : Int) = ((2197175160 : Nat) : Int) from rfl, xor_nat _ _ (by omega) (by decide)]
  rcases Nat.lt_or_ge (n / 2 ^^^ 2197175160) 2147483648 with hlt | hge
  · exfalso
    have h1 : n / 2 ^^^ (n / 2 ^^^ 2197175160) < 2 ^ 31 := Nat.xor_lt_two_pow (by omega) (by omega)
    rw [← Nat.xor_assoc, Nat.xor_self, Nat.zero_xor] at h1
    exact absurd h1 (by decide)
  · omega
theorem crcS_inj {c d : Int} (hc : W32 c) (hd : W32 d) (h : crcS c = crcS d) : c = d := by
  have h1 : W32 (c / 2) := by unfold W32 at *; omega
  have h2 : W32 (d / 2) := by unfold W32 at *; omega
  by_cases ec : c % 2 = 0 <;> by_cases ed : d % 2 = 0
  · unfold crcS at h; rw [if_pos ec, if_pos ed] at h; omega
  · have := crcS_high hd ed
    rw [← h, crcS, if_pos ec] at this
    unfold W32 at hc; omega
  · have := crcS_high hc ec
    rw [h, crcS, if_pos ed] at this
    unfold W32 at hd; omega
  · unfold crcS at h; rw [if_neg ec, if_neg ed] at h
    have := xor_inj h1 h2 w32_poly h
    omega
theorem crcT_inj {c d : Int} (hc : W32 c) (hd : W32 d) : ∀ k, crcT k c = crcT k d → c = d
  | 0, h => h
  | k + 1, h => crcT_inj hc hd k (crcS_inj (crcT_w32 hc k) (crcT_w32 hd k) h)
theorem w32_byte {x : Int} (h : 0 ≤ x ∧ x < 256) : W32 x := by unfold W32; omega
theorem crcB_w32 {c x : Int} (hc : W32 c) (hx : 0 ≤ x ∧ x < 256) : W32 (crcB c x) := crcT_w32 (xor_w32 hc (w32_byte hx)) 8
theorem fold_w32 : ∀ (l : List Int) (c : Int), Byt l → W32 c → W32 (l.foldl crcB c)
  | [], _, _, hc => hc
  | x :: l, _, hl, hc => fold_w32 l _ (fun y hy => hl y (by simp [hy])) (crcB_w32 hc (hl x (by simp)))
theorem crcF_w32 {l : List Int} (h : Byt l) : W32 (crcF l) := fold_w32 l _ h w32_ones
theorem crcL_w32 {l : List Int} (h : Byt l) : W32 (crcL l) := xor_w32 (crcF_w32 h) w32_ones
theorem fold_inj : ∀ (l : List Int) (c d : Int), Byt l → W32 c → W32 d → l.foldl crcB c = l.foldl crcB d → c = d
  | [], _, _, _, _, _, h => h
  | x :: l, c, d, hl, hc, hd, h => by
    have hx := hl x (by simp)
    have := fold_inj l _ _ (fun y hy => hl y (by simp [hy])) (crcB_w32 hc hx) (crcB_w32 hd hx) h
    exact xor_inj hc hd (w32_byte hx) (crcT_inj (xor_w32 hc (w32_byte hx)) (xor_w32 hd (w32_byte hx)) 8 this)
/-- One byte is another one: the sum is another one. -/
theorem crcL_turned {p s : List Int} {a b : Int} (hp : Byt p) (hs : Byt s) (ha : 0 ≤ a ∧ a < 256) (hb : 0 ≤ b ∧ b < 256) (h : crcL (p ++ a :: s) = crcL (p ++ b :: s)) : a = b := by
  have w1 : W32 (crcF p) := crcF_w32 hp
  have ea : Byt (p ++ a :: s) := by
    intro x hx; simp at hx; rcases hx with hx | rfl | hx
    · exact hp x hx
    · exact ha
    · exact hs x hx
  have eb : Byt (p ++ b :: s) := by
    intro x hx; simp at hx; rcases hx with hx | rfl | hx
    · exact hp x hx
    · exact hb
    · exact hs x hx
  have h1 := xor_inj (crcF_w32 ea) (crcF_w32 eb) w32_ones h
  simp only [crcF, List.foldl_append, List.foldl_cons] at h1
  have h2 := fold_inj s _ _ hs (crcB_w32 w1 ha) (crcB_w32 w1 hb) h1
  exact xor_inj' (w32_byte ha) (w32_byte hb) w1 (crcT_inj (xor_w32 w1 (w32_byte ha)) (xor_w32 w1 (w32_byte hb)) 8 h2)

/-! ### Records -/
structure Rc where
  kind : Int
  term : Int
  stan : Int
  pan : ByteArray
  amt : Int
  n0 : Int
  n1 : Int
  n2 : Int
  n3 : Int
  j0 : Int
  j1 : Int
  j2 : Int
  j3 : Int
  l0 : Int
  l1 : Int
  l2 : Int
  l3 : Int
def Rc.cells (r : Rc) : List Value := [.int .i64 r.kind, .int .u16 r.term, .int .u32 r.stan, .string r.pan, .int .i64 r.amt, .int .i64 r.n0, .int .i64 r.n1, .int .i64 r.n2, .int .i64 r.n3,
  .int .i64 r.j0, .int .i64 r.j1, .int .i64 r.j2, .int .i64 r.j3, .int .i64 r.l0, .int .i64 r.l1, .int .i64 r.l2, .int .i64 r.l3]
def Rc.val (r : Rc) : Value := .agg r.cells.toArray
def Rc.zero : Rc := ⟨0, 0, 0, ⟨#[]⟩, 0, 0, 0, 0, 0, 0, 0, 0, 0, 0, 0, 0, 0⟩
theorem Rc.len (r : Rc) : r.cells.length = 17 := rfl
theorem Rc.one (r : Rc) : ∀ u ∈ r.cells, u.oneCell' = true := by intro u hu; simp [Rc.cells] at hu; rcases hu with h | h | h | h | h | h | h | h | h | h | h | h | h | h | h | h | h <;> subst h <;> rfl
theorem Rc.val_inj {r s : Rc} (h : r.val = s.val) : r = s := by
  cases r; cases s
  simp [Rc.val, Rc.cells] at h
  simp [h]
def fewB (a b c d : Int) : Bool := decide (0 ≤ a ∧ a ≤ 10000) && decide (0 ≤ b ∧ b ≤ 10000) && decide (0 ≤ c ∧ c ≤ 10000) && decide (0 ≤ d ∧ d ≤ 10000)
theorem fewB_iff {a b c d : Int} : fewB a b c d = true ↔ (0 ≤ a ∧ a ≤ 10000) ∧ (0 ≤ b ∧ b ≤ 10000) ∧ (0 ≤ c ∧ c ≤ 10000) ∧ (0 ≤ d ∧ d ≤ 10000) := by
  simp [fewB, and_assoc]
def digB (l : List UInt8) : Bool := l.all fun c => decide (48 ≤ (c.toNat : Int) ∧ (c.toNat : Int) ≤ 57)
def panB (s : ByteArray) : Bool := decide (s.size ≤ 19) && digB s.data.toList
def rightB (r : Rc) : Bool := decide (0 < r.kind) && decide (r.kind < 10) && panB r.pan && decide (0 ≤ r.amt) && decide (r.amt ≤ 1000000) && fewB r.n0 r.n1 r.n2 r.n3 && fewB r.j0 r.j1 r.j2 r.j3 && fewB r.l0 r.l1 r.l2 r.l3
structure Rt (r : Rc) : Prop where
  kind : 0 < r.kind ∧ r.kind < 10
  size : r.pan.size ≤ 19
  amt : 0 ≤ r.amt ∧ r.amt ≤ 1000000
  n : (0 ≤ r.n0 ∧ r.n0 ≤ 10000) ∧ (0 ≤ r.n1 ∧ r.n1 ≤ 10000) ∧ (0 ≤ r.n2 ∧ r.n2 ≤ 10000) ∧ (0 ≤ r.n3 ∧ r.n3 ≤ 10000)
  j : (0 ≤ r.j0 ∧ r.j0 ≤ 10000) ∧ (0 ≤ r.j1 ∧ r.j1 ≤ 10000) ∧ (0 ≤ r.j2 ∧ r.j2 ≤ 10000) ∧ (0 ≤ r.j3 ∧ r.j3 ≤ 10000)
  l : (0 ≤ r.l0 ∧ r.l0 ≤ 10000) ∧ (0 ≤ r.l1 ∧ r.l1 ≤ 10000) ∧ (0 ≤ r.l2 ∧ r.l2 ≤ 10000) ∧ (0 ≤ r.l3 ∧ r.l3 ≤ 10000)
theorem rt_of {r : Rc} (h : rightB r = true) : Rt r := by
  simp only [rightB, panB, Bool.and_eq_true, decide_eq_true_eq, fewB_iff] at h
  obtain ⟨⟨⟨⟨⟨⟨⟨h1, h2⟩, h3, _⟩, h4⟩, h5⟩, h6⟩, h7⟩, h8⟩ := h
  exact ⟨⟨h1, h2⟩, h3, ⟨h4, h5⟩, h6, h7, h8⟩
/-- Term and Stan are of their widths. -/
def Rc.Ok (r : Rc) : Prop := (0 ≤ r.term ∧ r.term < 65536) ∧ (0 ≤ r.stan ∧ r.stan < 4294967296)

def panL (s : ByteArray) : List Int := s.data.toList.map fun b => (b.toNat : Int)
theorem panL_len (s : ByteArray) : (panL s).length = s.size := by simp [panL]
theorem panL_byt (s : ByteArray) : Byt (panL s) := by
  intro x hx; simp [panL] at hx; obtain ⟨b, _, rfl⟩ := hx
  have := b.toNat_lt; omega
theorem str_panL (s : ByteArray) : strOfNums (panL s) = s := by
  simp [strOfNums, panL, Function.comp_def]
def cntL (a b c d : Int) : List Int := bytesL a 2 ++ bytesL b 2 ++ bytesL c 2 ++ bytesL d 2
def bodyL (r : Rc) : List Int := bytesL r.kind 1 ++ bytesL r.term 2 ++ bytesL r.stan 4 ++ bytesL r.amt 4 ++ cntL r.n0 r.n1 r.n2 r.n3 ++ cntL r.j0 r.j1 r.j2 r.j3 ++ cntL r.l0 r.l1 r.l2 r.l3 ++ bytesL r.pan.size 1 ++ panL r.pan
def putL (r : Rc) : List Int := [165, ((bodyL r).length : Int)] ++ bodyL r ++ bytesL (crcL (bodyL r)) 4
theorem byt_app {a b : List Int} (ha : Byt a) (hb : Byt b) : Byt (a ++ b) := by
  intro x hx; rcases List.mem_append.1 hx with h | h
  · exact ha x h
  · exact hb x h
theorem cntL_byt (a b c d : Int) : Byt (cntL a b c d) := byt_app (byt_app (byt_app (bytesL_byt _ _) (bytesL_byt _ _)) (bytesL_byt _ _)) (bytesL_byt _ _)
theorem cntL_len (a b c d : Int) : (cntL a b c d).length = 8 := by simp [cntL, bytesL_length]
theorem bodyL_byt (r : Rc) : Byt (bodyL r) := by
  unfold bodyL
  repeat (first | exact panL_byt _ | exact bytesL_byt _ _ | exact cntL_byt _ _ _ _ | apply byt_app)
theorem bodyL_len (r : Rc) : (bodyL r).length = 36 + r.pan.size := by simp [bodyL, bytesL_length, cntL_len, panL_len]; omega
theorem putL_len (r : Rc) : (putL r).length = 42 + r.pan.size := by simp [putL, bytesL_length, bodyL_len]; omega
theorem putL_byt {r : Rc} (h : r.pan.size ≤ 19) : Byt (putL r) := by
  refine byt_app (byt_app ?_ (bodyL_byt r)) (bytesL_byt _ _)
  intro x hx; simp [bodyL_len] at hx; omega

/-! ### Reading -/
def pc (x : List Int) (i m : Nat) : List Int := (x.drop i).take m
def recL (x : List Int) : Rc := ⟨num (pc x 0 1), num (pc x 1 2), num (pc x 3 4), strOfNums (x.drop 36), num (pc x 7 4), num (pc x 11 2), num (pc x 13 2), num (pc x 15 2), num (pc x 17 2),
  num (pc x 19 2), num (pc x 21 2), num (pc x 23 2), num (pc x 25 2), num (pc x 27 2), num (pc x 29 2), num (pc x 31 2), num (pc x 33 2)⟩
def splB (b : List Int) : Bool := decide (2 ≤ b.length) && decide (b.getD 0 0 = 165) && decide (b.getD 1 0 + 6 ≤ (b.length : Int))
def bodyX (b : List Int) : List Int := pc b 2 (b.getD 1 0).toNat
def sumX (b : List Int) : Int := num (pc b (2 + (b.getD 1 0).toNat) 4)
def recB (x : List Int) : Bool := decide (36 ≤ x.length) && decide (x.getD 35 0 + 36 = (x.length : Int)) && rightB (recL x)
def errX (b : List Int) : Int := if (splB b && recB (bodyX b)) = true then (if sumX b = crcL (bodyX b) then 0 else 24) else 23
def recX (b : List Int) : Rc := if errX b = 0 then recL (bodyX b) else Rc.zero
def lenX (b : List Int) : Int := if errX b = 0 then ((bodyX b).length : Int) + 6 else 0

theorem cons_bytes1 (v : Int) : bytesL v 1 = [v % 256] := rfl
theorem num1 (v : Int) (h : 0 ≤ v ∧ v < 256) : num (bytesL v 1) = v := by rw [num_bytesL]; show v % 256 = v; omega
theorem num2 (v : Int) (h : 0 ≤ v ∧ v < 65536) : num (bytesL v 2) = v := by rw [num_bytesL]; show v % 65536 = v; omega
theorem num4 (v : Int) (h : 0 ≤ v ∧ v < 4294967296) : num (bytesL v 4) = v := by rw [num_bytesL]; show v % 4294967296 = v; omega
theorem recL_body {r : Rc} (h : Rt r) (ho : r.Ok) : recL (bodyL r) = r := by
  have hk := h.kind
  have ha := h.amt
  have hn := h.n
  have hj := h.j
  have hl := h.l
  obtain ⟨ht, hs⟩ := ho
  have e : recL (bodyL r) = ⟨num (bytesL r.kind 1), num (bytesL r.term 2), num (bytesL r.stan 4), strOfNums (panL r.pan), num (bytesL r.amt 4), num (bytesL r.n0 2), num (bytesL r.n1 2), num (bytesL r.n2 2), num (bytesL r.n3 2),
    num (bytesL r.j0 2), num (bytesL r.j1 2), num (bytesL r.j2 2), num (bytesL r.j3 2), num (bytesL r.l0 2), num (bytesL r.l1 2), num (bytesL r.l2 2), num (bytesL r.l3 2)⟩ := rfl
  rw [e, num1 _ (by omega), num2 _ ht, num4 _ hs, num4 r.amt (by omega), num2 _ (by omega), num2 _ (by omega), num2 _ (by omega), num2 _ (by omega), num2 _ (by omega), num2 _ (by omega), num2 _ (by omega), num2 _ (by omega), num2 _ (by omega), num2 _ (by omega), num2 _ (by omega), num2 _ (by omega), str_panL]
theorem body_35 {r : Rc} (h : r.pan.size ≤ 19) : (bodyL r).getD 35 0 = (r.pan.size : Int) := by
  have e : (bodyL r).getD 35 0 = (r.pan.size : Int) % 256 := rfl
  rw [e]; omega
theorem recB_body {r : Rc} (h : rightB r = true) (ho : r.Ok) : recB (bodyL r) = true := by
  have hr := rt_of h
  unfold recB
  rw [recL_body hr ho, h, body_35 hr.size, bodyL_len]
  simp; omega
end Go.Proofs.Ythhgnflkplpklab.Frm
