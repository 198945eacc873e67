/- Parts, sums, frames as lists of bytes. No function is walked. -/
import Derived.Test.YthchgjndaeefmaaBase
namespace Go.Proofs.Ythchgjndaeefmaa
open Go.ChangeShapes Go.WideShapes Go.ChangeAt Go.RowKit

/-- One byte xor another. -/
def xr (a b : Int) : Int := bits .xor .u8 a b
theorem xr_nat (a b : Nat) (ha : a < 256) (hb : b < 256) : xr (a : Int) (b : Int) = ((a ^^^ b : Nat) : Int) := by
  have hx : a ^^^ b < 2 ^ 8 := Nat.xor_lt_two_pow (by omega) (by omega)
  have h1 : (BitVec.ofInt 8 (a : Int)).toNat = a := by rw [BitVec.toNat_ofInt]; omega
  have h2 : (BitVec.ofInt 8 (b : Int)).toNat = b := by rw [BitVec.toNat_ofInt]; omega
  show IntKind.u8.wrap ((BitVec.ofInt 8 (a : Int) ^^^ BitVec.ofInt 8 (b : Int)).toNat : Int) = _
  rw [BitVec.toNat_xor, h1, h2, IntKind.wrap_u8]
  omega
def B8 (x : Int) : Prop := 0 ≤ x ∧ x < 256
theorem b8_nat {x : Int} (h : B8 x) : ∃ n : Nat, x = n ∧ n < 256 := ⟨x.toNat, by unfold B8 at h; omega, by unfold B8 at h; omega⟩
theorem xr_b8 {a b : Int} (ha : B8 a) (hb : B8 b) : B8 (xr a b) := by
  obtain ⟨m, rfl, hm⟩ := b8_nat ha
  obtain ⟨n, rfl, hn⟩ := b8_nat hb
  rw [xr_nat m n hm hn]
  have : m ^^^ n < 2 ^ 8 := Nat.xor_lt_two_pow (by omega) (by omega)
  unfold B8; omega
theorem xr_assoc {a b c : Int} (ha : B8 a) (hb : B8 b) (hc : B8 c) : xr (xr a b) c = xr a (xr b c) := by
  obtain ⟨m, rfl, hm⟩ := b8_nat ha
  obtain ⟨n, rfl, hn⟩ := b8_nat hb
  obtain ⟨k, rfl, hk⟩ := b8_nat hc
  have h1 : m ^^^ n < 2 ^ 8 := Nat.xor_lt_two_pow (by omega) (by omega)
  have h2 : n ^^^ k < 2 ^ 8 := Nat.xor_lt_two_pow (by omega) (by omega)
  rw [xr_nat m n hm hn, xr_nat n k hn hk, xr_nat _ k (by omega) hk, xr_nat m _ hm (by omega), Nat.xor_assoc]
theorem xr_self {a : Int} (ha : B8 a) : xr a a = 0 := by
  obtain ⟨m, rfl, hm⟩ := b8_nat ha
  rw [xr_nat m m hm hm, Nat.xor_self]; rfl
theorem xr_zero {a : Int} (ha : B8 a) : xr a 0 = a := by
  obtain ⟨m, rfl, hm⟩ := b8_nat ha
  have := xr_nat m 0 hm (by omega)
  rw [Nat.xor_zero] at this
  exact this
theorem xr_zero' {a : Int} (ha : B8 a) : xr 0 a = a := by
  obtain ⟨m, rfl, hm⟩ := b8_nat ha
  have := xr_nat 0 m (by omega) hm
  rw [Nat.zero_xor] at this
  exact this
theorem xr_ne {a x : Int} (ha : B8 a) (hx : B8 x) (h : ¬ x = 0) : ¬ xr a x = a := by
  intro e
  apply h
  have := congrArg (xr a) e
  rw [← xr_assoc ha ha hx, xr_self ha, xr_zero' hx] at this
  exact this
/-- All bytes, one xor the other. -/
def lrcL (l : List Int) : Int := l.foldl xr 0
theorem lrc_snoc (l : List Int) (x : Int) : lrcL (l ++ [x]) = xr (lrcL l) x := by simp [lrcL]
theorem lrc_take (zs : List Int) (k : Nat) (h : k < zs.length) : lrcL (zs.take (k + 1)) = xr (lrcL (zs.take k)) (zs.getD k 0) := by rw [take_snocI zs k h, lrc_snoc]
theorem b8_0 : B8 0 := by unfold B8; omega
theorem b8_2 : B8 2 := by unfold B8; omega
theorem b8_3 : B8 3 := by unfold B8; omega
theorem byt_tail {x : Int} {l : List Int} (h : Byt (x :: l)) : B8 x ∧ Byt l := ⟨h x (by simp), fun y hy => h y (by simp [hy])⟩
theorem fold_b8 {l : List Int} (hb : Byt l) : ∀ {x : Int}, B8 x → B8 (l.foldl xr x) := by
  induction l with
  | nil => intro x h; exact h
  | cons y l ih => intro x h; exact ih (byt_tail hb).2 (xr_b8 h (byt_tail hb).1)
theorem lrc_b8 {l : List Int} (hb : Byt l) : B8 (lrcL l) := fold_b8 hb b8_0
theorem fold_xr {l : List Int} (hb : Byt l) : ∀ {x : Int}, B8 x → l.foldl xr x = xr x (lrcL l) := by
  induction l with
  | nil => intro x h; exact (xr_zero h).symm
  | cons y l ih =>
    intro x h
    have hy := byt_tail hb
    have e : lrcL (y :: l) = xr y (lrcL l) := by
      show l.foldl xr (xr 0 y) = _
      rw [ih hy.2 (xr_b8 b8_0 hy.1), xr_zero' hy.1]
    rw [List.foldl_cons, ih hy.2 (xr_b8 h hy.1), e, xr_assoc h hy.1 (lrc_b8 hy.2)]
theorem lrc_app {a b : List Int} (ha : Byt a) (hb : Byt b) : lrcL (a ++ b) = xr (lrcL a) (lrcL b) := by
  show (a ++ b).foldl xr 0 = _
  rw [List.foldl_append]
  exact fold_xr hb (lrc_b8 ha)
/-- The sum of a frame of these bytes. -/
def sumL (l : List Int) : Int := xr (lrcL l) 3
theorem sum_b8 {l : List Int} (hb : Byt l) : B8 (sumL l) := xr_b8 (lrc_b8 hb) b8_3
/-- The frame. -/
def frL (b : List Int) : List Int := 2 :: (b ++ [3, sumL b])
theorem fr_len (b : List Int) : (frL b).length = b.length + 3 := by simp [frL]
theorem fr_byt {b : List Int} (hb : Byt b) : Byt (frL b) := by
  intro x hx
  simp [frL] at hx
  rcases hx with rfl | hx | rfl | rfl
  · omega
  · exact hb x hx
  · omega
  · exact sum_b8 hb
theorem fr_nought {b : List Int} (hb : Byt b) : lrcL ((frL b).drop 1) = 0 := by
  have e : (frL b).drop 1 = b ++ [3, sumL b] := rfl
  have h3 : Byt [3, sumL b] := by
    intro x hx; simp at hx
    rcases hx with rfl | rfl
    · omega
    · exact sum_b8 hb
  rw [e, lrc_app hb h3]
  have hs : lrcL [3, sumL b] = xr 3 (sumL b) := by simp [lrcL, xr_zero' b8_3]
  have h1 : xr (lrcL b) 3 = sumL b := rfl
  rw [hs, ← xr_assoc (lrc_b8 hb) b8_3 (sum_b8 hb), h1, xr_self (sum_b8 hb)]
/-- A mark among them? -/
def mkB (l : List Int) : Bool := l.any fun c => decide (c = 2) || decide (c = 3)
/-- A separator among them? -/
def spB (l : List Int) : Bool := l.any fun c => decide (c = 28)
def frOk (b : List Int) : Bool := decide (b.length ≤ 500) && !mkB b
/-- The first good frame behind k bytes; 'cur': what stands behind the latest STX. -/
def good (x r : List Int) : Bool := decide (x.length ≤ 500) && (decide (0 < r.length) && decide (r.getD 0 0 = sumL x))
def unf : Option (List Int) → Nat → List Int → Option (List Int × Nat)
  | _, _, [] => none
  | cur, k, c :: r =>
    if c = 2 then unf (some []) (k + 1) r
    else if c = 3 then (match cur with
      | none => unf none (k + 1) r
      | some x => if good x r = true then some (x, k + 2) else unf none (k + 1) r)
    else unf (cur.map (· ++ [c])) (k + 1) r
theorem unf_2 (cur : Option (List Int)) (k : Nat) (r : List Int) : unf cur k (2 :: r) = unf (some []) (k + 1) r := by simp [unf]
theorem unf_3n (k : Nat) (r : List Int) : unf none k (3 :: r) = unf none (k + 1) r := by simp [unf]
theorem unf_3y (x : List Int) (k : Nat) (r : List Int) (h : good x r = true) : unf (some x) k (3 :: r) = some (x, k + 2) := by simp [unf, h]
theorem unf_3b (x : List Int) (k : Nat) (r : List Int) (h : good x r = false) : unf (some x) k (3 :: r) = unf none (k + 1) r := by simp [unf, h]
theorem unf_o (cur : Option (List Int)) (k : Nat) (c : Int) (r : List Int) (h2 : ¬ c = 2) (h3 : ¬ c = 3) : unf cur k (c :: r) = unf (cur.map (· ++ [c])) (k + 1) r := by simp [unf, h2, h3]
/-- Bytes with no STX, where none is under way. -/
theorem unf_ahead (a : List Int) (r : List Int) : ∀ k, (∀ x ∈ a, ¬ x = 2) → unf none k (a ++ r) = unf none (k + a.length) r := by
  induction a with
  | nil => intro k _; rfl
  | cons c a ih =>
    intro k h
    have h2 := h c (by simp)
    rw [List.cons_append]
    by_cases h3 : c = 3
    · subst h3; rw [unf_3n, ih _ (fun x hx => h x (by simp [hx])), List.length_cons]; congr 1; omega
    · rw [unf_o _ _ _ _ h2 h3, Option.map_none, ih _ (fun x hx => h x (by simp [hx])), List.length_cons]; congr 1; omega
/-- Bytes with no mark, behind an STX. -/
theorem unf_in (b : List Int) (r : List Int) : ∀ x k, mkB b = false → unf (some x) k (b ++ r) = unf (some (x ++ b)) (k + b.length) r := by
  induction b with
  | nil => intro x k _; simp
  | cons c b ih =>
    intro x k h
    simp [mkB] at h
    rw [List.cons_append, unf_o _ _ _ _ h.1.1 h.1.2, Option.map_some, ih _ _ (by simp [mkB]; exact h.2), List.append_assoc, List.length_cons]
    simp only [List.cons_append, List.nil_append]
    congr 1; omega
theorem frOk_parts {b : List Int} (h : frOk b = true) : b.length ≤ 500 ∧ mkB b = false := by
  simp [frOk] at h; exact h
theorem good_own {b : List Int} (h : b.length ≤ 500) (r : List Int) : good b (sumL b :: r) = true := by simp [good, h]
theorem unf_frame (cur : Option (List Int)) (k : Nat) (b more : List Int) (h : frOk b = true) : unf cur k (frL b ++ more) = some (b, k + (frL b).length) := by
  obtain ⟨h1, h2⟩ := frOk_parts h
  rw [frL, List.cons_append, unf_2, List.append_assoc, unf_in _ _ _ _ h2, List.nil_append]
  show unf (some b) _ (3 :: sumL b :: more) = _
  rw [unf_3y _ _ _ (good_own h1 _)]
  simp; omega
theorem unf_open (cur : Option (List Int)) (k : Nat) (a b : List Int) (ha : mkB a = false) (h : frOk b = true) : unf cur k (2 :: a ++ frL b) = some (b, k + 1 + a.length + (frL b).length) := by
  have := fun c j => unf_frame c j b [] h
  rw [List.append_nil] at this
  rw [List.cons_append, unf_2, unf_in _ _ _ _ ha, this]
/-- A frame whose sum is another one. -/
theorem unf_bad (k : Nat) (cur : Option (List Int)) (a b : List Int) (s : Int) (ha : frOk a = true) (hs : ¬ s = sumL a) (h2 : ¬ s = 2) (h : frOk b = true) : unf cur k (2 :: (a ++ [3, s]) ++ frL b) = some (b, k + (a.length + 3) + (frL b).length) := by
  obtain ⟨h1, h3⟩ := frOk_parts ha
  have hb : good a (s :: frL b) = false := by simp [good, hs]
  rw [List.cons_append, unf_2, List.append_assoc, unf_in _ _ _ _ h3, List.nil_append]
  show unf (some a) _ (3 :: s :: frL b) = _
  rw [unf_3b _ _ _ hb]
  have := unf_ahead [s] (frL b) (k + 1 + a.length + 1) (by simp; exact h2)
  rw [List.cons_append, List.nil_append] at this
  have hf := fun c j => unf_frame c j b [] h
  rw [List.append_nil] at hf
  rw [this, hf]
  simp; omega
/-- Where a search may begin. -/
theorem drop_cons (zs : List Int) (k : Nat) (h : k < zs.length) : zs.drop k = zs.getD k 0 :: zs.drop (k + 1) := by
  rw [List.drop_eq_getElem_cons h]; simp [h]
theorem pc_snoc (zs : List Int) (s k : Nat) (hs : s ≤ k) (h : k < zs.length) : pc zs s (k - s) ++ [zs.getD k 0] = pc zs s (k + 1 - s) := by
  have e : k + 1 - s = (k - s) + 1 := by omega
  have hl : k - s < (zs.drop s).length := by rw [List.length_drop]; omega
  rw [pc, pc, e, take_snocI _ _ hl]
  congr 2
  simp [List.getElem?_drop]
  congr 2; omega
/-- What stands behind the latest STX, told by where it began. -/
def curL (zs : List Int) (s k : Nat) : Option (List Int) := if s = 0 then none else some (pc zs s (k - s))
theorem cur_0 (zs : List Int) (k : Nat) : curL zs 0 k = none := rfl
theorem cur_s (zs : List Int) {s : Nat} (k : Nat) (h : 0 < s) : curL zs s k = some (pc zs s (k - s)) := by unfold curL; rw [if_neg (by omega)]
theorem cur_new (zs : List Int) (k : Nat) : curL zs (k + 1) (k + 1) = some [] := by rw [cur_s _ _ (by omega)]; simp [pc]
theorem cur_next (zs : List Int) (s k : Nat) (hs : s ≤ k) (h : k < zs.length) : (curL zs s k).map (· ++ [zs.getD k 0]) = curL zs s (k + 1) := by
  by_cases h0 : s = 0
  · subst h0; rfl
  · rw [cur_s _ _ (by omega), cur_s _ _ (by omega), Option.map_some, pc_snoc _ _ _ hs h]
/-- The search as it stands at place k. -/
def At (zs : List Int) (k s : Nat) : Prop := s ≤ k ∧ unf none 0 zs = unf (curL zs s k) k (zs.drop k)
theorem At.start (zs : List Int) : At zs 0 0 := ⟨Nat.le_refl _, rfl⟩
theorem At.stx {zs : List Int} {k s : Nat} (h : At zs k s) (hk : k < zs.length) (hc : zs.getD k 0 = 2) : At zs (k + 1) (k + 1) :=
  ⟨Nat.le_refl _, by rw [h.2, drop_cons zs k hk, hc, unf_2, cur_new]⟩
theorem At.other {zs : List Int} {k s : Nat} (h : At zs k s) (hk : k < zs.length) (h2 : ¬ zs.getD k 0 = 2) (h3 : ¬ zs.getD k 0 = 3) : At zs (k + 1) s :=
  ⟨Nat.le_succ_of_le h.1, by rw [h.2, drop_cons zs k hk, unf_o _ _ _ _ h2 h3, cur_next _ _ _ h.1 hk]⟩
theorem At.idle {zs : List Int} {k : Nat} (h : At zs k 0) (hk : k < zs.length) (h3 : zs.getD k 0 = 3) : At zs (k + 1) 0 :=
  ⟨Nat.zero_le _, by rw [h.2, drop_cons zs k hk, h3, cur_0, cur_0, unf_3n]⟩
theorem At.bad {zs : List Int} {k s : Nat} (h : At zs k s) (hk : k < zs.length) (h3 : zs.getD k 0 = 3) (hs : 0 < s) (hg : good (pc zs s (k - s)) (zs.drop (k + 1)) = false) : At zs (k + 1) 0 :=
  ⟨Nat.zero_le _, by rw [h.2, drop_cons zs k hk, h3, cur_s _ _ hs, cur_0, unf_3b _ _ _ hg]⟩
theorem At.found {zs : List Int} {k s : Nat} (h : At zs k s) (hk : k < zs.length) (h3 : zs.getD k 0 = 3) (hs : 0 < s) (hg : good (pc zs s (k - s)) (zs.drop (k + 1)) = true) : unf none 0 zs = some (pc zs s (k - s), k + 2) := by
  rw [h.2, drop_cons zs k hk, h3, cur_s _ _ hs, unf_3y _ _ _ hg]
theorem At.done {zs : List Int} {k s : Nat} (h : At zs k s) (hk : zs.length ≤ k) : unf none 0 zs = none := by
  rw [h.2, List.drop_of_length_le hk]; rfl
theorem found_le {zs : List Int} : ∀ {cur : Option (List Int)} {k : Nat} {x : List Int} {n : Nat}, unf cur k zs = some (x, n) → k ≤ n ∧ n ≤ k + zs.length := by
  induction zs with
  | nil => intro cur k x n h; simp [unf] at h
  | cons c r ih =>
    intro cur k x n h
    by_cases h2 : c = 2
    · subst h2; rw [unf_2] at h; have := ih h; simp; omega
    · by_cases h3 : c = 3
      · subst h3
        cases cur with
        | none => rw [unf_3n] at h; have := ih h; simp; omega
        | some y =>
          cases hg : good y r with
          | true =>
            rw [unf_3y _ _ _ hg] at h
            cases h
            simp [good] at hg
            simp; omega
          | false => rw [unf_3b _ _ _ hg] at h; have := ih h; simp; omega
      · rw [unf_o _ _ _ _ h2 h3] at h; have := ih h; simp; omega
end Go.Proofs.Ythchgjndaeefmaa
