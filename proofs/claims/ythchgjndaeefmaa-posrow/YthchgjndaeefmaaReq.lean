/- Requests as plain data; their bytes; what bytes are read as. No function is walked. -/
import Derived.Test.YthchgjndaeefmaaDigR
import Derived.Test.YthchgjndaeefmaaWFr
import Derived.Test.YthchgjndaeefmaaWide
namespace Go.Proofs.Ythchgjndaeefmaa
open Go.ChangeShapes Go.WideShapes Go.ChangeAt Go.RowKit

def panB (s : ByteArray) : Bool := decide (1 ≤ s.size) && (decide (s.size ≤ 19) && digB s.data.toList)
def rightL (r : Ps) : Bool := decide (r.seq ≤ 999999) && (panB r.pan && (decide (1 ≤ r.amt) && decide (r.amt ≤ 1000000)))
structure Ps.Ok (r : Ps) : Prop where
  term : 0 ≤ r.term ∧ r.term < 65536
  seq : 0 ≤ r.seq ∧ r.seq < 4294967296
/-- What stands between a request's marks. -/
def putT (r : Ps) : List Int := 80 :: (decL r.term 5 ++ (decL r.seq 6 ++ (decL r.amt 12 ++ panL r.pan)))
def putL (r : Ps) : List Int := if rightL r = true then frL (putT r) else []
def putE (r : Ps) : Int := if rightL r = true then 0 else 27
theorem putT_len (r : Ps) : (putT r).length = 24 + r.pan.size := by
  simp [putT, decL_length, panL_len]; omega
theorem dec_byt (v : Int) (m : Nat) : Byt (decL v m) := decL_byt v m
theorem putT_byt (r : Ps) : Byt (putT r) := by
  intro x hx
  simp only [putT, List.mem_cons, List.mem_append] at hx
  rcases hx with h | h | h | h | h
  · subst h; omega
  · exact decL_byt _ _ x h
  · exact decL_byt _ _ x h
  · exact decL_byt _ _ x h
  · exact panL_byt _ x h
/-- No sign of it is a mark. -/
theorem mkB_no {l : List Int} (h : ∀ x ∈ l, 48 ≤ x ∧ x ≤ 80) : mkB l = false := by
  unfold mkB
  rw [List.any_eq_false]
  intro x hx
  have := h x hx
  simp; omega
theorem digB_mem {l : List UInt8} (h : digB l = true) : ∀ c ∈ l, 48 ≤ (c.toNat : Int) ∧ (c.toNat : Int) ≤ 57 := by
  unfold digB at h
  rw [List.all_eq_true] at h
  intro c hc
  exact of_decide_eq_true (h c hc)
theorem panL_dig {s : ByteArray} (h : digB s.data.toList = true) : ∀ x ∈ panL s, 48 ≤ x ∧ x ≤ 80 := by
  intro x hx
  unfold panL at hx
  rw [List.mem_map] at hx
  obtain ⟨c, hc, rfl⟩ := hx
  have := digB_mem h c hc
  omega
structure Right (r : Ps) : Prop where
  seq : r.seq ≤ 999999
  p1 : 1 ≤ r.pan.size
  p2 : r.pan.size ≤ 19
  dig : digB r.pan.data.toList = true
  a1 : 1 ≤ r.amt
  a2 : r.amt ≤ 1000000
theorem right_parts {r : Ps} (h : rightL r = true) : Right r := by
  simp only [rightL, panB, Bool.and_eq_true, decide_eq_true_eq] at h
  obtain ⟨h1, ⟨h2, h3, h4⟩, h5, h6⟩ := h
  exact ⟨h1, h2, h3, h4, h5, h6⟩
theorem right_of {r : Ps} (h : Right r) : rightL r = true := by
  simp only [rightL, panB, Bool.and_eq_true, decide_eq_true_eq]
  exact ⟨h.seq, ⟨h.p1, h.p2, h.dig⟩, h.a1, h.a2⟩
theorem putT_no {r : Ps} (h : rightL r = true) : mkB (putT r) = false := by
  refine mkB_no ?_
  intro x hx
  simp only [putT, List.mem_cons, List.mem_append] at hx
  rcases hx with h0 | h0 | h0 | h0 | h0
  · omega
  · have := decL_bd _ _ x h0; omega
  · have := decL_bd _ _ x h0; omega
  · have := decL_bd _ _ x h0; omega
  · exact panL_dig (right_parts h).dig x h0
theorem putT_fr {r : Ps} (h : rightL r = true) : frOk (putT r) = true :=
  frOk_yes (by rw [putT_len]; have := (right_parts h).p2; omega) (putT_no h)
theorem putL_yes {r : Ps} (h : rightL r = true) : putL r = frL (putT r) := if_pos h
theorem putL_no {r : Ps} (h : rightL r = false) : putL r = [] := by unfold putL; rw [if_neg (by simp [h])]
theorem putE_yes {r : Ps} (h : rightL r = true) : putE r = 0 := if_pos h
theorem putE_no {r : Ps} (h : rightL r = false) : putE r = 27 := by unfold putE; rw [if_neg (by simp [h])]
theorem putL_byt (r : Ps) : Byt (putL r) := by
  unfold putL
  split
  · exact fr_byt (putT_byt r)
  · intro x hx; cases hx
theorem putL_len {r : Ps} (h : rightL r = true) : (putL r).length = 27 + r.pan.size := by
  rw [putL_yes h, fr_len, putT_len]; omega

/-! ### What bytes are read as -/
def fT (x : List Int) : ByteArray := strOfNums (pc x 1 5)
def fS (x : List Int) : ByteArray := strOfNums (pc x 6 6)
def fA (x : List Int) : ByteArray := strOfNums (pc x 12 12)
def fP (x : List Int) : ByteArray := strOfNums (x.drop 24)
def reqP (x : List Int) : Ps := ⟨numV (fT x), numV (fS x), fP x, numV (fA x)⟩
def headB (x : List Int) : Bool := decide (25 ≤ x.length) && decide (x.getD 0 0 = 80)
def numsB (x : List Int) : Bool := numOk (fT x) && (numOk (fS x) && (numOk (fA x) && decide (numV (fT x) ≤ 65535)))
def reqB (x : List Int) : Bool := headB x && (numsB x && rightL (reqP x))
def reqL (x : List Int) : Ps := if reqB x = true then reqP x else Ps.zero
def rdP (zs : List Int) : Ps := if (ufB zs && reqB (ufX zs)) = true then reqP (ufX zs) else Ps.zero
def rdE (zs : List Int) : Int := if (ufB zs && reqB (ufX zs)) = true then 0 else 23
theorem rd_none {zs : List Int} (h : ufB zs = false) : rdP zs = Ps.zero ∧ rdE zs = 23 := by
  unfold rdP rdE; rw [h]; exact ⟨rfl, rfl⟩
theorem rd_no {zs : List Int} (h : reqB (ufX zs) = false) : rdP zs = Ps.zero ∧ rdE zs = 23 := by
  unfold rdP rdE; rw [h]; simp
theorem rd_yes {zs : List Int} (h : ufB zs = true) (h' : reqB (ufX zs) = true) : rdP zs = reqP (ufX zs) ∧ rdE zs = 0 := by
  unfold rdP rdE; rw [h, h']; exact ⟨rfl, rfl⟩
theorem take_app (a b : List Int) (m : Nat) (h : a.length = m) : (a ++ b).take m = a := by subst h; exact List.take_left
theorem drop_app (a b : List Int) (m : Nat) (h : a.length = m) : (a ++ b).drop m = b := by subst h; exact List.drop_left
theorem fT_put (r : Ps) : fT (putT r) = strOfNums (decL r.term 5) := by
  unfold fT pc putT
  rw [show (80 :: (decL r.term 5 ++ (decL r.seq 6 ++ (decL r.amt 12 ++ panL r.pan)))).drop 1 = decL r.term 5 ++ (decL r.seq 6 ++ (decL r.amt 12 ++ panL r.pan)) from rfl, take_app _ _ 5 (decL_length _ _)]
theorem drop6 (r : Ps) : (putT r).drop 6 = decL r.seq 6 ++ (decL r.amt 12 ++ panL r.pan) := by
  unfold putT
  rw [show (80 :: (decL r.term 5 ++ (decL r.seq 6 ++ (decL r.amt 12 ++ panL r.pan)))).drop 6 = (decL r.term 5 ++ (decL r.seq 6 ++ (decL r.amt 12 ++ panL r.pan))).drop 5 from rfl, drop_app _ _ 5 (decL_length _ _)]
theorem drop12 (r : Ps) : (putT r).drop 12 = decL r.amt 12 ++ panL r.pan := by
  rw [show 12 = 6 + 6 from rfl, ← List.drop_drop, drop6, drop_app _ _ 6 (decL_length _ _)]
theorem drop24 (r : Ps) : (putT r).drop 24 = panL r.pan := by
  rw [show 24 = 12 + 12 from rfl, ← List.drop_drop, drop12, drop_app _ _ 12 (decL_length _ _)]
theorem fS_put (r : Ps) : fS (putT r) = strOfNums (decL r.seq 6) := by
  unfold fS pc; rw [drop6, take_app _ _ 6 (decL_length _ _)]
theorem fA_put (r : Ps) : fA (putT r) = strOfNums (decL r.amt 12) := by
  unfold fA pc; rw [drop12, take_app _ _ 12 (decL_length _ _)]
theorem fP_put (r : Ps) : fP (putT r) = r.pan := by
  unfold fP; rw [drop24, str_panL]
theorem num_back {v : Int} {m : Nat} (h1 : 1 ≤ m) (h2 : m ≤ 18) (h0 : 0 ≤ v) (h : v / 10 ^ m = 0) : numOk (strOfNums (decL v m)) = true ∧ numV (strOfNums (decL v m)) = v := by
  have h3 := digOk_yes h0 h1 h2 h
  have h4 := digS_back h3.1
  rwa [h3.2] at h4
theorem req_put {r : Ps} (ho : r.Ok) (h : rightL r = true) : reqB (putT r) = true ∧ reqP (putT r) = r := by
  have R := right_parts h
  obtain ⟨t1, t2⟩ := ho.term
  obtain ⟨s1, s2⟩ := ho.seq
  have ht := num_back (v := r.term) (m := 5) (by omega) (by omega) t1 (by omega)
  have hs := num_back (v := r.seq) (m := 6) (by omega) (by omega) s1 (by have := R.seq; omega)
  have ha := num_back (v := r.amt) (m := 12) (by omega) (by omega) (by have := R.a1; omega) (by have := R.a1; have := R.a2; omega)
  have hp : reqP (putT r) = r := by unfold reqP; rw [fT_put, fS_put, fA_put, fP_put, ht.2, hs.2, ha.2]
  refine ⟨?_, hp⟩
  unfold reqB headB numsB
  rw [hp, h, fT_put, fS_put, fA_put, ht.1, hs.1, ha.1, ht.2, putT_len, decide_eq_true (p := 25 ≤ 24 + r.pan.size) (by have := R.p1; omega), decide_eq_true (p := r.term ≤ 65535) (by omega)]
  rfl
theorem uf_put {r : Ps} (h : rightL r = true) (a more : List Int) (ha : ∀ x ∈ a, ¬ x = 2) : ufX (a ++ (putL r ++ more)) = putT r ∧ ufN (a ++ (putL r ++ more)) = a.length + (putL r).length ∧ ufB (a ++ (putL r ++ more)) = true := by
  rw [putL_yes h]
  have := unf_ahead a (frL (putT r) ++ more) 0 ha
  rw [Nat.zero_add, unf_frame none a.length (putT r) more (putT_fr h)] at this
  exact uf_some this
/-- What Put makes is read as the same request. -/
theorem rd_put {r : Ps} (ho : r.Ok) (h : rightL r = true) (a more : List Int) (ha : ∀ x ∈ a, ¬ x = 2) : rdP (a ++ (putL r ++ more)) = r ∧ rdE (a ++ (putL r ++ more)) = 0 := by
  obtain ⟨h1, h2, h3⟩ := uf_put h a more ha
  obtain ⟨h4, h5⟩ := req_put ho h
  have := rd_yes h3 (by rw [h1]; exact h4)
  rwa [h1, h5] at this
theorem read_back {r : Ps} (ho : r.Ok) (h : rightL r = true) : rdP (putL r) = r ∧ rdE (putL r) = 0 ∧ ufN (putL r) = (putL r).length := by
  have h1 := rd_put ho h [] [] (by intro x hx; cases hx)
  have h2 := uf_put h [] [] (by intro x hx; cases hx)
  simp only [List.nil_append, List.append_nil, List.length_nil, Nat.zero_add] at h1 h2
  exact ⟨h1.1, h1.2, h2.2.1⟩
end Go.Proofs.Ythchgjndaeefmaa
