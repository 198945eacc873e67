/- What a disk tells of a sector: by the program, and by the document's. -/
import Derived.Test.YthhgnflkplpklabDSmall
namespace Go.Proofs.Ythhgnflkplpklab.Dsc
open Go.ChangeShapes Go.WideShapes Go.ChangeAt Go.RowKit

theorem u58 : Try.prog.underlying 70 = some (.array 64 5) := by kernel_rfl
theorem i58 : (Try.prog.info? 70).map (·.size) = some 64 := by kernel_rfl

/-- What was written last to a sector. -/
def lastW (n : Nat) : List (Nat × List Int) → Option (List Int)
  | [] => none
  | x :: r => match lastW n r with
    | some s => some s
    | none => if x.1 = n then some x.2 else none
def readS (d : Dk) (n : Nat) : List Int := (lastW n d.waits).getD (d.secs.getD n [])
theorem lastW_append (n : Nat) (b : List (Nat × List Int)) : ∀ a, lastW n (a ++ b) = (lastW n b).or (lastW n a)
  | [] => by cases h : lastW n b <;> simp [lastW, h]
  | x :: r => by
    rw [List.cons_append, lastW, lastW_append n b r, lastW]
    cases lastW n b <;> cases lastW n r <;> simp
theorem lastW_hit {n m : Nat} {l : List (Nat × List Int)} {x : Nat × List Int} (hx : l[m]? = some x) (hn : x.1 = n) (hr : lastW n (l.drop (m + 1)) = none) : lastW n l = some x.2 := by
  have hm : m < l.length := (List.getElem?_eq_some_iff.1 hx).1
  have e : l = l.take m ++ (x :: l.drop (m + 1)) := by
    conv => lhs; rw [← List.take_append_drop m l]
    congr 1
    rw [List.drop_eq_getElem_cons hm]; simp_all
  rw [e, lastW_append, lastW, hr]; simp [hn]
theorem lastW_miss {n m : Nat} {l : List (Nat × List Int)} {x : Nat × List Int} (hx : l[m]? = some x) (hn : ¬ x.1 = n) (hr : lastW n (l.drop (m + 1)) = none) : lastW n (l.drop m) = none := by
  have hm : m < l.length := (List.getElem?_eq_some_iff.1 hx).1
  have e : l.drop m = x :: l.drop (m + 1) := by
    rw [List.drop_eq_getElem_cons hm]; simp_all
  rw [e, lastW, hr]; simp [hn]

/-- A piece of the row of what waits: its number, its bytes. -/
theorem Dat.atW {t : Ty} {w : World} {p : Nat} {sv wv : Value} {d : Dk} (h : Dat t w p sv wv d) {g : Nat} (hg : wv.ownBlock = some g) {k : Nat} {x : Nat × List Int} (hx : d.waits[k]? = some x) :
    w.rangeAt g (k * 65) (encW x) ∧ w.cell? ⟨g, k * 65, none⟩ = some (.int .i64 (x.1 : Int)) ∧ w.rangeAt g (k * 65 + 1) (by8 x.2) := by
  have := own_piece encW h.ok.lenW h.waits hg k x hx
  refine ⟨this, this 0 _ rfl, fun j v hv => ?_⟩
  have := this (j + 1) v (by simpa [encW] using hv)
  rw [show k * 65 + 1 + j = k * 65 + (j + 1) by omega]; exact this
theorem Dat.atS {t : Ty} {w : World} {p : Nat} {sv wv : Value} {d : Dk} (h : Dat t w p sv wv d) {g : Nat} (hg : sv.ownBlock = some g) {k : Nat} {s : List Int} (hx : d.secs[k]? = some s) :
    w.rangeAt g (k * 64) (by8 s) := own_piece by8 h.ok.len8 h.secs hg k s hx
/-- A sector is read, at a plain region's list. -/
theorem ld58 {ops : Array Oper} {rest : List Oper} {op : Oper} {a : Act} {w : World} {Q : Exit → Act → World → Prop} {b o : Nat} {s : List Int} (hr : w.rangeAt b o (by8 s)) (hs : Sec s)
    (hgd : op.guard = none) (x : Operand) (ho : op.op = .load 70 x) (hx : a.eval x = .pointer (some ⟨b, o, none⟩))
    (h : wpList Try.prog ops Q rest (a.put op.dst (.agg (by8 s).toArray)) w) : wpList Try.prog ops Q (op :: rest) a w :=
  wpList_load_mid hgd 70 x ho b o hx (by8 s) _ hr u58 rfl (by rw [i58]; simp [hs.1]) h
/-- A sector is written, at a plain region's list. -/
theorem st58 {ops : Array Oper} {rest : List Oper} {op : Oper} {a : Act} {w : World} {Q : Exit → Act → World → Prop} {b o : Nat} {s : List Int} (ht : w.there b o 64) (hs : Sec s)
    (hgd : op.guard = none) (x y : Operand) (ho : op.op = .store 70 x y) (hx : a.eval x = .pointer (some ⟨b, o, none⟩)) (hy : a.eval y = .agg (by8 s).toArray)
    (h : ∀ w', w.setCells b o (by8 s) = w' → wpList Try.prog ops Q rest (a.put op.dst undef) w') : wpList Try.prog ops Q (op :: rest) a w :=
  wpList_store_mid hgd 70 x y ho b o (by8 s).toArray hx hy (by simpa [hs.1] using ht) (by rw [i58]; simp [hs.1]) (all_oneCell_toArray (one8 s)) (by simpa using h _ rfl)
theorem results_cell {fn : Func} {t : Tmp} {ty : TypeId} {v : Value} {a : Addr} (h : fn.results = #[.cell t ty]) (tmps : Array Value) (P : Program) (w : World) (ht : tmps.getD t undef = .pointer (some a))
    (hl : (loadVar ty a).run P w = .ok v w) : (results fn tmps).run P w = .ok v w := by
  have ht' : tmps[t]?.getD undef = .pointer (some a) := by simpa using ht
  simp [results, h, ht', asAddr, hl]
theorem setCells_below {w wr : World} {s : List Value} (h : Below w.heap.size w wr) (o : Nat) : Below w.heap.size w (wr.setCells w.heap.size o s) := by
  induction s generalizing wr o with
  | nil => exact h
  | cons v r ih => exact ih (h.setCell (Nat.le_refl _) v) (o + 1)
theorem new_there (w : World) (C : Array Value) (t : TypeId) {n : Nat} (h : C.size = n) : (w.alloc (.cells C t)).there w.heap.size 0 n := by
  intro j hj
  have hb := heap_alloc_last w (.cells C t)
  subst h
  refine ⟨?_, froz_of_head hb _⟩
  rw [cell_of_head hb]; simp [hj]

set_option maxHeartbeats 1000000 in
theorem last_any (p : Nat) (sv wv : Value) (d : Dk) (n : Nat) (w : World) (h : Dat tc w p sv wv d) (hn : n < d.secs.length) :
    Calls Try.prog 27 #[.pointer (some ⟨p, 0, none⟩), .int .i64 (n : Int)] w fun e w' => e = .returned (.agg (by8 (readS d n)).toArray) ∧ Below w.heap.size w w' := by
  obtain ⟨a, cap, rfl, hmax⟩ := sv_form h.waits
  obtain ⟨b, scap, rfl, hmaxs⟩ := sv_form h.secs
  have c1 := h.c1
  have hp := h.plt
  have H := hid h
  clear h
  go_enter Try.func27, Try.ntmps27
  go_wp2
  go_loopw [5] (fun i wr => ∃ k : Nat, k ≤ d.waits.length ∧ i = .int .i64 ((k : Int) - 1) ∧ lastW n (d.waits.drop k) = none ∧ Dat tc wr p (.slice b d.secs.length scap) (.slice a d.waits.length cap) d ∧ Below w.heap.size w wr ∧ wr.there w.heap.size 0 64) (fun i _ => ((intOf i) + 1).toNat)
  case atStart =>
    refine ⟨d.waits.length, Nat.le_refl _, rfl, by simp [lastW], H.out.below ((Below.refl _ _).alloc (Nat.le_refl _) _), (Below.refl _ _).alloc (Nat.le_refl _) _, new_there _ _ _ rfl⟩
  case round =>
    obtain ⟨k, hkm, rfl, hk, hD, hB, hT⟩ := hrel
    have HK := hid hk
    have HD := hid hD
    have HB := hid hB
    have HT := hid hT
    have c0 := hD.c0
    have c1' := hD.c1
    clear hk hD hB hT c1
    by_cases h0 : k = 0
    · subst h0
      have hx : d.secs[n]? = some d.secs[n] := by simp [hn]
      have hsec := HD.out.ok.secs _ (List.mem_of_getElem? hx)
      obtain ⟨g, rfl⟩ : ∃ g, b = some ⟨g, 0, none⟩ := by
        obtain ⟨g, cap', hv, _⟩ := HD.out.secs.form (by omega)
        cases hv; exact ⟨g, rfl⟩
      have hr := HD.out.atS rfl hx
      have HE : Hid (readS d n = d.secs[n]) := by
        have := HK.out; simp at this; simp [Hid, readS, this, hn]
      have HX := hid hx
      have HR := hid hr
      have HS := hid hsec
      clear hx hr hsec
      generalize d.secs[n] = s at *
      go_wp2_with (first | refine ld58 HR.out HS.out rfl _ rfl rfl ?_ | (refine st58 HT.out HS.out rfl _ _ rfl rfl rfl ?_; intro w2 e2))
      have r2 := run_loadVar_mid (P := Try.prog) w2 w.heap.size 0 70 (by8 s) _ (by rw [← e2]; exact World.rangeAt_setCells_same _ _ _ _ (by simpa [HS.out.1] using HT.out)) u58 rfl (by rw [i58]; simp [HS.out.1])
      refine bodyPost_ret (results_cell Try.results27 _ _ _ rfl r2) rfl ⟨by rw [HE.out], ?_⟩
      rw [← e2]; exact setCells_below HB.out 0
    · obtain ⟨m, rfl⟩ : ∃ m, k = m + 1 := ⟨k - 1, by omega⟩
      have em : ((m + 1 : Nat) : Int) - 1 = (m : Int) := by omega
      have hm : m < d.waits.length := by omega
      obtain ⟨g, rfl⟩ : ∃ g, a = some ⟨g, 0, none⟩ := by
        obtain ⟨g, cap', hv, _⟩ := HD.out.waits.form (by omega)
        cases hv; exact ⟨g, rfl⟩
      have hx : d.waits[m]? = some d.waits[m] := by simp [hm]
      obtain ⟨_, cn, hr⟩ := HD.out.atW rfl hx
      have hsec := (HD.out.ok.waits _ (List.mem_of_getElem? hx)).2
      have HX := hid hx
      have HR := hid hr
      have HS := hid hsec
      clear hx hr hsec
      generalize d.waits[m] = x at *
      by_cases hq : x.1 = n
      · have hq' : (x.1 : Int) = n := by omega
        go_wp2_with (first | refine ld58 HR.out HS.out rfl _ rfl rfl ?_ | (refine st58 HT.out HS.out rfl _ _ rfl rfl rfl ?_; intro w2 e2))
        have r2 := run_loadVar_mid (P := Try.prog) w2 w.heap.size 0 70 (by8 x.2) _ (by rw [← e2]; exact World.rangeAt_setCells_same _ _ _ _ (by simpa [HS.out.1] using HT.out)) u58 rfl (by rw [i58]; simp [HS.out.1])
        have HE : readS d n = x.2 := by rw [readS, lastW_hit HX.out hq HK.out]; rfl
        refine bodyPost_ret (results_cell Try.results27 _ _ _ rfl r2) rfl ⟨by rw [HE], ?_⟩
        rw [← e2]; exact setCells_below HB.out 0
      · have hq' : ¬ (x.1 : Int) = n := by omega
        go_wp2
        go_roundw
        case rel => exact ⟨m, by omega, by go_num, lastW_miss HX.out hq HK.out, HD.out, HB.out, HT.out⟩
        case measure => simp [intOf]

theorem new_set {w w' : World} {C : Array Value} {t : TypeId} {s : List Int} (h : (w.alloc (.cells C t)).setCells w.heap.size 0 (by8 s) = w') (hC : C.size = 64) (hs : Sec s) :
    w'.rangeAt w.heap.size 0 (by8 s) ∧ Below w.heap.size w w' ∧ w'.there w.heap.size 0 64 := by
  subst h
  refine ⟨World.rangeAt_setCells_same _ _ _ _ (by simpa [hs.1] using new_there w C t hC), setCells_below ((Below.refl _ _).alloc (Nat.le_refl _) _) 0, World.there_setCells (new_there w C t hC) _ _ _⟩
theorem sq {w w1 w2 : World} (h : Below w.heap.size w w1) (k : Below w1.heap.size w1 w2) : Below w.heap.size w w2 := h.trans (k.mono h.size)

theorem readS_sec {d : Dk} (h : d.Ok) {n : Nat} (hn : n < d.secs.length) : Sec (readS d n) := by
  have key : ∀ (l : List (Nat × List Int)) (s : List Int), lastW n l = some s → (∀ x ∈ l, Sec x.2) → Sec s := by
    intro l
    induction l with
    | nil => intro s h _; simp [lastW] at h
    | cons x r ih =>
      intro s hs ha
      rw [lastW] at hs
      cases hr : lastW n r with
      | some q => rw [hr] at hs; simp at hs; subst hs; exact ih q hr (fun y hy => ha y (by simp [hy]))
      | none =>
        rw [hr] at hs; simp at hs
        obtain ⟨_, rfl⟩ := hs
        exact ha x (by simp)
  unfold readS
  cases hl : lastW n d.waits with
  | some s => exact key _ s hl (fun x hx => (h.waits x hx).2)
  | none => simp [hn]; exact h.secs _ (List.getElem_mem hn)

/-- The slice v is the bytes s, in memory of the call's own. -/
def Bys (w : World) (v : Value) (s : List Int) : Prop := w.ownsRow 0 5 1 v s.length (by8 s)
theorem info5 : (Try.prog.info? 5).map (fun i => (i.zero, i.size, i.bytes)) = some (some (.int .u8 0), 1, 1) := by kernel_rfl
theorem Bys.nil (w : World) : Bys w (.slice none 0 0) [] := World.ownsRow_nil w 0 5 1
theorem Bys.below {w w' : World} {v : Value} {s : List Int} (h : Bys w v s) (hb : Below w.heap.size w w') : Bys w' v s := own_kept h fun k e => hb.block k (World.ownsRow.lt h k e).2

/-- A sector's bytes are appended to nothing: new memory. -/
theorem app64 {ops : Array Oper} {rest : List Oper} {o : Oper} {a : Act} {w : World} {Q : Exit → Act → World → Prop} {b : Nat} {s : List Int} (hr : w.rangeAt b 0 (by8 s)) (hs : Sec s) (hgd : o.guard = none) (x y : Operand)
    (ho : o.op = .call { callee := .builtin .append, args := #[x, y], argTypes := #[22, 22] })
    (hx : a.eval x = .slice none 0 0) (hy : a.eval y = .slice (some ⟨b, 0, none⟩) 64 64)
    (h : ∀ g cap w', Bys w' (.slice (some ⟨g, 0, none⟩) 64 cap) s → Below w.heap.size w w' → w.heap.size ≤ g → g < w'.heap.size → wpList Try.prog ops Q rest (a.put o.dst (.slice (some ⟨g, 0, none⟩) 64 cap)) w') :
    wpList Try.prog ops Q (o :: rest) a w := by
  obtain ⟨i0, hi, hz0, hz1, hz2⟩ := info_parts info5
  have hsl := hs.1
  refine wpList_append_lies _ hgd x y 22 ho 0 5 i0 (.int .u8 0) 1 1 Try.underlying22 hi hz0 hz1 hz2 rfl (by decide) (.slice none 0 0) 0 [] hx (World.ownsRow_nil _ _ _ _)
    ⟨b, 0, none⟩ 64 64 (by8 s) hy (by simp [hsl]) (fun j u hj => by rw [Addr.add_mid]; exact hr j u hj) (one8 s) (by decide) (by unfold maxLen; omega) (by omega) (Nat.zero_le _) _ rfl ?_
  intro g cap w' hown hgrow hat hlt
  have hg : g = w.heap.size := by
    rcases hat with h | h
    · cases h
    · exact h
  rw [List.nil_append, Nat.zero_add] at hown
  simp only [Nat.zero_add]
  exact h g cap w' (by unfold Bys; rw [hsl]; exact hown) ((Below.refl _ _).grown hgrow (Nat.le_refl _) (fun k e => by cases e)) (by omega) hlt

def readB (d : Dk) (n : Int) : List Int := if reachZ d n = 0 then readS d n.toNat else []
theorem reach_ok {d : Dk} {n : Int} (h : reachZ d n = 0) : 0 ≤ n ∧ n < d.secs.length ∧ d.down = false := by
  unfold reachZ at h
  split at h
  · omega
  · split at h
    · omega
    · rename_i h1 h2; exact ⟨by omega, by omega, by simpa using h1⟩

set_option maxHeartbeats 1000000 in
theorem read_any (p : Nat) (sv wv : Value) (d : Dk) (n : Int) (w : World) (h : Dat tc w p sv wv d) :
    Calls Try.prog 16 #[.pointer (some ⟨p, 0, none⟩), .int .i64 n] w fun e w' => ∃ v, e = .returned (.tuple #[v, .int .i64 (reachZ d n)]) ∧ Bys w' v (readB d n) ∧ Below w.heap.size w w' ∧ ∀ k, v.ownBlock = some k → w.heap.size ≤ k := by
  have H := hid h
  by_cases hz : reachZ d n = 0
  · obtain ⟨h1, h2, h3⟩ := reach_ok hz
    have HE : Hid (readB d n = readS d n.toNat) := by unfold Hid; rw [readB, if_pos hz]
    obtain ⟨n, rfl⟩ := Int.eq_ofNat_of_zero_le h1
    have hn : n < d.secs.length := by omega
    have HS := hid (readS_sec h.ok hn)
    have HQ : Hid (readB d n = readS d n) := HE.out
    clear h HE
    generalize hd : readS d n = s at *
    have HD := hid hd
    clear hd
    go_enter Try.func16, Try.ntmps16
    go_wp2_with (first | (go_at_call 26; refine (reach_any _ _ _ _ _ _ H.out).mono ?_; rintro e w1 ⟨rfl, rfl⟩) | (go_at_call 27; refine (last_any _ _ _ _ _ _ H.out hn).mono ?_; rintro e w2 ⟨rfl, b2⟩; rw [HD.out]) | (refine st58 (new_there _ _ _ rfl) HS.out rfl _ _ rfl rfl rfl ?_; intro w3 e3; obtain ⟨r3, b3, _⟩ := new_set e3 rfl HS.out; clear e3; have R3 := hid r3; clear r3) | (at_builtin; refine app64 (s := s) R3.out HS.out rfl _ _ rfl rfl rfl ?_; intro g cap w4 y4 b4 g4 l4))
    go_ret2
    refine ⟨_, (by rw [hz]; rfl), by rw [HQ.out]; exact y4, sq (sq b2 b3) b4, fun k e => ?_⟩
    cases e
    exact Nat.le_trans (sq b2 b3).size g4
  · have HE : Hid (readB d n = []) := by unfold Hid; rw [readB, if_neg hz]
    clear h
    go_enter Try.func16, Try.ntmps16
    go_wp2_with (go_at_call 26; refine (reach_any _ _ _ _ _ _ H.out).mono ?_; rintro e w1 ⟨rfl, rfl⟩)
    go_ret2
    exact ⟨_, rfl, by rw [HE.out]; exact Bys.nil _, Below.refl _ _, fun k e => by cases e⟩

theorem u49 : Try.prog.underlying 69 = some (.array 64 5) := by kernel_rfl
theorem i49 : (Try.prog.info? 69).map (·.size) = some 64 := by kernel_rfl
theorem ld49 {ops : Array Oper} {rest : List Oper} {op : Oper} {a : Act} {w : World} {Q : Exit → Act → World → Prop} {b o : Nat} {s : List Int} (hr : w.rangeAt b o (by8 s)) (hs : Sec s)
    (hgd : op.guard = none) (x : Operand) (ho : op.op = .load 69 x) (hx : a.eval x = .pointer (some ⟨b, o, none⟩))
    (h : wpList Try.prog ops Q rest (a.put op.dst (.agg (by8 s).toArray)) w) : wpList Try.prog ops Q (op :: rest) a w :=
  wpList_load_mid hgd 69 x ho b o hx (by8 s) _ hr u49 rfl (by rw [i49]; simp [hs.1]) h
theorem st49 {ops : Array Oper} {rest : List Oper} {op : Oper} {a : Act} {w : World} {Q : Exit → Act → World → Prop} {b o : Nat} {s : List Int} (ht : w.there b o 64) (hs : Sec s)
    (hgd : op.guard = none) (x y : Operand) (ho : op.op = .store 69 x y) (hx : a.eval x = .pointer (some ⟨b, o, none⟩)) (hy : a.eval y = .agg (by8 s).toArray)
    (h : ∀ w', w.setCells b o (by8 s) = w' → wpList Try.prog ops Q rest (a.put op.dst undef) w') : wpList Try.prog ops Q (op :: rest) a w :=
  wpList_store_mid hgd 69 x y ho b o (by8 s).toArray hx hy (by simpa [hs.1] using ht) (by rw [i49]; simp [hs.1]) (all_oneCell_toArray (one8 s)) (by simpa using h _ rfl)

/-- What was written last, by the first k that wait. -/
def upS (d : Dk) (n k : Nat) : List Int := (lastW n (d.waits.take k)).getD (d.secs.getD n [])
theorem upS_next {d : Dk} {n k : Nat} {x : Nat × List Int} (hx : d.waits[k]? = some x) : upS d n (k + 1) = if x.1 = n then x.2 else upS d n k := by
  have hk : k < d.waits.length := (List.getElem?_eq_some_iff.1 hx).1
  have e : d.waits.take (k + 1) = d.waits.take k ++ [x] := by
    rw [List.take_succ_eq_append_getElem hk]; simp_all
  unfold upS
  rw [e, lastW_append]
  simp only [lastW]
  split <;> simp
theorem upS_sec {d : Dk} (h : d.Ok) {n : Nat} (hn : n < d.secs.length) (k : Nat) : Sec (upS d n k) :=
  readS_sec (d := { d with waits := d.waits.take k }) ⟨h.secs, fun x hx => h.waits x (List.mem_of_mem_take hx), h.left, h.size⟩ hn

end Go.Proofs.Ythhgnflkplpklab.Dsc
