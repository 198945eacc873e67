/- The rows of rows, of bools and of numbers that are made while the ends are told: whose memory is whose. No function is walked. -/
import Derived.Test.YthhgochnlbiaaaaMp
import Derived.Test.YthhgochnlbiaaaaBack
import Derived.Maps.AppendAt
namespace Go.Proofs.Ythhgochnlbiaaaa
open Go.ChangeShapes Go.WideShapes Go.ChangeAt Go.RowKit

theorem row_type {B : Nat} {w : World} {v : Value} {n : Nat} {l : List Int} (h : I.Row B w v n l) {k : Nat} (hk : v.ownBlock = some k) : ∃ c, w.heap[k]? = some (.cells c 3 (0, 0)) := by
  rcases h.2 with ⟨rfl, _⟩ | ⟨g, cap, cur, rfl, _, hc, _⟩
  · cases hk
  · cases hk; exact ⟨_, hc⟩
theorem rowIs_type {w : World} {b n : Nat} {t : TypeId} {f : Nat → Value} (h : w.rowIs b t n f) : ∃ c, w.heap[b]? = some (.cells c t (0, 0)) := by
  obtain ⟨c, hb, _⟩ := h; exact ⟨c, hb⟩
theorem row_off {B : Nat} {w : World} {v : Value} {n m b : Nat} {t : TypeId} {l : List Int} {f : Nat → Value} (h : I.Row B w v n l) (hr : w.rowIs b t m f) (ht : t ≠ 3) : v.ownBlock ≠ some b := fun e => by
  obtain ⟨c, hc⟩ := row_type h e
  obtain ⟨d, hd⟩ := rowIs_type hr
  rw [hc] at hd; simp at hd; exact ht hd.2.symm
structure ME (W w : World) (n bF bE : Nat) (V : Nat → Value) (F : Nat → List Int) (tv : Value) (T : List Int) (e : Nat → Bool) : Prop where
  bel : Below W.heap.size W w
  hF : W.heap.size ≤ bF
  hE : W.heap.size ≤ bE
  rf : w.rowIs bF 32 n V
  re : w.rowIs bE 4 n (fun i => .bool (e i))
  rows : ∀ j, j < n → I.Row W.heap.size w (V j) (F j).length (F j)
  told : I.Row W.heap.size w tv T.length T
  apart : ∀ i j, i < n → j < n → i ≠ j → ∀ k, (V i).ownBlock = some k → (V j).ownBlock ≠ some k
  tap : ∀ j, j < n → ∀ k, (V j).ownBlock = some k → tv.ownBlock ≠ some k
section
variable {W w w' : World} {n bF bE : Nat} {V : Nat → Value} {F : Nat → List Int} {tv : Value} {T : List Int} {e : Nat → Bool}
theorem ME.below (h : ME W w n bF bE V F tv T e) (hb : Below w.heap.size w w') : ME W w' n bF bE V F tv T e :=
  ⟨sq h.bel hb, h.hF, h.hE, h.rf.of_block (hb.block _ h.rf.lt), h.re.of_block (hb.block _ h.re.lt), fun j hj => (h.rows j hj).below hb, h.told.below hb, h.apart, h.tap⟩
theorem row_grown {B : Nat} {v : Value} {m : Nat} {l : List Int} {row : Option Nat} (h : I.Row B w v m l) (hg : w.grownBy w' row) (hne : ∀ k, v.ownBlock = some k → row ≠ some k) : I.Row B w' v m l :=
  own_kept h fun k e => hg.block k (World.ownsRow.lt h k e).2 (fun e2 => hne k e e2.symm)
theorem rowIs_grown {b m : Nat} {t : TypeId} {f : Nat → Value} {row : Option Nat} (h : w.rowIs b t m f) (hg : w.grownBy w' row) (hne : row ≠ some b) : w'.rowIs b t m f :=
  h.of_block (hg.block b h.lt (fun e => hne e.symm))
theorem row_set {B : Nat} {v x : Value} {m b o : Nat} {l : List Int} (h : I.Row B w v m l) (hne : v.ownBlock ≠ some b) : I.Row B (w.setCell ⟨b, o, none⟩ x) v m l :=
  own_kept h fun k e => Below.heap_setCell _ _ _ _ (fun e2 => hne (by rw [e]; exact congrArg some e2))
/-- Between the append and the store: the rows of rows are as they were. -/
theorem ME.mid (h : ME W w n bF bE V F tv T e) {row : Option Nat} (hg : w.grownBy w' row) (hr : row ≠ some bF) : w'.rowIs bF 32 n V := rowIs_grown h.rf hg hr
theorem ME.push (h : ME W w n bF bE V F tv T e) {j : Nat} (hj : j < n) {x : Int} {ao : Option Addr} {m c : Nat} (hown : I.Row W.heap.size w' (.slice ao m c) m (F j ++ [x])) (hg : w.grownBy w' (V j).ownBlock)
    (hat : (Value.slice ao m c).ownBlock = (V j).ownBlock ∨ (Value.slice ao m c).ownBlock = some w.heap.size) :
    ME W (w'.setCell ⟨bF, j, none⟩ (.slice ao m c)) n bF bE (updN V j (.slice ao m c)) (updN F j (F j ++ [x])) tv T e := by
  have hjF := row_off (h.rows j hj) h.rf (by decide)
  have hjE := row_off (h.rows j hj) h.re (by decide)
  have hrf := rowIs_grown h.rf hg hjF
  have hre := rowIs_grown h.re hg hjE
  have hFE : bF ≠ bE := fun e2 => by
    obtain ⟨c1, h1⟩ := rowIs_type h.rf
    obtain ⟨c2, h2⟩ := rowIs_type h.re
    rw [e2] at h1; rw [h1] at h2; simp at h2
  have hrows : ∀ i, i < n → i ≠ j → I.Row W.heap.size w' (V i) (F i).length (F i) := fun i hi hij => row_grown (h.rows i hi) hg (fun k hk => h.apart i j hi hj hij k hk)
  have htold : I.Row W.heap.size w' tv T.length T := row_grown h.told hg (fun k hk e2 => h.tap j hj k e2 hk)
  have hnew : ∀ k, (Value.slice ao m c).ownBlock = some k → k ≠ bF := fun k hk e2 => row_off hown hrf (by decide) (by rw [hk, e2])
  have hlen : (F j ++ [x]).length = m := hown.len
  have fresh : ∀ (v : Value) (q : Nat) (L : List Int), I.Row W.heap.size w v q L → ∀ k, v.ownBlock = some k → k < w.heap.size := fun v q L hr k hk => (World.ownsRow.lt hr k hk).2
  refine ⟨(h.bel.grown hg h.bel.size (fun k hk => (h.rows j hj).blk k hk)).setCell (by exact h.hF) _, h.hF, h.hE, ?_, hre.setOther (fun e2 => hFE e2.symm) _, ?_, row_set htold (row_off htold hrf (by decide)), ?_, ?_⟩
  · exact (hrf.set j _).congr fun i _ => by unfold updN; rfl
  · intro i hi
    unfold updN
    by_cases e2 : i = j
    · subst e2; simp only [if_true]; rw [hlen]; exact row_set hown (fun e3 => hnew _ e3 rfl)
    · simp only [e2, if_false]; exact row_set (hrows i hi e2) (row_off (hrows i hi e2) hrf (by decide))
  · intro i k hi hk hik q hq
    unfold updN at hq ⊢
    by_cases e2 : i = j
    · subst e2
      simp only [if_true] at hq
      have e3 : ¬ k = i := fun e => hik e.symm
      simp only [e3, if_false]
      intro hk2
      rcases hat with ha | ha
      · exact h.apart i k hi hk hik q (by rw [← ha]; exact hq) hk2
      · rw [hq] at ha; simp at ha; have := fresh _ _ _ (h.rows k hk) q hk2; omega
    · simp only [e2, if_false] at hq
      by_cases e3 : k = j
      · subst e3
        simp only [if_true]
        intro hk2
        rcases hat with ha | ha
        · exact h.apart i k hi hk hik q hq (by rw [← ha]; exact hk2)
        · rw [hk2] at ha; simp at ha; have := fresh _ _ _ (h.rows i hi) q hq; omega
      · simp only [e3, if_false]; exact h.apart i k hi hk hik q hq
  · intro i hi k hk
    unfold updN at hk
    by_cases e2 : i = j
    · subst e2
      simp only [if_true] at hk
      rcases hat with ha | ha
      · exact h.tap i hi k (by rw [← ha]; exact hk)
      · intro hk2; rw [hk] at ha; simp at ha; have := fresh _ _ _ h.told k hk2; omega
    · simp only [e2, if_false] at hk; exact h.tap i hi k hk
theorem ME.tell (h : ME W w n bF bE V F tv T e) {x : Int} {ao : Option Addr} {m c : Nat} (hown : I.Row W.heap.size w' (.slice ao m c) m (T ++ [x])) (hg : w.grownBy w' tv.ownBlock)
    (hat : (Value.slice ao m c).ownBlock = tv.ownBlock ∨ (Value.slice ao m c).ownBlock = some w.heap.size) :
    ME W w' n bF bE V F (.slice ao m c) (T ++ [x]) e := by
  have htF := row_off h.told h.rf (by decide)
  have htE := row_off h.told h.re (by decide)
  have hlen : (T ++ [x]).length = m := hown.len
  refine ⟨h.bel.grown hg h.bel.size (fun k hk => h.told.blk k hk), h.hF, h.hE, rowIs_grown h.rf hg htF, rowIs_grown h.re hg htE, fun j hj => row_grown (h.rows j hj) hg (fun k hk => h.tap j hj k hk), by rw [hlen]; exact hown, h.apart, ?_⟩
  intro j hj k hk hk2
  rcases hat with ha | ha
  · exact h.tap j hj k hk (by rw [← ha]; exact hk2)
  · rw [hk2] at ha; simp at ha; have := (World.ownsRow.lt (h.rows j hj) k hk).2; omega
theorem ME.mark (h : ME W w n bF bE V F tv T e) (i : Nat) : ME W (w.setCell ⟨bE, i, none⟩ (.bool true)) n bF bE V F tv T (updN e i true) := by
  have hFE : bF ≠ bE := fun e2 => by
    obtain ⟨c1, h1⟩ := rowIs_type h.rf
    obtain ⟨c2, h2⟩ := rowIs_type h.re
    rw [e2] at h1; rw [h1] at h2; simp at h2
  refine ⟨h.bel.setCell (by exact h.hE) _, h.hF, h.hE, h.rf.setOther hFE _, (h.re.set i _).congr (fun j _ => ?_), fun j hj => row_set (h.rows j hj) (row_off (h.rows j hj) h.re (by decide)), row_set h.told (row_off h.told h.re (by decide)), h.apart, h.tap⟩
  unfold updN
  by_cases e2 : j = i
  · simp [e2]
  · simp [e2]
end
/-- One number is appended to a row of the call's own: it lies where it lay, or in new memory. -/
theorem app1 {ops : Array Oper} {rest : List Oper} {o : Oper} {a : Act} {w : World} {Q : Exit → Act → World → Prop} {B n1 c1 m : Nat} {ao1 : Option Addr} {l1 : List Int} {bx : Nat} {x : Int}
    (h1 : I.Row B w (.slice ao1 n1 c1) n1 l1) (hc : w.cell? ⟨bx, 0, none⟩ = some (.int .i64 x)) (hBw : B ≤ w.heap.size) (hm : n1 + 1 = m) (hsmall : m ≤ 1000000)
    (hgd : o.guard = none) (s y : Operand) (ho : o.op = .call { callee := .builtin .append, args := #[s, y], argTypes := #[32, 32] })
    (hs : a.eval s = .slice ao1 n1 c1) (hx : a.eval y = .slice (some ⟨bx, 0, none⟩) 1 1)
    (h : ∀ ao cap w', I.Row B w' (.slice ao m cap) m (l1 ++ [x]) → w.grownBy w' (Value.slice ao1 n1 c1).ownBlock → ((Value.slice ao m cap).ownBlock = (Value.slice ao1 n1 c1).ownBlock ∨ (Value.slice ao m cap).ownBlock = some w.heap.size) → wpList Try.prog ops Q rest (a.put o.dst (.slice ao m cap)) w') :
    wpList Try.prog ops Q (o :: rest) a w := by
  subst hm
  obtain ⟨i0, hi, hz0, hz1, hz2⟩ := info_parts Try.info3
  refine wpList_append_own_at w hgd s y 32 ho B 3 i0 (.int .i64 0) 1 8 Try.underlying32 hi hz0 hz1 hz2 rfl (by decide) _ n1 (I.by8 l1) hs h1
    ⟨bx, 0, none⟩ 1 1 (I.by8 [x]) hx rfl (fun j u hj => ?_) (I.one8 [x]) (by unfold maxLen; omega) (by omega) hBw ?_
  · cases j with
    | zero => simp at hj; subst hj; exact hc
    | succ j => simp at hj
  · intro v' w' hown' hgrow _ hat
    have hR : I.Row B w' v' (n1 + 1) (l1 ++ [x]) := by unfold I.Row; rw [I.by8, List.map_append]; exact hown'
    obtain ⟨ao, cap, rfl, _⟩ := hR.form
    exact h ao cap w' hR hgrow hat
end Go.Proofs.Ythhgochnlbiaaaa
