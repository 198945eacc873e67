/- What a law's arguments are: rows of bytes that came in; a row of numbers of the call's own. -/
import Derived.Test.YthhgnflkplpklabRKnown
namespace Go.Proofs.Ythhgnflkplpklab.Frm
set_option maxRecDepth 20000
open Go.ChangeShapes Go.WideShapes Go.ChangeAt Go.RowKit

/-- A slice of bytes that came in. -/
structure InB (W : World) (a : Option Addr) (len cap : Nat) (l : List Int) : Prop where
  giv : Given W a len cap l
  nil : a = none → len = 0 ∧ cap = 0
section
variable {H : Type} {enc : TypeId × Value → H} {W : World} {n : Nat} {v : Value} {d : DataW H} {p : List MemPlace}
theorem open_inB (h : DataW.trod enc Try.prog W 0 (fun _ => true) true n 22 [v] = some (d, p)) : ∃ a len cap l, v = .slice a len cap ∧ InB W a len cap l := by
  rcases open_ints Try.underlying22 Try.underlying5 (by kernel_rfl) h with ⟨hcs, _⟩ | ⟨x, l, c, zs, hcs, _, hl, hm, hz, hx, hcell, hwz⟩
  · simp at hcs; subst hcs
    exact ⟨none, 0, 0, [], rfl, ⟨rfl, fun z hz => by simp at hz, .inl rfl, by omega, by omega⟩, fun _ => ⟨rfl, rfl⟩⟩
  · simp at hcs; subst hcs
    have hz' : zs.length = c := by simpa using hz
    have hlen : (zs.take l).length = l := by rw [List.length_take]; omega
    refine ⟨some x, l, c, zs.take l, rfl, ⟨hlen, fun z hz => by have := bounds_u8 (hwz z (List.mem_of_mem_take hz)); omega, ?_, by omega, by unfold maxLen at hm; omega⟩, fun e => by cases e⟩
    by_cases h0 : l = 0
    · subst h0; exact .inl (by simp)
    · obtain ⟨b, off, spot⟩ := x
      have hc := hcell 0 (by omega)
      have hspot : spot = none := by simpa [Addr.add] using World.cell?_spot hc
      subst hspot
      refine .inr ⟨b, off, rfl, fun i hi => ?_⟩
      have := hcell i (by omega)
      rw [Addr.add_mid] at this
      rw [this]
      have h1 : i < l := by omega
      have h2 : i < zs.length := by omega
      simp [h1, h2]
end
/-! ### A row of numbers of the call's own -/
abbrev i8 (s : List Int) : List Value := s.map (Value.int .i64)
theorem onei (s : List Int) : ∀ u ∈ i8 s, u.oneCell' = true := by
  intro u hu; simp at hu; obtain ⟨z, _, rfl⟩ := hu; rfl
theorem Try.info3 : (Try.prog.info? 3).map (fun i => (i.zero, i.size, i.bytes)) = some (some (.int .i64 0), 1, 8) := by kernel_rfl
def RowI (B : Nat) (w : World) (v : Value) (n : Nat) (l : List Int) : Prop := w.ownsRow B 3 1 v n (i8 l)
theorem RowI.nil (B : Nat) (w : World) : RowI B w (.slice none 0 0) 0 [] := World.ownsRow_nil w B 3 1
theorem RowI.below {B : Nat} {w w' : World} {v : Value} {n : Nat} {l : List Int} (h : RowI B w v n l) (hb : Below w.heap.size w w') : RowI B w' v n l := own_kept h fun k e => hb.block k (World.ownsRow.lt h k e).2
theorem RowI.form {B : Nat} {w : World} {v : Value} {n : Nat} {l : List Int} (h : RowI B w v n l) : ∃ ao cap, v = .slice ao n cap ∧ (ao = none → n = 0 ∧ cap = 0) := by
  rcases h.2 with ⟨rfl, h0⟩ | ⟨g, cap, cur, rfl, _, _, h1, h2, _⟩
  · exact ⟨none, 0, by rw [h0], fun _ => ⟨h0, rfl⟩⟩
  · exact ⟨_, _, rfl, (fun e => by cases e)⟩
theorem RowI.blk {B : Nat} {w : World} {v : Value} {n : Nat} {l : List Int} (h : RowI B w v n l) : ∀ k, v.ownBlock = some k → B ≤ k := by
  intro k e
  rcases h.2 with ⟨rfl, h0⟩ | ⟨g, cap, cur, rfl, hb, _⟩
  · cases e
  · cases e; exact hb
theorem RowI.cell {B : Nat} {w : World} {ao : Option Addr} {n cap : Nat} {l : List Int} (h : RowI B w (.slice ao n cap) n l) (i : Nat) (hi : i < n) : ∃ g, ao = some ⟨g, 0, none⟩ ∧ w.cell? ⟨g, i, none⟩ = some (.int .i64 (l.getD i 0)) := by
  have hlen : l.length = n := by have := h.1; simpa using this
  rcases h.2 with ⟨e, h0⟩ | ⟨g, cap, cur, e, _, hc, _, _, _, h3⟩
  · omega
  · cases e
    refine ⟨g, rfl, ?_⟩
    rw [cell_of_head hc]
    have : cur.toList[i]? = some (.int .i64 (l.getD i 0)) := by
      have h4 : (cur.toList.take (n * 1))[i]? = (i8 l)[i]? := by rw [h3]
      rw [List.getElem?_take, if_pos (by omega)] at h4
      rw [h4]; simp [hlen, hi]
    simpa using this
/-- Bytes and numbers lie in blocks of their own. -/
theorem own_apart {B B' : Nat} {w : World} {v u : Value} {n m : Nat} {l l' : List Int} (h : Row B w v n l) (h' : RowI B' w u m l') (k : Nat) (e : v.ownBlock = some k) : ¬ u.ownBlock = some k := by
  intro e'
  rcases h.2 with ⟨rfl, h0⟩ | ⟨g, cap, cur, rfl, _, hc, _⟩
  · cases e
  · cases e
    rcases h'.2 with ⟨rfl, h0⟩ | ⟨g', cap', cur', rfl, _, hc', _⟩
    · cases e'
    · cases e'
      rw [hc] at hc'; cases hc'
theorem RowI.turned {B B' : Nat} {w w' : World} {v u : Value} {n m : Nat} {l l' : List Int} (h : RowI B w u m l') (hr : Row B' w v n l) (ht : Turned (fun k => v.ownBlock = some k) w w') : RowI B w' u m l' :=
  own_kept h fun k e => ht.block k (World.ownsRow.lt h k e).2 (fun e' => own_apart hr h k e' e)
theorem Row.turned {B B' : Nat} {w w' : World} {v u : Value} {n m : Nat} {l l' : List Int} (h : Row B w u m l') (hr : RowI B' w v n l) (ht : Turned (fun k => v.ownBlock = some k) w w') : Row B w' u m l' :=
  own_kept h fun k e => ht.block k (World.ownsRow.lt h k e).2 (fun e' => own_apart h hr k e e')
end Go.Proofs.Ythhgnflkplpklab.Frm
