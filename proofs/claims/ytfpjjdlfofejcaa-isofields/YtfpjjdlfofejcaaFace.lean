/- What comes in: a slice of numbers' parts, a message. -/
import Derived.Test.YtfpjjdlfofejcaaMade
import Derived.Deep.Slices
namespace Go.Proofs.Ytfpjjdlfofejcaa
set_option maxRecDepth 20000
open Go.ChangeShapes Go.WideShapes Go.ChangeAt Go.RowKit

theorem cells58 : Try.prog.cellsOf 58 = 4 := by kernel_rfl
theorem cells51 : Try.prog.cellsOf 51 = 2 := by kernel_rfl
theorem cells24 : Try.prog.cellsOf 24 = 2 := by kernel_rfl
theorem cells3 : Try.prog.cellsOf 3 = 1 := by kernel_rfl
theorem cells5 : Try.prog.cellsOf 5 = 1 := by kernel_rfl
theorem cells9 : Try.prog.cellsOf 9 = 1 := by kernel_rfl
theorem cells22 : Try.prog.cellsOf 22 = 1 := by kernel_rfl
theorem cells26 : Try.prog.cellsOf 26 = 1 := by kernel_rfl
theorem cells56 : Try.prog.cellsOf 56 = 1 := by kernel_rfl
theorem list2 {α : Type} {cs : List α} (h : cs.length = 2) : ∃ c0 c1, cs = [c0, c1] := by
  match cs, h with
  | [c0, c1], _ => exact ⟨c0, c1, rfl⟩
theorem list4 {α : Type} {cs : List α} (h : cs.length = 4) : ∃ c0 c1 c2 c3, cs = [c0, c1, c2, c3] := by
  match cs, h with
  | [c0, c1, c2, c3], _ => exact ⟨c0, c1, c2, c3, rfl⟩
section
variable {H : Type} {enc : TypeId × Value → H} {W : World} {n : Nat} {v : Value} {d : DataW H} {p : List MemPlace}
theorem some_of {xs : List (DataW H × List MemPlace)} {i : Nat} (h : i < xs.length) {o : Option (DataW H × List MemPlace)} (e : o = xs[i]?) : ∃ y, o = some y := ⟨xs[i], by rw [e, List.getElem?_eq_getElem h]⟩
theorem int_at {t : TypeId} {k : IntKind} {c : Value} (ht : Try.prog.underlying t = some (.int k)) (h : ∃ y, DataW.trod enc Try.prog W 0 (fun _ => true) true n t [c] = some y) : ∃ z, c = .int k z ∧ (Lit.int k z).wf = true := by
  obtain ⟨y, hy⟩ := h
  obtain ⟨z, e, _, hw⟩ := DataW.trod_int ht hy
  simp at e
  exact ⟨z, e, hw⟩
theorem text_at {c : Value} (h : ∃ y, DataW.trod enc Try.prog W 0 (fun _ => true) true n 9 [c] = some y) : ∃ s, c = .string s ∧ s.size ≤ 9223372036854775807 := by
  obtain ⟨y, hy⟩ := h
  obtain ⟨s, e, _, hs⟩ := DataW.trod_string Try.underlying9 hy
  simp at e
  exact ⟨s, e, by unfold maxLen at hs; omega⟩
theorem open_fd {cs : List Value} (h : DataW.trod enc Try.prog W 0 (fun _ => true) true n 51 cs = some (d, p)) : ∃ r : Fd, cs = r.cells ∧ r.ok := by
  obtain ⟨xs, m, _, _, hl, hx, hf⟩ := DataW.trod_struct Try.underlying51 h
  rw [cells51] at hl
  obtain ⟨c0, c1, rfl⟩ := list2 hl
  simp at hx
  obtain ⟨z, rfl, wz⟩ := int_at (c := c0) Try.underlying3 (some_of (xs := xs) (i := 0) (by omega) (by have g : DataW.trod enc Try.prog W 0 (fun _ => true) true m 3 (List.take (Try.prog.cellsOf 3) (List.drop 0 _)) = xs[0]? := hf 0 _ rfl; rw [cells3] at g; exact g))
  obtain ⟨s, rfl, hs⟩ := text_at (c := c1) (some_of (xs := xs) (i := 1) (by omega) (by have g : DataW.trod enc Try.prog W 0 (fun _ => true) true m 9 (List.take (Try.prog.cellsOf 9) (List.drop 1 _)) = xs[1]? := hf 1 _ rfl; rw [cells9] at g; exact g))
  have := bounds_i64 wz
  exact ⟨⟨z, s⟩, rfl, by show -9223372036854775808 ≤ z; omega, by show z ≤ _; omega, hs⟩
theorem open_fds (h : DataW.trod enc Try.prog W 0 (fun _ => true) true n 22 [v] = some (d, p)) : ∃ a len cap l, v = .slice a len cap ∧ FG W a len cap l := by
  rcases Deep.open_slice Try.underlying22 h with ⟨hcs, _⟩ | ⟨x, len, cap, m, n', D, Pl, hcs, _, hl, hcap, hm, _, hel⟩
  · simp at hcs; subst hcs
    exact ⟨none, 0, 0, [], rfl, FG.none W⟩
  · simp at hcs; subst hcs
    have hmc : m = cap := by simpa using hm
    rw [cells51] at hel
    have key : ∀ i, ∃ y : Fd, i < len → W.cells? 0 (x.add (i * 2)) 2 = some y.cells ∧ y.ok := by
      intro i
      by_cases hi : i < len
      · obtain ⟨cs', h1, h2⟩ := hel i (by omega)
        obtain ⟨y, rfl, hy⟩ := open_fd h2
        exact ⟨y, fun _ => ⟨h1, hy⟩⟩
      · exact ⟨⟨0, ⟨#[]⟩⟩, fun h => absurd h hi⟩
    obtain ⟨f, hf⟩ := Classical.axiomOfChoice key
    refine ⟨some x, len, cap, (List.range len).map f, rfl, by simp, fun y hy => ?_, ?_, hl, by unfold maxLen at hcap; omega, fun e => by cases e⟩
    · obtain ⟨i, hi, rfl⟩ := List.mem_map.1 hy
      exact (hf i (by simpa using hi)).2
    · by_cases h0 : len = 0
      · subst h0; exact .inl (by simp)
      · obtain ⟨b, off, spot⟩ := x
        have hc := (hf 0 (by omega)).1
        obtain ⟨_, _, hs⟩ := World.cells?_some hc
        have h00 := hs 0 (by decide)
        have hspot : spot = none := by
          have e : (f 0).cells[0]? = some (.int .i64 (f 0).N) := rfl
          rw [e] at h00
          simpa [Addr.add] using World.cell?_spot h00
        subst hspot
        refine .inr ⟨b, off, rfl, fun j u hu => ?_⟩
        have hj : j < len * 2 := by
          have := (List.getElem?_eq_some_iff.1 hu).1
          rw [flF_len] at this
          simpa using this
        obtain ⟨i, r, hir, hr⟩ : ∃ i r, j = i * 2 + r ∧ r < 2 := ⟨j / 2, j % 2, by omega, by omega⟩
        subst hir
        have hi : i < len := by omega
        have hli : ((List.range len).map f)[i]? = some (f i) := by rw [List.getElem?_map, List.getElem?_range hi]; rfl
        unfold flF at hu
        rw [flat_get Fd.cells _ (fun r _ => r.len) i (f i) hli r hr] at hu
        obtain ⟨_, _, hs⟩ := World.cells?_some (hf i hi).1
        have := hs r hr
        rw [Addr.add_mid, Addr.add_mid] at this
        rw [← Nat.add_assoc, this]; exact hu
/-- A slice of numbers' parts that came in. -/
def InN (W : World) (a : Option Addr) (len _cap : Nat) (_l : List Int) : Prop := InC W a len ∧ len ≤ 9223372036854775807
theorem open_in {cs : List Value} (h : DataW.trod enc Try.prog W 0 (fun _ => true) true n 58 cs = some (d, p)) : ∃ (N K G : Int) (V : ByteArray), cs = [.int .u8 N, .int .u64 K, .int .u16 G, .string V] ∧ (0 ≤ N ∧ N < 256) ∧ (0 ≤ K ∧ K < 18446744073709551616) ∧ (0 ≤ G ∧ G < 65536) ∧ V.size ≤ 9223372036854775807 := by
  obtain ⟨xs, m, _, _, hl, hx, hf⟩ := DataW.trod_struct Try.underlying58 h
  rw [cells58] at hl
  obtain ⟨c0, c1, c2, c3, rfl⟩ := list4 hl
  simp at hx
  obtain ⟨N, rfl, w0⟩ := int_at (c := c0) Try.underlying5 (some_of (xs := xs) (i := 0) (by omega) (by have g : DataW.trod enc Try.prog W 0 (fun _ => true) true m 5 (List.take (Try.prog.cellsOf 5) (List.drop 0 _)) = xs[0]? := hf 0 _ rfl; rw [cells5] at g; exact g))
  obtain ⟨K, rfl, w1⟩ := int_at (c := c1) Try.underlying26 (some_of (xs := xs) (i := 1) (by omega) (by have g : DataW.trod enc Try.prog W 0 (fun _ => true) true m 26 (List.take (Try.prog.cellsOf 26) (List.drop 1 _)) = xs[1]? := hf 1 _ rfl; rw [cells26] at g; exact g))
  obtain ⟨G, rfl, w2⟩ := int_at (c := c2) Try.underlying56 (some_of (xs := xs) (i := 2) (by omega) (by have g : DataW.trod enc Try.prog W 0 (fun _ => true) true m 56 (List.take (Try.prog.cellsOf 56) (List.drop 2 _)) = xs[2]? := hf 2 _ rfl; rw [cells56] at g; exact g))
  obtain ⟨V, rfl, hs⟩ := text_at (c := c3) (some_of (xs := xs) (i := 3) (by omega) (by have g : DataW.trod enc Try.prog W 0 (fun _ => true) true m 9 (List.take (Try.prog.cellsOf 9) (List.drop 3 _)) = xs[3]? := hf 3 _ rfl; rw [cells9] at g; exact g))
  have b0 := bounds_u8 w0
  have b1 := bounds_u64 w1
  have b2 := bounds_u16 w2
  exact ⟨N, K, G, V, rfl, by omega, by omega, by omega, hs⟩
theorem open_inN (h : DataW.trod enc Try.prog W 0 (fun _ => true) true n 25 [v] = some (d, p)) : ∃ a len cap l, v = .slice a len cap ∧ InN W a len cap l := by
  rcases Deep.open_slice Try.underlying25 h with ⟨hcs, _⟩ | ⟨x, len, cap, m, n', D, Pl, hcs, _, hl, hcap, hm, _, hel⟩
  · simp at hcs; subst hcs
    exact ⟨none, 0, 0, [], rfl, fun i hi => by omega, by omega⟩
  · simp at hcs; subst hcs
    have hmc : m = cap := by simpa using hm
    rw [cells58] at hel
    by_cases h00 : len = 0
    · subst h00
      exact ⟨some x, 0, cap, [], rfl, fun i hi => by omega, by omega⟩
    obtain ⟨b, off, spot⟩ := x
    have hspot : spot = none := by
      obtain ⟨cs', h1, h2⟩ := hel 0 (by omega)
      obtain ⟨N, K, G, V, rfl, _⟩ := open_in h2
      obtain ⟨_, _, hs⟩ := World.cells?_some h1
      have h0 := hs 0 (by decide)
      have e : ([Value.int .u8 N, .int .u64 K, .int .u16 G, .string V] : List Value)[0]? = some (.int .u8 N) := rfl
      rw [e] at h0
      simpa [Addr.add] using World.cell?_spot h0
    subst hspot
    refine ⟨some ⟨b, off, none⟩, len, cap, [], rfl, fun i hi => ?_, by unfold maxLen at hcap; omega⟩
    obtain ⟨cs', h1, h2⟩ := hel i (by omega)
    obtain ⟨N, K, G, V, rfl, b0, b1, b2, b3⟩ := open_in h2
    obtain ⟨_, _, hs⟩ := World.cells?_some h1
    have g : ∀ r, r < 4 → W.cell? ⟨b, off + i * 4 + r, none⟩ = ([Value.int .u8 N, .int .u64 K, .int .u16 G, .string V] : List Value)[r]? := by
      intro r hr
      have := hs r hr
      rw [Addr.add_mid, Addr.add_mid] at this
      exact this
    exact ⟨N, K, G, V, b, off, b0, b1, b2, b3, rfl, g 0 (by decide), g 1 (by decide), g 2 (by decide), g 3 (by decide)⟩
end
theorem open_iso {H : Type} {enc : TypeId × Value → H} {W : World} {base : Nat} {v : Value} {d : DataW H} {ps : List MemPlace} (hval : Value.okWide Try.prog W .any base 24 v) (hd : DataW.Trod enc Try.prog W 0 (fun _ => true) true 24 v d ps) :
    ∃ m ao len cap l, v = .agg #[.int .i64 m, .slice ao len cap] ∧ (-9223372036854775808 ≤ m ∧ m ≤ 9223372036854775807) ∧ FG W ao len cap l := by
  obtain ⟨cs, rfl, hsz⟩ := okWide_struct Try.underlying24 hval
  obtain ⟨fuel, hf⟩ := hd
  rw [cells24] at hsz
  obtain ⟨c0, c1, hcs⟩ := list2 (cs := cs.toList) (by simpa using hsz)
  have ecs : cs = #[c0, c1] := by
    apply Array.toList_inj.1; rw [hcs]
  subst ecs
  have hf' : DataW.trod enc Try.prog W 0 (fun _ => true) true fuel 24 [c0, c1] = some (d, ps) := hf
  clear hf hval hsz hcs
  obtain ⟨xs, m, _, _, _, hl, hg⟩ := DataW.trod_struct Try.underlying24 hf'
  simp at hl
  obtain ⟨z, rfl, wz⟩ := int_at (c := c0) Try.underlying3 (some_of (xs := xs) (i := 0) (by omega) (by have g : DataW.trod enc Try.prog W 0 (fun _ => true) true m 3 (List.take (Try.prog.cellsOf 3) (List.drop 0 _)) = xs[0]? := hg 0 _ rfl; rw [cells3] at g; exact g))
  obtain ⟨y, hy⟩ := some_of (xs := xs) (i := 1) (by omega) (show DataW.trod enc Try.prog W 0 (fun _ => true) true m 22 [c1] = xs[1]? by have g : DataW.trod enc Try.prog W 0 (fun _ => true) true m 22 (List.take (Try.prog.cellsOf 22) (List.drop 1 _)) = xs[1]? := hg 1 _ rfl; rw [cells22] at g; exact g)
  obtain ⟨a, len, cap, l, rfl, hfg⟩ := open_fds (d := y.1) (p := y.2) hy
  have := bounds_i64 wz
  exact ⟨z, a, len, cap, l, rfl, by omega, hfg⟩
end Go.Proofs.Ytfpjjdlfofejcaa
