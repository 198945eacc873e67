/- What is put is read as the same. No function is walked. -/
import Derived.Test.YtbipikbefokihaaDoorRd
namespace Go.Proofs.YtbipikbefokihaaDoor
open Go.ChangeShapes Go.WideShapes Go.ChangeAt Go.RowKit

theorem str_size (l : List Int) : (strOfNums l).size = l.length := by simp [strOfNums, ByteArray.size]
/-- A number's decimals: digits alone, no nought ahead, and they are its number. -/
theorem decS_facts (n : Nat) : ∀ (v : Int), 0 ≤ v → v ≤ 2147483647 → v.toNat ≤ n → digB (decS v).data.toList = true ∧ numD (decS v).data.toList = v ∧ 1 ≤ (decS v).size ∧ (1 ≤ v → ¬ (decS v).data.toList.getD 0 0 = 48) := by
  induction n using Nat.strongRecOn with
  | _ n ih =>
    intro v h0 h1 hn
    by_cases h : v < 10
    · rw [decS_small h0 h]
      have hv : v = 0 ∨ v = 1 ∨ v = 2 ∨ v = 3 ∨ v = 4 ∨ v = 5 ∨ v = 6 ∨ v = 7 ∨ v = 8 ∨ v = 9 := by omega
      rcases hv with rfl | rfl | rfl | rfl | rfl | rfl | rfl | rfl | rfl | rfl <;> decide
    · obtain ⟨a, b, c, d⟩ := ih (v / 10).toNat (by omega) (v / 10) (by omega) (by omega) (Nat.le_refl _)
      have hz : 0 ≤ v % 10 ∧ v % 10 < 10 := by omega
      have hd1 := d (by omega)
      rw [decS_more (by omega)]
      generalize decS (v / 10) = t at *
      obtain ⟨z, hzz⟩ : ∃ z, v % 10 = z := ⟨_, rfl⟩
      rw [hzz] at hz ⊢
      obtain ⟨u, hu, hu0, hu1⟩ : ∃ u : UInt8, (strOfNums [48 + z]).data.toList = [u] ∧ (u.toNat : Int) = 48 + z ∧ True := by
        refine ⟨UInt8.ofNat (48 + z).toNat, by simp [strOfNums], ?_, trivial⟩
        rw [UInt8.toNat_ofNat']; omega
      have e : (t ++ strOfNums [48 + z]).data.toList = t.data.toList ++ [u] := by simp [hu]
      have es : (t ++ strOfNums [48 + z]).size = t.size + 1 := by rw [size_app, str_size]; rfl
      rw [e]
      refine ⟨?_, ?_, ?_, fun _ => ?_⟩
      · rw [dig_snoc, a, decide_eq_true (by omega)]; rfl
      · rw [numD_snoc, b, hu0]; omega
      · rw [es]; omega
      · have hl : 0 < t.data.toList.length := by have : t.data.toList.length = t.size := by simp
                                                 omega
        have : (t.data.toList ++ [u]).getD 0 0 = t.data.toList.getD 0 0 := by
          match t.data.toList, hl with
          | x :: r, _ => rfl
        rw [this]; exact hd1
theorem dec_num {v hi : Int} (h : inB hi v = true) (hh : hi ≤ 2147483647) : numB hi (decS v) = true ∧ numV (decS v) = v := by
  have h : 0 ≤ v ∧ v ≤ hi := by simpa [inB] using h
  obtain ⟨a, b, c, d⟩ := decS_facts v.toNat v h.1 (by omega) (Nat.le_refl _)
  have hs : (decS v).size ≤ 18 := by
    by_cases h18 : (decS v).size ≤ 18
    · exact h18
    exfalso
    have h21 := decS_len v (by omega) (by omega)
    by_cases h1 : 1 ≤ v
    · obtain ⟨n, hn⟩ : ∃ n, (decS v).size = n + 11 := ⟨(decS v).size - 11, by omega⟩
      have := num_ge (n + 10) (decS v).data.toList (by have : (decS v).data.toList.length = (decS v).size := by simp
                                                       omega) a (d h1)
      have hp : (10000000000 : Int) ≤ 10 ^ (n + 10) := by
        rw [show (10000000000 : Int) = 10 ^ 10 from rfl]
        have := Nat.pow_le_pow_right (n := 10) (by decide) (show 10 ≤ n + 10 by omega)
        exact_mod_cast this
      omega
    · have : v = 0 := by omega
      subst this
      exact h18 (by rw [decS_small (by omega) (by omega)]; decide)
  have hok := numOk_yes c hs a
  have hv : numV (decS v) = v := by rw [hok.2, b]
  refine ⟨?_, hv⟩
  unfold numB
  rw [hok.1, hv, decide_eq_true h.2]
  have : leadB (decS v) = false := by
    unfold leadB
    by_cases h1 : 1 ≤ v
    · rw [decide_eq_false (d h1)]; simp
    · have : v = 0 := by omega
      subst this
      rw [decS_small (by omega) (by omega)]; decide
  rw [this]; rfl
theorem nums_len {m : Ms} {f : Int} (hf : f ∈ tenF) (h2 : ¬ f = 2) : (numsF m f).length = cntF f := by
  rcases ten_cases hf with rfl | rfl | rfl | rfl | rfl | rfl | rfl | rfl | rfl | rfl <;> first | exact absurd rfl h2 | rfl
theorem put_len {m : Ms} {f : Int} (hf : f ∈ tenF) : (putF m f).length = cntF f := by
  unfold putF
  split
  · rename_i h; subst h; rfl
  · rename_i h; rw [List.length_map, nums_len hf h]
theorem put_rd {m : Ms} {f : Int} (hr : rightF m f = true) : rdF f (putF m f) = true := by
  unfold rdF putF
  by_cases h2 : f = 2
  · subst h2; simpa [rightF, at4] using hr
  · rw [if_neg h2, if_neg h2, List.all_map, List.all_eq_true]
    unfold rightF at hr
    rw [if_neg h2, List.all_eq_true] at hr
    exact fun v hv => (dec_num (hr v hv) (most_le f)).1
def fillF (m : Ms) (fs : List Int) (a : Ms) : Ms := fs.foldl (fun a f => setF a f (putF m f)) a
theorem rd_put (m : Ms) : ∀ (fs : List Int) (a : Ms), (∀ f ∈ fs, f ∈ tenF ∧ rightF m f = true) → rd rdF fs (fs.flatMap (putF m)) a = some (fillF m fs a) := by
  intro fs
  induction fs with
  | nil => intro a _; rfl
  | cons f fs ih =>
    intro a h
    obtain ⟨hf, hr⟩ := h f (by simp)
    have hl := put_len (m := m) hf
    rw [List.flatMap_cons, rd, if_neg (by rw [List.length_append, hl]; omega), List.take_left' hl, List.drop_left' hl, if_pos (put_rd hr)]
    exact ih _ (fun x hx => h x (by simp [hx]))
theorem map_back {m : Ms} {f : Int} (h2 : ¬ f = 2) (hr : rightF m f = true) : (putF m f).map numV = numsF m f := by
  unfold putF
  rw [if_neg h2, List.map_map]
  unfold rightF at hr
  rw [if_neg h2, List.all_eq_true] at hr
  have : ∀ v ∈ numsF m f, (numV ∘ decS) v = id v := fun v hv => (dec_num (hr v hv) (most_le f)).2
  rw [List.map_congr_left this, List.map_id]
theorem fill_kind (m : Ms) : ∀ (fs : List Int) (a : Ms), (∀ f ∈ fs, f ∈ tenF) → (fillF m fs a).kind = a.kind := by
  intro fs
  induction fs with
  | nil => intro a _; rfl
  | cons f fs ih => intro a h; exact (ih _ (fun x hx => h x (by simp [hx]))).trans (set_kind _ (h f (by simp)))
theorem fill_else (m : Ms) {x : Int} (hx : x ∈ tenF) : ∀ (fs : List Int) (a : Ms), (∀ f ∈ fs, f ∈ tenF) → ¬ x ∈ fs → numsF (fillF m fs a) x = numsF a x ∧ (x = 2 → (fillF m fs a).pan = a.pan) := by
  intro fs
  induction fs with
  | nil => intro a _ _; exact ⟨rfl, fun _ => rfl⟩
  | cons f fs ih =>
    intro a h hn
    have h1 := ih (setF a f (putF m f)) (fun y hy => h y (by simp [hy])) (fun e => hn (by simp [e]))
    have hne : ¬ x = f := fun e => hn (by simp [e])
    refine ⟨h1.1.trans (set_other _ hx (h f (by simp)) hne), fun e => (h1.2 e).trans (set_pan _ (h f (by simp)) (fun e' => hne (by rw [e, e'])))⟩
theorem fill_in (m : Ms) {x : Int} (hx : x ∈ tenF) : ∀ (fs : List Int) (a : Ms), (∀ f ∈ fs, f ∈ tenF ∧ rightF m f = true) → fs.Nodup → x ∈ fs → (¬ x = 2 → numsF (fillF m fs a) x = numsF m x) ∧ (x = 2 → (fillF m fs a).pan = m.pan) := by
  intro fs
  induction fs with
  | nil => intro a _ _ h; cases h
  | cons f fs ih =>
    intro a h hn hm
    have hn' := List.nodup_cons.1 hn
    by_cases e : x = f
    · subst e
      have h1 := fill_else m hx fs (setF a x (putF m x)) (fun y hy => (h y (by simp [hy])).1) hn'.1
      refine ⟨fun h2 => h1.1.trans ?_, fun h2 => (h1.2 h2).trans ?_⟩
      · rw [set_same hx h2 (put_len hx), map_back h2 (h x (by simp)).2]
      · subst h2; rfl
    · exact ih _ (fun y hy => h y (by simp [hy])) hn'.2 ((List.mem_cons.1 hm).resolve_left e)
theorem all_zero {l : List Int} (h : (l.all fun v => decide (v = 0)) = true) : l = List.replicate l.length 0 := by
  rw [List.all_eq_true] at h
  exact List.eq_replicate_iff.2 ⟨rfl, fun v hv => of_decide_eq_true (h v hv)⟩
theorem zero_eq {a b : Ms} {f : Int} (hf : f ∈ tenF) (h2 : ¬ f = 2) (ha : zeroF a f = true) (hb : zeroF b f = true) : numsF a f = numsF b f := by
  unfold zeroF at ha hb
  rw [if_neg h2] at ha hb
  rw [all_zero ha, all_zero hb, nums_len hf h2, nums_len hf h2]
theorem kind_code {k : Int} (h : okK k = true) : kindL (codeK k) = k := by
  rcases kind_cases h with rfl | rfl | rfl | rfl | rfl | rfl | rfl <;> decide
theorem readP_put {m : Ms} (h : rightL m = true) : readP (partsL m) = some m := by
  obtain ⟨h1, h2, h3⟩ := right_iff.1 h
  have e0 : at4 (partsL m) 0 = codeK m.kind := rfl
  have e1 : (partsL m).drop 1 = (hasK m.kind).flatMap (putF m) := rfl
  unfold readP
  rw [e0, e1, kind_code h1, if_pos h1, rd_put m _ _ (fun f hf => ⟨has_ten hf, h2 f hf⟩)]
  congr 1
  have hz : ∀ f ∈ tenF, ¬ f ∈ hasK m.kind → (¬ f = 2 → numsF (Ms.of m.kind) f = numsF m f) := fun f hf hn h20 => zero_eq hf h20 (zero_of _ f hf) (h3 f hf hn)
  have hpan : ¬ (2 : Int) ∈ hasK m.kind → m.pan = ⟨#[]⟩ := fun hn => by have := h3 2 (by decide) hn; simpa [zeroF] using this
  apply Ms.ext'
  · exact fill_kind m _ _ (fun f hf => has_ten hf)
  · by_cases hn : (2 : Int) ∈ hasK m.kind
    · exact (fill_in m (x := 2) (by decide) _ _ (fun f hf => ⟨has_ten hf, h2 f hf⟩) (has_nodup _) hn).2 rfl
    · rw [(fill_else m (x := 2) (by decide) _ _ (fun f hf => has_ten hf) hn).2 rfl, hpan hn]; rfl
  · intro f hf
    by_cases h20 : f = 2
    · subst h20; rfl
    · by_cases hn : f ∈ hasK m.kind
      · exact (fill_in m hf _ _ (fun f hf => ⟨has_ten hf, h2 f hf⟩) (has_nodup _) hn).1 h20
      · rw [(fill_else m hf _ _ (fun f hf => has_ten hf) hn).1]; exact hz f hf hn h20
/-! The parts have no separator. -/
theorem dig_nosep {s : ByteArray} (h : digB s.data.toList = true) : spB (panL s) = false := by
  unfold spB panL
  rw [List.any_eq_false]
  intro x hx
  simp only [List.mem_map] at hx
  obtain ⟨b, hb, rfl⟩ := hx
  unfold digB at h
  have := List.all_eq_true.1 h b hb
  have : 48 ≤ (b.toNat : Int) ∧ (b.toNat : Int) ≤ 57 := by simpa using this
  simp; omega
theorem code_dig {k : Int} (h : okK k = true) : digB (codeK k).data.toList = true := by
  rcases kind_cases h with rfl | rfl | rfl | rfl | rfl | rfl | rfl <;> decide
theorem put_dig {m : Ms} {f : Int} (hr : rightF m f = true) : ∀ s ∈ putF m f, digB s.data.toList = true ∧ s.size ≤ 21 := by
  intro s hs
  unfold putF at hs
  unfold rightF at hr
  by_cases h2 : f = 2
  · rw [if_pos h2] at hs hr
    have : s = m.pan := by simpa using hs
    subst this
    simp [panB] at hr
    exact ⟨hr.2.2, by omega⟩
  · rw [if_neg h2] at hs hr
    obtain ⟨v, hv, rfl⟩ := List.mem_map.1 hs
    have := List.all_eq_true.1 hr v hv
    have hb : 0 ≤ v ∧ v ≤ mostF f := by simpa [inB] using this
    have := most_le f
    exact ⟨(decS_facts v.toNat v hb.1 (by omega) (Nat.le_refl _)).1, decS_len v (by omega) (by omega)⟩
theorem parts_dig {m : Ms} (h : rightL m = true) : ∀ s ∈ partsL m, digB s.data.toList = true ∧ s.size ≤ 21 := by
  obtain ⟨h1, h2, _⟩ := right_iff.1 h
  intro s hs
  rcases List.mem_cons.1 hs with rfl | hs
  · refine ⟨code_dig h1, ?_⟩
    rcases kind_cases h1 with e | e | e | e | e | e | e <;> rw [e] <;> decide
  · obtain ⟨f, hf, hs⟩ := List.mem_flatMap.1 hs
    exact put_dig (h2 f hf) s hs
theorem parts_ok {m : Ms} (h : rightL m = true) : jOk (pans (partsL m)) = true := by
  refine jOk_yes (by simp [partsL]) ?_
  unfold noSep
  rw [List.all_eq_true]
  intro p hp
  obtain ⟨s, hs, rfl⟩ := List.mem_map.1 hp
  rw [dig_nosep (parts_dig h s hs).1]; rfl
theorem read_back {m : Ms} (h : rightL m = true) : readL (putL m) = some m := by
  unfold readL putL
  rw [if_pos h, spl_jX (parts_ok h), txts_pans]
  exact readP_put h
theorem put_inj {a b : Ms} (ha : rightL a = true) (hb : rightL b = true) (h : putL a = putL b) : a = b := by
  have h1 := read_back ha
  rw [h, read_back hb] at h1
  exact (Option.some.inj h1).symm
theorem flat_len (m : Ms) : ∀ (fs : List Int), (∀ f ∈ fs, f ∈ tenF) → (fs.flatMap (putF m)).length ≤ 4 * fs.length := by
  intro fs
  induction fs with
  | nil => intro _; simp
  | cons f fs ih =>
    intro h
    have h1 := ih (fun x hx => h x (by simp [hx]))
    have h2 : (putF m f).length ≤ 4 := by rw [put_len (h f (by simp))]; unfold cntF; split <;> omega
    rw [List.flatMap_cons, List.length_append, List.length_cons]
    omega
theorem putL_byt (m : Ms) : Byt (putL m) := by
  unfold putL
  split
  · exact jX_byt _
  · intro x hx; cases hx
theorem has_len (k : Int) : (hasK k).length ≤ 8 := by
  cases h : okK k
  · rw [has_none h]; simp
  · rcases kind_cases h with rfl | rfl | rfl | rfl | rfl | rfl | rfl <;> decide
theorem putL_len (m : Ms) : (putL m).length ≤ 2000 := by
  unfold putL
  split
  · rename_i h
    have h1 := parts_dig h
    have h2 : (partsL m).length ≤ 33 := by
      have := flat_len m (hasK m.kind) (fun f hf => has_ten hf)
      have := has_len m.kind
      unfold partsL; rw [List.length_cons]; omega
    unfold jX
    rw [if_pos (parts_ok h)]
    have := jn_len (m := 21) (pans (partsL m)) (fun p hp => by
      obtain ⟨s, hs, rfl⟩ := List.mem_map.1 hp
      rw [panL_len]; exact (h1 s hs).2)
    rw [List.length_map] at this
    omega
  · simp
end Go.Proofs.YtbipikbefokihaaDoor
