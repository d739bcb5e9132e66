/- A table that came in, with its sizes. -/
import Derived.Test.YtdngileimmgdnaaDoorG21
namespace Go.Proofs.YtdngileimmgdnaaDoor
open Go.ChangeShapes Go.WideShapes Go.ChangeAt Go.RowKit Go.Deep

theorem bulk_in {H : Type} {l : List Nat} (D : Nat → DataW H) {i : Nat} (h : i ∈ l) : Rows.uptoBulk (D i) ≤ Rows.uptoBulkAll (l.map D) := by
  induction l with
  | nil => simp at h
  | cons x r ih =>
    simp only [List.map_cons, Rows.uptoBulkAll]
    rcases List.mem_cons.1 h with e | e
    · subst e; omega
    · have := ih e; omega
section
variable {H : Type} {enc : TypeId × Value → H} {W : World}
/-- what is read of a slice of one-cell things -/
theorem open_listb {t e : TypeId} {fuel : Nat} {v : Value} {x : DataW H × List MemPlace} (ht : Tryd.prog.underlying t = some (.slice e)) (hc : Tryd.prog.cellsOf e = 1) (h : DataW.trod enc Tryd.prog W 0 (fun _ => true) true fuel t [v] = some x) :
    ∃ xs : List Value, LAt W v xs ∧ (∀ u ∈ xs, ∃ n y, DataW.trod enc Tryd.prog W 0 (fun _ => true) true n e [u] = some y ∧ Rows.uptoBulk y.1 ≤ Rows.uptoBulk x.1) ∧ xs.length ≤ Rows.uptoBulk x.1 := by
  rcases open_slice1 ht hc h with ⟨hcs, hx⟩ | ⟨a, len, cap, m, n, V, D, Pl, hcs, _, hl, hm, hmm, hx, hrow⟩
  · simp only [List.cons.injEq, and_true] at hcs
    subst hcs
    exact ⟨[], lat_nil W, fun u hu => by simp at hu, by simp⟩
  · simp only [List.cons.injEq, and_true] at hcs
    have hmc : m = cap := by simpa using hmm
    refine ⟨(List.range len).map V, ⟨some a, cap, by rw [hcs]; simp, by simpa using hl, by unfold maxLen at hm; omega, ?_⟩, fun u hu => ?_, ?_⟩
    · by_cases h0 : 0 < len
      · obtain ⟨bb, off, spot⟩ := a
        have hspot : spot = none := by
          have h1 := (hrow 0 (by omega)).1
          simpa [Addr.add] using World.cell?_spot h1
        subst hspot
        refine .inr ⟨bb, off, rfl, fun k v hv => ?_⟩
        have hk : k < len := by
          have := (List.getElem?_eq_some_iff.1 hv).1
          simpa using this
        simp [hk] at hv
        subst hv
        have := (hrow k (by omega)).1
        rw [Go.WideShapes.add_plain] at this
        exact this
      · exact .inl (by have : len = 0 := by omega
                       simp [this])
    · obtain ⟨i, hi, rfl⟩ := List.mem_map.1 hu
      have hb : Rows.uptoBulk x.1 = Rows.uptoBulkAll ((List.range len).map D) + Rows.uptoBulkAll ((List.range (m - len)).map fun j => D (len + j)) + 1 := by rw [hx]; simp only [Rows.uptoBulk]
      have hbi := bulk_in (l := List.range len) D hi
      exact ⟨n, _, (hrow i (by have : i < len := by simpa using hi
                               omega)).2, by rw [hb]; show Rows.uptoBulk (D i) ≤ _; omega⟩
    · have hb : Rows.uptoBulk x.1 = Rows.uptoBulkAll ((List.range len).map D) + Rows.uptoBulkAll ((List.range (m - len)).map fun j => D (len + j)) + 1 := by rw [hx]; simp only [Rows.uptoBulk]
      have hbl := bulk_len (List.range len) D
      rw [List.length_range] at hbl
      rw [List.length_map, List.length_range]
      omega
theorem open_intsb {fuel : Nat} {v : Value} {x : DataW H × List MemPlace} (h : DataW.trod enc Tryd.prog W 0 (fun _ => true) true fuel 41 [v] = some x) : ∃ r : List Int, LAt W v (ints r) ∧ r.length ≤ Rows.uptoBulk x.1 := by
  obtain ⟨xs, hl, hx, hbk⟩ := open_listb Tryd.underlying41 cells3 h
  refine ⟨xs.map intOf, ?_, by rw [List.length_map]; exact hbk⟩
  have e : ints (xs.map intOf) = xs := by
    unfold ints
    rw [List.map_map]
    refine (List.map_congr_left (fun u hu => ?_)).trans (List.map_id xs)
    obtain ⟨n, y, hy, -⟩ := hx u hu
    obtain ⟨k, e0, _, _⟩ := DataW.trod_int Tryd.underlying3 hy
    simp only [List.cons.injEq, and_true] at e0
    subst e0
    rfl
  rw [e]
  exact hl
theorem open_wordsb {fuel : Nat} {v : Value} {x : DataW H × List MemPlace} (h : DataW.trod enc Tryd.prog W 0 (fun _ => true) true fuel 24 [v] = some x) : ∃ r : List Nat, LAt W v (u32s r) ∧ (∀ z ∈ r, z < 4294967296) ∧ r.length ≤ Rows.uptoBulk x.1 := by
  obtain ⟨xs, hl, hx, hbk⟩ := open_listb Tryd.underlying24 cellsWord h
  have hx' : ∀ u ∈ xs, ∃ k : Int, u = .int .u32 k ∧ 0 ≤ k ∧ k < 4294967296 := fun u hu => by
    obtain ⟨n, y, hy, -⟩ := hx u hu
    obtain ⟨k, e0, _, w0⟩ := DataW.trod_int Tryd.underlying27 hy
    simp only [List.cons.injEq, and_true] at e0
    exact ⟨k, e0, bounds_w w0⟩
  refine ⟨xs.map (fun u => (intOf u).toNat), ?_, fun z hz => ?_, by rw [List.length_map]; exact hbk⟩
  · have e : u32s (xs.map (fun u => (intOf u).toNat)) = xs := by
      unfold u32s
      rw [List.map_map]
      refine (List.map_congr_left (fun u hu => ?_)).trans (List.map_id xs)
      obtain ⟨k, rfl, h1, h2⟩ := hx' u hu
      show Value.int .u32 (((k.toNat : Nat) : Int)) = .int .u32 k
      rw [Int.toNat_of_nonneg h1]
    rw [e]
    exact hl
  · obtain ⟨u, hu, rfl⟩ := List.mem_map.1 hz
    obtain ⟨k, rfl, h1, h2⟩ := hx' u hu
    show k.toNat < _
    omega
theorem trod_s4b {P : Program} {w : World} {base : Nat} {spare : Nat → Bool} {held : Bool} {t : TypeId} {f0 f1 f2 f3 : Field} {fuel : Nat} {cs : List Value} {x : DataW H × List MemPlace} (ht : P.underlying t = some (.struct #[f0, f1, f2, f3])) (h : DataW.trod enc P w base spare held fuel t cs = some x) :
    ∃ y0 y1 y2 y3 n, x.1 = .agg [y0.1, y1.1, y2.1, y3.1] ∧ cs.length = P.cellsOf t ∧ DataW.trod enc P w base spare held n f0.type ((cs.drop f0.offset).take (P.cellsOf f0.type)) = some y0 ∧
      DataW.trod enc P w base spare held n f1.type ((cs.drop f1.offset).take (P.cellsOf f1.type)) = some y1 ∧ DataW.trod enc P w base spare held n f2.type ((cs.drop f2.offset).take (P.cellsOf f2.type)) = some y2 ∧
      DataW.trod enc P w base spare held n f3.type ((cs.drop f3.offset).take (P.cellsOf f3.type)) = some y3 := by
  obtain ⟨xs, n, _, rfl, hl, hlen, hf⟩ := DataW.trod_struct ht h
  match xs, hlen with
  | [y0, y1, y2, y3], _ => exact ⟨y0, y1, y2, y3, n, by simp, hl, by simpa using hf 0 f0 rfl, by simpa using hf 1 f1 rfl, by simpa using hf 2 f2 rfl, by simpa using hf 3 f3 rfl⟩
/-- A TABLE THAT CAME IN. -/
theorem open_dfab {fuel : Nat} {cs : Array Value} {x : DataW H × List MemPlace} (h : DataW.trod enc Tryd.prog W 0 (fun _ => true) true fuel 26 cs.toList = some x) :
    ∃ (d : Dt) (V1 V2 V3 : Value) (Us : List Value), cs = dv d.cl V1 V2 V3 ∧ DfAt W d V1 V2 V3 Us ∧ R64 d.cl ∧ d.S ≤ Rows.uptoBulk x.1 ∧ (∀ s, (d.row s).length ≤ Rows.uptoBulk x.1) ∧ d.fo.length ≤ Rows.uptoBulk x.1 ∧ d.en.length ≤ Rows.uptoBulk x.1 := by
  obtain ⟨y0, y1, y2, y3, n, hxx, hlen, h0, h1, h2, h3⟩ := trod_s4b Tryd.underlying26 h
  rw [cellsDfa] at hlen
  have hsz : cs.size = 259 := by simpa using hlen
  have at_ : ∀ k, k < 259 → ∃ v, cs[k]? = some v ∧ cs.toList[k]? = some v := fun k hk => ⟨cs[k], by simp [hsz, hk], by simp [hsz, hk]⟩
  obtain ⟨V1, c1, l1⟩ := at_ 256 (by omega)
  obtain ⟨V2, c2, l2⟩ := at_ 257 (by omega)
  obtain ⟨V3, c3, l3⟩ := at_ 258 (by omega)
  simp only [cellsArr, cellsRows, cellsWords, List.drop_zero] at h0 h1 h2 h3
  rw [drop_one l1] at h1
  rw [drop_one l2] at h2
  rw [drop_one l3] at h3
  obtain ⟨Us, hU, hrow, hbU⟩ := open_listb Tryd.underlying23 cellsRow h1
  obtain ⟨fo, hfo, bfo, hbf⟩ := open_wordsb h2
  obtain ⟨en, hen, ben, hbe⟩ := open_wordsb h3
  obtain ⟨xs, m, _, _, _, hxl, hx⟩ := DataW.trod_array Tryd.underlying22 h0
  have hcl : ∀ i, i < 256 → ∃ z : Int, cs[i]? = some (.int .i64 z) ∧ -9223372036854775808 ≤ z ∧ z < 9223372036854775808 := fun i hi => by
    obtain ⟨v, hv, hl⟩ := at_ i (by omega)
    have hy := hx i hi
    rw [cells3, Nat.mul_one, List.drop_take, List.take_take, Nat.min_eq_left (by omega), drop_one hl, List.getElem?_eq_getElem (by omega)] at hy
    obtain ⟨k, e0, _, w0⟩ := DataW.trod_int Tryd.underlying3 hy
    simp only [List.cons.injEq, and_true] at e0
    subst e0
    exact ⟨k, hv, bounds_n w0⟩
  obtain ⟨f, hf⟩ := choose_lt (α := Int) (n := 256) (p := fun i z => cs[i]? = some (.int .i64 z) ∧ -9223372036854775808 ≤ z ∧ z < 9223372036854775808) hcl
  have hrr : ∀ u ∈ Us, ∃ r : List Int, LAt W u (ints r) ∧ r.length ≤ Rows.uptoBulk y1.1 := fun u hu => by
    obtain ⟨n, y, hy, hyb⟩ := hrow u hu
    obtain ⟨r, hr, hrb⟩ := open_intsb hy
    exact ⟨r, hr, by omega⟩
  obtain ⟨R, hR⟩ := choose_lt (α := List Int) (n := Us.length) (p := fun i r => (∀ u, Us[i]? = some u → LAt W u (ints r)) ∧ r.length ≤ Rows.uptoBulk y1.1) (fun i hi => by
    obtain ⟨r, hr, hrb⟩ := hrr Us[i] (List.getElem_mem hi)
    refine ⟨r, fun u hu => ?_, hrb⟩
    rw [List.getElem?_eq_getElem hi] at hu
    cases hu
    exact hr)
  have hbd : Rows.uptoBulk x.1 = Rows.uptoBulk y0.1 + (Rows.uptoBulk y1.1 + (Rows.uptoBulk y2.1 + (Rows.uptoBulk y3.1 + 0))) + 1 := by rw [hxx]; simp only [Rows.uptoBulk, Rows.uptoBulkAll]
  refine ⟨⟨f, (List.range Us.length).map R, fo, en⟩, V1, V2, V3, Us, ?_, ⟨hU, by simp [Dt.S], fun s U hs => ?_, hfo, hen, bfo, ben⟩, fun i hi => (hf i hi).2, by simp only [Dt.S, List.length_map, List.length_range]; omega, fun s => ?_, by simp only; omega, by simp only; omega⟩
  · apply Array.ext_getElem?
    intro k
    by_cases hk : k < 256
    · rw [(hf k hk).1, dv_lo _ _ _ _ hk]
    · obtain ⟨j, rfl⟩ : ∃ j, k = 256 + j := ⟨k - 256, by omega⟩
      rw [dv_hi]
      match j with
      | 0 => exact c1
      | 1 => exact c2
      | 2 => exact c3
      | j + 3 => rw [Array.getElem?_eq_none (by omega)]; simp
  · have hs' := (List.getElem?_eq_some_iff.1 hs).1
    have e : Dt.row ⟨f, (List.range Us.length).map R, fo, en⟩ s = R s := getD_range R _ _ hs'
    rw [e]
    exact (hR s hs').1 U hs
  · by_cases hs' : s < Us.length
    · have e : Dt.row ⟨f, (List.range Us.length).map R, fo, en⟩ s = R s := getD_range R _ _ hs'
      rw [e]
      have := (hR s hs').2
      omega
    · unfold Dt.row
      rw [List.getD_eq_getElem?_getD, List.getElem?_eq_none (by simpa using hs')]
      simp
end
end Go.Proofs.YtdngileimmgdnaaDoor
