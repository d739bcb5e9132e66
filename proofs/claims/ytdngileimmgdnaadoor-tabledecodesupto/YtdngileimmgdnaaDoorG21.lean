/- From the row's own conditions to what the walks ask: the table of the sums in memory, a text, bytes, a table that came in. -/
import Derived.Test.YtdngileimmgdnaaDoorG20
import Derived.Test.YtdngileimmgdnaaDoorCards
import Derived.Test.YtdngileimmgdnaaDoorTie
import Derived.ProofKit
import Derived.OpenShut
import Derived.ShutString
import Derived.ChangeOld
import Derived.SizedLaws
import Derived.JoinedCond
import Derived.Deep.DeepHandedRow
import Derived.Lib.LaidTab
import Derived.Laws.IdiomArrays
import Derived.Lib.SmallJoins
import Derived.Deep.Slices
namespace Go.Proofs.YtdngileimmgdnaaDoor
open Go.ChangeShapes Go.WideShapes Go.ChangeAt Go.RowKit Go.Deep

theorem own : ownKnob Tryd.prog.godebug = none := by kernel_rfl
theorem laidOut : laidOutB Tryd.prog = true := by kernel_rfl
theorem gTab : Tryd.prog.globalNamed "heron/crc.halves" = some 0 := by kernel_rfl
theorem gTabType : (Tryd.prog.globals[0]?).map (·.type) = some 86 := by kernel_rfl
theorem cellsTab : Tryd.prog.cellsOf 86 = 16 := by kernel_rfl
theorem cells5 : Tryd.prog.cellsOf 5 = 1 := by kernel_rfl
theorem cells3 : Tryd.prog.cellsOf 3 = 1 := by kernel_rfl
theorem cellsWord : Tryd.prog.cellsOf 27 = 1 := by kernel_rfl
theorem cellsRow : Tryd.prog.cellsOf 41 = 1 := by kernel_rfl
theorem cellsRows : Tryd.prog.cellsOf 23 = 1 := by kernel_rfl
theorem cellsWords : Tryd.prog.cellsOf 24 = 1 := by kernel_rfl
theorem cellsArr : Tryd.prog.cellsOf 22 = 256 := by kernel_rfl
theorem cellsDfa : Tryd.prog.cellsOf 26 = 259 := by kernel_rfl
theorem table {W : World} (h : laidMetH Tryd.prog [("heron/crc.halves", Rows.laid_heron_crc_halves)] W) :
    Lib.TabIs Tryd.prog W "heron/crc.halves" .u32 [0, 498536548, 997073096, 651767980, 1994146192, 1802195444, 1303535960, 1342533948, 3988292384, 4027552580, 3604390888, 3412177804, 2607071920, 2262029012, 2685067896, 3183342108] :=
  Lib.tabIs_of_head (rest := []) gTab gTabType Tryd.underlying86 Tryd.underlying27 cellsWord cellsTab h
theorem tab_of {W : World} (h : laidMetH Tryd.prog [("heron/crc.halves", Rows.laid_heron_crc_halves)] W) : Tab W := by
  intro i hi
  have h1 := (table h).cell gTab i hi
  rw [h1]
  have h2 : ∀ i, i < 16 → ([0, 498536548, 997073096, 651767980, 1994146192, 1802195444, 1303535960, 1342533948, 3988292384, 4027552580, 3604390888, 3412177804, 2607071920, 2262029012, 2685067896, 3183342108] : List Int).getD i 0 = ((Crc.tabL.getD i 0 : Nat) : Int) := by decide
  rw [h2 i hi]
theorem pos_of {W : World} (h : Tab W) : 0 < W.heap.size := by
  have := World.block_lt_of_cell? W _ (h 0 (by decide))
  omega
theorem open_text {H : Type} {enc : TypeId × Value → H} {W : World} {r : Reach} {b0 : Nat} {v : Value} {d : DataW H} {p : List MemPlace} (hval : Value.okWide Tryd.prog W r b0 9 v) (hd : DataW.Trod enc Tryd.prog W 0 (fun _ => true) true 9 v d p) : ∃ s : ByteArray, v = .string s ∧ p = [] ∧ d = .lit (.string s.data.toList) := by
  obtain ⟨s, rfl⟩ := okWide_string Tryd.underlying9 hval
  obtain ⟨fuel, hf⟩ := hd
  obtain ⟨s', h, hx, hs⟩ := DataW.trod_string Tryd.underlying9 hf
  simp only [Prod.mk.injEq] at hx
  have h : s = s' := by simpa [Value.cells] using h
  subst h
  exact ⟨s, rfl, hx.2, hx.1⟩
theorem reach_text {H : Type} {ts : List TypeId} {ds : List (DataW H)} (h : (DataW.weightsEach Tryd.prog ts ds).all (· ≤ reachBytes) = true) {j : Nat} {s : ByteArray} (ht : ts[j]? = some 9) (hd : ds[j]? = some (.lit (.string s.data.toList))) : s.size ≤ 140737488351232 := by
  have h1 := sized_string h ht hd
  have h2 : s.data.toList.length = s.size := by simp
  have h3 : reachBytes = 140737488351232 := by decide
  omega
theorem bounds_w {n : Int} (h : (Lit.int .u32 n).wf = true) : 0 ≤ n ∧ n < 4294967296 := by
  have h : 0 ≤ n ∧ n ≤ 4294967295 := by simpa [Lit.wf, IntKind.min, IntKind.max, IntKind.signed, IntKind.bits] using h
  omega
theorem bounds_b {n : Int} (h : (Lit.int .u8 n).wf = true) : 0 ≤ n ∧ n < 256 := by
  have h : 0 ≤ n ∧ n ≤ 255 := by simpa [Lit.wf, IntKind.min, IntKind.max, IntKind.signed, IntKind.bits] using h
  omega
theorem bounds_n {n : Int} (h : (Lit.int .i64 n).wf = true) : -9223372036854775808 ≤ n ∧ n < 9223372036854775808 := by
  have h : -9223372036854775808 ≤ n ∧ n ≤ 9223372036854775807 := by simpa [Lit.wf, IntKind.min, IntKind.max, IntKind.signed, IntKind.bits] using h
  omega
theorem bulk_one {H : Type} (d : DataW H) : 1 ≤ Rows.uptoBulk d := by
  cases d with
  | lit l => cases l <;> simp [Rows.uptoBulk]
  | nil => simp [Rows.uptoBulk]
  | ptr d => simp [Rows.uptoBulk]
  | slice elems spare => simp [Rows.uptoBulk]
  | agg parts => simp [Rows.uptoBulk]
  | iface t d => simp [Rows.uptoBulk]
  | map entries => simp [Rows.uptoBulk]
  | held h => simp [Rows.uptoBulk]
theorem bulk_len {H : Type} (l : List Nat) (D : Nat → DataW H) : l.length ≤ Rows.uptoBulkAll (l.map D) := by
  induction l with
  | nil => simp
  | cons x r ih =>
    have := bulk_one (D x)
    simp only [List.map_cons, Rows.uptoBulkAll, List.length_cons]
    omega
section
variable {H : Type} {enc : TypeId × Value → H} {W : World}
/-- what is read of a slice of one-cell things -/
theorem open_list {t e : TypeId} {fuel : Nat} {v : Value} {x : DataW H × List MemPlace} (ht : Tryd.prog.underlying t = some (.slice e)) (hc : Tryd.prog.cellsOf e = 1) (h : DataW.trod enc Tryd.prog W 0 (fun _ => true) true fuel t [v] = some x) :
    ∃ xs : List Value, LAt W v xs ∧ (∀ u ∈ xs, ∃ n y, DataW.trod enc Tryd.prog W 0 (fun _ => true) true n e [u] = some y) ∧ xs.length ≤ Rows.uptoBulk x.1 := by
  rcases open_slice1 ht hc h with ⟨hcs, hx⟩ | ⟨a, len, cap, m, n, V, D, Pl, hcs, _, hl, hm, hmm, hx, hrow⟩
  · simp only [List.cons.injEq, and_true] at hcs
    subst hcs
    exact ⟨[], lat_nil W, fun u hu => by simp at hu, by simp⟩
  · simp only [List.cons.injEq, and_true] at hcs
    have hmc : m = cap := by simpa using hmm
    refine ⟨(List.range len).map V, ⟨some a, cap, by rw [hcs]; simp, by simpa using hl, by unfold maxLen at hm; omega, ?_⟩, fun u hu => ?_, ?_⟩
    · by_cases h0 : 0 < len
      · obtain ⟨bb, off, spot⟩ := a
        have hspot : spot = none := by
          have h1 := (hrow 0 (by omega)).1
          simpa [Addr.add] using World.cell?_spot h1
        subst hspot
        refine .inr ⟨bb, off, rfl, fun k v hv => ?_⟩
        have hk : k < len := by
          have := (List.getElem?_eq_some_iff.1 hv).1
          simpa using this
        simp [hk] at hv
        subst hv
        have := (hrow k (by omega)).1
        rw [Go.WideShapes.add_plain] at this
        exact this
      · exact .inl (by have : len = 0 := by omega
                       simp [this])
    · obtain ⟨i, hi, rfl⟩ := List.mem_map.1 hu
      exact ⟨n, _, (hrow i (by have : i < len := by simpa using hi
                               omega)).2⟩
    · have hb : Rows.uptoBulk x.1 = Rows.uptoBulkAll ((List.range len).map D) + Rows.uptoBulkAll ((List.range (m - len)).map fun j => D (len + j)) + 1 := by rw [hx]; simp only [Rows.uptoBulk]
      have hbl := bulk_len (List.range len) D
      rw [List.length_range] at hbl
      rw [List.length_map, List.length_range]
      omega
theorem open_ints {fuel : Nat} {v : Value} {x : DataW H × List MemPlace} (h : DataW.trod enc Tryd.prog W 0 (fun _ => true) true fuel 41 [v] = some x) : ∃ r : List Int, LAt W v (ints r) := by
  obtain ⟨xs, hl, hx, -⟩ := open_list Tryd.underlying41 cells3 h
  refine ⟨xs.map intOf, ?_⟩
  have e : ints (xs.map intOf) = xs := by
    unfold ints
    rw [List.map_map]
    refine (List.map_congr_left (fun u hu => ?_)).trans (List.map_id xs)
    obtain ⟨n, y, hy⟩ := hx u hu
    obtain ⟨k, e0, _, _⟩ := DataW.trod_int Tryd.underlying3 hy
    simp only [List.cons.injEq, and_true] at e0
    subst e0
    rfl
  rw [e]
  exact hl
theorem open_words {fuel : Nat} {v : Value} {x : DataW H × List MemPlace} (h : DataW.trod enc Tryd.prog W 0 (fun _ => true) true fuel 24 [v] = some x) : ∃ r : List Nat, LAt W v (u32s r) ∧ ∀ z ∈ r, z < 4294967296 := by
  obtain ⟨xs, hl, hx, -⟩ := open_list Tryd.underlying24 cellsWord h
  have hx' : ∀ u ∈ xs, ∃ k : Int, u = .int .u32 k ∧ 0 ≤ k ∧ k < 4294967296 := fun u hu => by
    obtain ⟨n, y, hy⟩ := hx u hu
    obtain ⟨k, e0, _, w0⟩ := DataW.trod_int Tryd.underlying27 hy
    simp only [List.cons.injEq, and_true] at e0
    exact ⟨k, e0, bounds_w w0⟩
  refine ⟨xs.map (fun u => (intOf u).toNat), ?_, fun z hz => ?_⟩
  · have e : u32s (xs.map (fun u => (intOf u).toNat)) = xs := by
      unfold u32s
      rw [List.map_map]
      refine (List.map_congr_left (fun u hu => ?_)).trans (List.map_id xs)
      obtain ⟨k, rfl, h1, h2⟩ := hx' u hu
      show Value.int .u32 (((k.toNat : Nat) : Int)) = .int .u32 k
      rw [Int.toNat_of_nonneg h1]
    rw [e]
    exact hl
  · obtain ⟨u, hu, rfl⟩ := List.mem_map.1 hz
    obtain ⟨k, rfl, h1, h2⟩ := hx' u hu
    show k.toNat < _
    omega
theorem trod_s4 {P : Program} {w : World} {base : Nat} {spare : Nat → Bool} {held : Bool} {t : TypeId} {f0 f1 f2 f3 : Field} {fuel : Nat} {cs : List Value} {x : DataW H × List MemPlace} (ht : P.underlying t = some (.struct #[f0, f1, f2, f3])) (h : DataW.trod enc P w base spare held fuel t cs = some x) :
    ∃ y0 y1 y2 y3 n, cs.length = P.cellsOf t ∧ DataW.trod enc P w base spare held n f0.type ((cs.drop f0.offset).take (P.cellsOf f0.type)) = some y0 ∧
      DataW.trod enc P w base spare held n f1.type ((cs.drop f1.offset).take (P.cellsOf f1.type)) = some y1 ∧ DataW.trod enc P w base spare held n f2.type ((cs.drop f2.offset).take (P.cellsOf f2.type)) = some y2 ∧
      DataW.trod enc P w base spare held n f3.type ((cs.drop f3.offset).take (P.cellsOf f3.type)) = some y3 := by
  obtain ⟨xs, n, _, rfl, hl, hlen, hf⟩ := DataW.trod_struct ht h
  match xs, hlen with
  | [y0, y1, y2, y3], _ => exact ⟨y0, y1, y2, y3, n, hl, by simpa using hf 0 f0 rfl, by simpa using hf 1 f1 rfl, by simpa using hf 2 f2 rfl, by simpa using hf 3 f3 rfl⟩
theorem drop_one {cs : List Value} {k : Nat} {v : Value} (h : cs[k]? = some v) : (cs.drop k).take 1 = [v] := by
  rw [List.drop_eq_getElem_cons (List.getElem?_eq_some_iff.1 h).1]
  simp [(List.getElem?_eq_some_iff.1 h).2]
/-- A TABLE THAT CAME IN. -/
theorem open_dfa {fuel : Nat} {cs : Array Value} {x : DataW H × List MemPlace} (h : DataW.trod enc Tryd.prog W 0 (fun _ => true) true fuel 26 cs.toList = some x) :
    ∃ (d : Dt) (V1 V2 V3 : Value) (Us : List Value), cs = dv d.cl V1 V2 V3 ∧ DfAt W d V1 V2 V3 Us ∧ R64 d.cl := by
  obtain ⟨y0, y1, y2, y3, n, hlen, h0, h1, h2, h3⟩ := trod_s4 Tryd.underlying26 h
  rw [cellsDfa] at hlen
  have hsz : cs.size = 259 := by simpa using hlen
  have at_ : ∀ k, k < 259 → ∃ v, cs[k]? = some v ∧ cs.toList[k]? = some v := fun k hk => ⟨cs[k], by simp [hsz, hk], by simp [hsz, hk]⟩
  obtain ⟨V1, c1, l1⟩ := at_ 256 (by omega)
  obtain ⟨V2, c2, l2⟩ := at_ 257 (by omega)
  obtain ⟨V3, c3, l3⟩ := at_ 258 (by omega)
  simp only [cellsArr, cellsRows, cellsWords, List.drop_zero] at h0 h1 h2 h3
  rw [drop_one l1] at h1
  rw [drop_one l2] at h2
  rw [drop_one l3] at h3
  obtain ⟨Us, hU, hrow, -⟩ := open_list Tryd.underlying23 cellsRow h1
  obtain ⟨fo, hfo, bfo⟩ := open_words h2
  obtain ⟨en, hen, ben⟩ := open_words h3
  obtain ⟨xs, m, _, _, _, hxl, hx⟩ := DataW.trod_array Tryd.underlying22 h0
  have hcl : ∀ i, i < 256 → ∃ z : Int, cs[i]? = some (.int .i64 z) ∧ -9223372036854775808 ≤ z ∧ z < 9223372036854775808 := fun i hi => by
    obtain ⟨v, hv, hl⟩ := at_ i (by omega)
    have hy := hx i hi
    rw [cells3, Nat.mul_one, List.drop_take, List.take_take, Nat.min_eq_left (by omega), drop_one hl, List.getElem?_eq_getElem (by omega)] at hy
    obtain ⟨k, e0, _, w0⟩ := DataW.trod_int Tryd.underlying3 hy
    simp only [List.cons.injEq, and_true] at e0
    subst e0
    exact ⟨k, hv, bounds_n w0⟩
  obtain ⟨f, hf⟩ := choose_lt (α := Int) (n := 256) (p := fun i z => cs[i]? = some (.int .i64 z) ∧ -9223372036854775808 ≤ z ∧ z < 9223372036854775808) hcl
  have hrr : ∀ u ∈ Us, ∃ r : List Int, LAt W u (ints r) := fun u hu => by
    obtain ⟨n, y, hy⟩ := hrow u hu
    exact open_ints hy
  obtain ⟨R, hR⟩ := choose_lt (α := List Int) (n := Us.length) (p := fun i r => ∀ u, Us[i]? = some u → LAt W u (ints r)) (fun i hi => by
    obtain ⟨r, hr⟩ := hrr Us[i] (List.getElem_mem hi)
    refine ⟨r, fun u hu => ?_⟩
    rw [List.getElem?_eq_getElem hi] at hu
    cases hu
    exact hr)
  refine ⟨⟨f, (List.range Us.length).map R, fo, en⟩, V1, V2, V3, Us, ?_, ⟨hU, by simp [Dt.S], fun s U hs => ?_, hfo, hen, bfo, ben⟩, fun i hi => (hf i hi).2⟩
  · apply Array.ext_getElem?
    intro k
    by_cases hk : k < 256
    · rw [(hf k hk).1, dv_lo _ _ _ _ hk]
    · obtain ⟨j, rfl⟩ : ∃ j, k = 256 + j := ⟨k - 256, by omega⟩
      rw [dv_hi]
      match j with
      | 0 => exact c1
      | 1 => exact c2
      | 2 => exact c3
      | j + 3 => rw [Array.getElem?_eq_none (by omega)]; simp
  · have hs' := (List.getElem?_eq_some_iff.1 hs).1
    have e : Dt.row ⟨f, (List.range Us.length).map R, fo, en⟩ s = R s := getD_range R _ _ hs'
    rw [e]
    exact hR s hs' U hs
/-- bytes that came in -/
theorem open_bytes {fuel : Nat} {v : Value} {x : DataW H × List MemPlace} (h : DataW.trod enc Tryd.prog W 0 (fun _ => true) true fuel 28 [v] = some x) : ∃ (a : Option Addr) (n cap : Nat) (zs : List Int), v = .slice a n cap ∧ n = zs.length ∧ n ≤ cap ∧ BytesAt W a zs ∧ Rec.Bs zs ∧ n ≤ Rows.uptoBulk x.1 := by
  obtain ⟨xs, hl, hx, hbk⟩ := open_list Tryd.underlying28 cells5 h
  have hx' : ∀ u ∈ xs, ∃ k : Int, u = .int .u8 k ∧ 0 ≤ k ∧ k < 256 := fun u hu => by
    obtain ⟨n, y, hy⟩ := hx u hu
    obtain ⟨k, e0, _, w0⟩ := DataW.trod_int Tryd.underlying5 hy
    simp only [List.cons.injEq, and_true] at e0
    exact ⟨k, e0, bounds_b w0⟩
  obtain ⟨a, c, e, hc, _, hcell⟩ := hl
  refine ⟨a, xs.length, c, xs.map intOf, e, by simp, hc, ?_, fun z hz => ?_, hbk⟩
  · rcases hcell with rfl | ⟨b, off, ea, hcell⟩
    · exact .inl rfl
    · refine .inr ⟨b, off, ea, fun k hk => ?_⟩
      rw [List.length_map] at hk
      have h1 := hcell k xs[k] (List.getElem?_eq_getElem hk)
      obtain ⟨z, hz, _⟩ := hx' xs[k] (List.getElem_mem hk)
      rw [h1, List.getD_eq_getElem?_getD, List.getElem?_map, List.getElem?_eq_getElem hk, hz]
      rfl
  · obtain ⟨u, hu, rfl⟩ := List.mem_map.1 hz
    obtain ⟨k, rfl, h1⟩ := hx' u hu
    exact h1
end
end Go.Proofs.YtdngileimmgdnaaDoor
