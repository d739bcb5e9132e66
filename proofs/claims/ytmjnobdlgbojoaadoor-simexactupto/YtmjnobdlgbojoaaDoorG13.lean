/- From the row's own conditions to what the walks ask: the library's table in memory, a text, a machine that came in. -/
import Derived.Test.YtmjnobdlgbojoaaDoorG03
import Derived.Test.YtmjnobdlgbojoaaDoorG12
import Derived.Test.YtmjnobdlgbojoaaDoorCards
import Derived.Test.YtmjnobdlgbojoaaDoorTie
import Derived.ProofKit
import Derived.OpenShut
import Derived.ShutString
import Derived.ChangeOld
import Derived.SizedLaws
import Derived.JoinedCond
import Derived.Deep.DeepHandedRow
import Derived.Lib.LaidTab
import Derived.Laws.IdiomArrays
import Derived.Lib.SmallJoins
import Derived.Deep.Slices
namespace Go.Proofs.YtmjnobdlgbojoaaDoor
open Go.ChangeShapes Go.WideShapes Go.ChangeAt Go.RowKit Go.Deep

theorem own : ownKnob Tryd.prog.godebug = none := by kernel_rfl
theorem laidOut : laidOutB Tryd.prog = true := by kernel_rfl
theorem gTab : Tryd.prog.globalNamed "math/bits.deBruijn64tab" = some 0 := by kernel_rfl
theorem gTabType : (Tryd.prog.globals[0]?).map (·.type) = some 91 := by kernel_rfl
theorem cellsTab : Tryd.prog.cellsOf 91 = 64 := by kernel_rfl
theorem cells5 : Tryd.prog.cellsOf 5 = 1 := by kernel_rfl
theorem cells3 : Tryd.prog.cellsOf 3 = 1 := by kernel_rfl
theorem cells30 : Tryd.prog.cellsOf 30 = 1 := by kernel_rfl
theorem cells32 : Tryd.prog.cellsOf 32 = 4 := by kernel_rfl
theorem table {W : World} (h : laidMetH Tryd.prog [("math/bits.deBruijn64tab", Rows.laid_math_bits_deBruijn64tab)] W) :
    Lib.TabIs Tryd.prog W "math/bits.deBruijn64tab" .u8 [0, 1, 56, 2, 57, 49, 28, 3, 61, 58, 42, 50, 38, 29, 17, 4, 62, 47, 59, 36, 45, 43, 51, 22, 53, 39, 33, 30, 24, 18, 12, 5, 63, 55, 48, 27, 60, 41, 37, 16, 46, 35, 44, 21, 52, 32, 23, 11, 54, 26, 40, 15, 34, 20, 31, 10, 25, 14, 19, 9, 13, 8, 7, 6] :=
  Lib.tabIs_of_head (rest := []) gTab gTabType Tryd.underlying91 Tryd.underlying5 cells5 cellsTab h
theorem tab_of {W : World} (h : laidMetH Tryd.prog [("math/bits.deBruijn64tab", Rows.laid_math_bits_deBruijn64tab)] W) : Tab W := by
  intro i k hk
  have hi : i < 64 := by
    have := (List.getElem?_eq_some_iff.1 hk).1
    exact this
  have h1 := (table h).cell gTab i hi
  rw [h1]
  have h2 : ∀ i, i < 64 → ([0, 1, 56, 2, 57, 49, 28, 3, 61, 58, 42, 50, 38, 29, 17, 4, 62, 47, 59, 36, 45, 43, 51, 22, 53, 39, 33, 30, 24, 18, 12, 5, 63, 55, 48, 27, 60, 41, 37, 16, 46, 35, 44, 21, 52, 32, 23, 11, 54, 26, 40, 15, 34, 20, 31, 10, 25, 14, 19, 9, 13, 8, 7, 6] : List Int).getD i 0 = ((Oct.tab.getD i 0 : Nat) : Int) := by decide
  rw [h2 i hi, List.getD_eq_getElem?_getD, hk]
  rfl
theorem open_text {H : Type} {enc : TypeId × Value → H} {W : World} {r : Reach} {b0 : Nat} {v : Value} {d : DataW H} {p : List MemPlace} (hval : Value.okWide Tryd.prog W r b0 9 v) (hd : DataW.Trod enc Tryd.prog W 0 (fun _ => true) true 9 v d p) : ∃ s : ByteArray, v = .string s ∧ p = [] ∧ d = .lit (.string s.data.toList) := by
  obtain ⟨s, rfl⟩ := okWide_string Tryd.underlying9 hval
  obtain ⟨fuel, hf⟩ := hd
  obtain ⟨s', h, hx, hs⟩ := DataW.trod_string Tryd.underlying9 hf
  simp only [Prod.mk.injEq] at hx
  have h : s = s' := by simpa [Value.cells] using h
  subst h
  exact ⟨s, rfl, hx.2, hx.1⟩
theorem bounds_u64 {n : Int} (h : (Lit.int .u64 n).wf = true) : 0 ≤ n ∧ n < 18446744073709551616 := by
  have h : 0 ≤ n ∧ n ≤ 18446744073709551615 := by simpa [Lit.wf, IntKind.min, IntKind.max, IntKind.signed, IntKind.bits] using h
  omega
theorem bulk_one {H : Type} (d : DataW H) : 1 ≤ Rows.uptoBulk d := by
  cases d with
  | lit l => cases l <;> simp [Rows.uptoBulk]
  | nil => simp [Rows.uptoBulk]
  | ptr d => simp [Rows.uptoBulk]
  | slice elems spare => simp [Rows.uptoBulk]
  | agg parts => simp [Rows.uptoBulk]
  | iface t d => simp [Rows.uptoBulk]
  | map entries => simp [Rows.uptoBulk]
  | held h => simp [Rows.uptoBulk]
theorem read_set {H : Type} {enc : TypeId × Value → H} {W : World} {n : Nat} {v0 v1 v2 v3 : Value} {x : DataW H × List MemPlace} {spare : Nat → Bool}
    (h : DataW.trod enc Tryd.prog W 0 spare true n 32 [v0, v1, v2, v3] = some x) :
    ∃ s : Oct.S, v0 = .int .u64 (Oct.word s 0 : Nat) ∧ v1 = .int .u64 (Oct.word s 1 : Nat) ∧ v2 = .int .u64 (Oct.word s 2 : Nat) ∧ v3 = .int .u64 (Oct.word s 3 : Nat) := by
  obtain ⟨y0, y1, y2, y3, m, _, h0, h1, h2, h3⟩ := trod_array4 Tryd.underlying32 cells30 h
  obtain ⟨x0, e0, _, w0⟩ := DataW.trod_int Tryd.underlying30 h0
  obtain ⟨x1, e1, _, w1⟩ := DataW.trod_int Tryd.underlying30 h1
  obtain ⟨x2, e2, _, w2⟩ := DataW.trod_int Tryd.underlying30 h2
  obtain ⟨x3, e3, _, w3⟩ := DataW.trod_int Tryd.underlying30 h3
  simp only [List.cons.injEq, and_true] at e0 e1 e2 e3
  obtain ⟨a0, b0⟩ := bounds_u64 w0
  obtain ⟨a1, b1⟩ := bounds_u64 w1
  obtain ⟨a2, b2⟩ := bounds_u64 w2
  obtain ⟨a3, b3⟩ := bounds_u64 w3
  obtain ⟨X0, rfl⟩ := Int.eq_ofNat_of_zero_le a0
  obtain ⟨X1, rfl⟩ := Int.eq_ofNat_of_zero_le a1
  obtain ⟨X2, rfl⟩ := Int.eq_ofNat_of_zero_le a2
  obtain ⟨X3, rfl⟩ := Int.eq_ofNat_of_zero_le a3
  refine ⟨Oct.ofWords X0 X1 X2 X3, ?_, ?_, ?_, ?_⟩
  · rw [← Oct.ofWords0 X0 X1 X2 X3 (by omega)]; exact e0
  · rw [← Oct.ofWords1 X0 X1 X2 X3 (by omega)]; exact e1
  · rw [← Oct.ofWords2 X0 X1 X2 X3 (by omega)]; exact e2
  · rw [← Oct.ofWords3 X0 X1 X2 X3 (by omega)]; exact e3
theorem cellsEdge : Tryd.prog.cellsOf 34 = 7 := by kernel_rfl
theorem cellsWord : Tryd.prog.cellsOf 28 = 1 := by kernel_rfl
theorem cellsNFA : Tryd.prog.cellsOf 25 = 3 := by kernel_rfl
theorem cellsEdges : Tryd.prog.cellsOf 22 = 1 := by kernel_rfl
theorem cellsWords : Tryd.prog.cellsOf 23 = 1 := by kernel_rfl
theorem bounds_u32 {n : Int} (h : (Lit.int .u32 n).wf = true) : 0 ≤ n ∧ n < 4294967296 := by
  have h : 0 ≤ n ∧ n ≤ 4294967295 := by simpa [Lit.wf, IntKind.min, IntKind.max, IntKind.signed, IntKind.bits] using h
  omega
theorem trod_s3 {H : Type} {enc : TypeId × Value → H} {P : Program} {w : World} {base : Nat} {spare : Nat → Bool} {held : Bool} {t : TypeId} {f0 f1 f2 : Field} {fuel : Nat} {cs : List Value} {x : DataW H × List MemPlace} (ht : P.underlying t = some (.struct #[f0, f1, f2])) (h : DataW.trod enc P w base spare held fuel t cs = some x) :
    ∃ y0 y1 y2 n, x.1 = .agg [y0.1, y1.1, y2.1] ∧ cs.length = P.cellsOf t ∧ DataW.trod enc P w base spare held n f0.type ((cs.drop f0.offset).take (P.cellsOf f0.type)) = some y0 ∧
      DataW.trod enc P w base spare held n f1.type ((cs.drop f1.offset).take (P.cellsOf f1.type)) = some y1 ∧ DataW.trod enc P w base spare held n f2.type ((cs.drop f2.offset).take (P.cellsOf f2.type)) = some y2 := by
  obtain ⟨xs, n, _, rfl, hl, hlen, hf⟩ := DataW.trod_struct ht h
  match xs, hlen with
  | [y0, y1, y2], _ => exact ⟨y0, y1, y2, n, by simp, hl, by simpa using hf 0 f0 rfl, by simpa using hf 1 f1 rfl, by simpa using hf 2 f2 rfl⟩
theorem trod_s4 {H : Type} {enc : TypeId × Value → H} {P : Program} {w : World} {base : Nat} {spare : Nat → Bool} {held : Bool} {t : TypeId} {f0 f1 f2 f3 : Field} {fuel : Nat} {cs : List Value} {x : DataW H × List MemPlace} (ht : P.underlying t = some (.struct #[f0, f1, f2, f3])) (h : DataW.trod enc P w base spare held fuel t cs = some x) :
    ∃ y0 y1 y2 y3 n, x.1 = .agg [y0.1, y1.1, y2.1, y3.1] ∧ cs.length = P.cellsOf t ∧ DataW.trod enc P w base spare held n f0.type ((cs.drop f0.offset).take (P.cellsOf f0.type)) = some y0 ∧
      DataW.trod enc P w base spare held n f1.type ((cs.drop f1.offset).take (P.cellsOf f1.type)) = some y1 ∧ DataW.trod enc P w base spare held n f2.type ((cs.drop f2.offset).take (P.cellsOf f2.type)) = some y2 ∧
      DataW.trod enc P w base spare held n f3.type ((cs.drop f3.offset).take (P.cellsOf f3.type)) = some y3 := by
  obtain ⟨xs, n, _, rfl, hl, hlen, hf⟩ := DataW.trod_struct ht h
  match xs, hlen with
  | [y0, y1, y2, y3], _ => exact ⟨y0, y1, y2, y3, n, by simp, hl, by simpa using hf 0 f0 rfl, by simpa using hf 1 f1 rfl, by simpa using hf 2 f2 rfl, by simpa using hf 3 f3 rfl⟩
theorem bulk_len {H : Type} (l : List Nat) (D : Nat → DataW H) : l.length ≤ Rows.uptoBulkAll (l.map D) := by
  induction l with
  | nil => simp
  | cons x r ih =>
    have := bulk_one (D x)
    simp only [List.map_cons, Rows.uptoBulkAll, List.length_cons]
    omega
set_option maxRecDepth 8000 in
theorem open_edge {H : Type} {enc : TypeId × Value → H} {W : World} {fuel : Nat} {cs : List Value} {x : DataW H × List MemPlace} (h : DataW.trod enc Tryd.prog W 0 (fun _ => true) true fuel 34 cs = some x) : ∃ e : Eg, cs = e.cells := by
  obtain ⟨y0, y1, y2, y3, n, _, hlen, h0, h1, h2, h3⟩ := trod_s4 Tryd.underlying34 h
  rw [cellsEdge] at hlen
  match cs, hlen with
  | [v0, v1, v2, v3, v4, v5, v6], _ =>
    simp only [cells3, cells32, List.drop_zero, List.drop_succ_cons, List.take_succ_cons, List.take_zero] at h0 h1 h2 h3
    obtain ⟨k, e0, _, _⟩ := DataW.trod_int Tryd.underlying3 h0
    obtain ⟨f, e1, _, _⟩ := DataW.trod_int Tryd.underlying3 h1
    obtain ⟨t, e2, _, _⟩ := DataW.trod_int Tryd.underlying3 h2
    simp only [List.cons.injEq, and_true] at e0 e1 e2
    obtain ⟨s, rfl, rfl, rfl, rfl⟩ := read_set h3
    subst e0 e1 e2
    exact ⟨⟨k, f, t, s⟩, rfl⟩
set_option maxRecDepth 8000 in
theorem open_edges {H : Type} {enc : TypeId × Value → H} {W : World} {fuel : Nat} {v : Value} {x : DataW H × List MemPlace} (h : DataW.trod enc Tryd.prog W 0 (fun _ => true) true fuel 22 [v] = some x) : ∃ (a : Option Addr) (len cap : Nat) (es : List Eg), v = .slice a len cap ∧ es.length = len ∧ EAt (fun _ => True) W a es ∧ len + 1 ≤ Rows.uptoBulk x.1 := by
  rcases open_slice Tryd.underlying22 h with ⟨hcs, hx⟩ | ⟨a, len, cap, m, n', D, Pl, hcs, _, hl, hm, hmm, hx, hrow⟩
  · simp only [List.cons.injEq, and_true] at hcs
    exact ⟨none, 0, 0, [], hcs, rfl, Or.inl rfl, by have := bulk_one x.1; omega⟩
  · simp only [List.cons.injEq, and_true] at hcs
    have hmc : m = cap := by simpa using hmm
    haveI : Inhabited Eg := ⟨⟨0, 0, 0, fun _ => false⟩⟩
    obtain ⟨F, hF⟩ := choose_lt (α := Eg) (n := len) (p := fun i e => ∀ mm v, e.cells[mm]? = some v → W.cell? (a.add (i * 7 + mm)) = some v) (fun i hi => by
      obtain ⟨cs', g1, g2⟩ := hrow i (by omega)
      rw [cellsEdge] at g1
      obtain ⟨e, he⟩ := open_edge g2
      obtain ⟨_, hlen', hcell⟩ := World.cells?_some g1
      refine ⟨e, fun mm v hv => ?_⟩
      have hmm : mm < 7 := by have := (List.getElem?_eq_some_iff.1 hv).1; simpa [Eg.cells] using this
      have c := hcell mm hmm
      rw [add_add, he] at c
      rw [c]
      exact hv)
    have hb : Rows.uptoBulk x.1 = Rows.uptoBulkAll ((List.range len).map D) + Rows.uptoBulkAll ((List.range (m - len)).map fun j => D (len + j)) + 1 := by rw [hx]; simp only [Rows.uptoBulk]
    have hbl := bulk_len (List.range len) D
    rw [List.length_range] at hbl
    refine ⟨some a, len, cap, (List.range len).map F, hcs, by simp, ?_, by omega⟩
    by_cases h0 : 0 < len
    · obtain ⟨bb, off, spot⟩ := a
      have hspot : spot = none := by
        have h1 := hF 0 h0 0 _ rfl
        simpa [Addr.add] using World.cell?_spot h1
      subst hspot
      refine Or.inr ⟨bb, off, rfl, trivial, fun j v hj => ?_⟩
      have hjl := (List.getElem?_eq_some_iff.1 hj).1
      rw [flatE_length] at hjl
      simp only [List.length_map, List.length_range] at hjl
      have hi : j / 7 < len := by omega
      have hm7 : j % 7 < 7 := by omega
      have hx7 : ((List.range len).map F)[j / 7]? = some (F (j / 7)) := by simp [hi]
      have e := flatE_at hx7 hm7
      rw [show 7 * (j / 7) + j % 7 = j by omega] at e
      rw [e] at hj
      have := hF (j / 7) hi (j % 7) v hj
      rw [Go.WideShapes.add_plain, show off + (j / 7 * 7 + j % 7) = off + j by omega] at this
      exact this
    · exact Or.inl (by have : len = 0 := by omega
                       simp [this])
set_option maxRecDepth 8000 in
theorem open_words {H : Type} {enc : TypeId × Value → H} {W : World} {fuel : Nat} {v : Value} {x : DataW H × List MemPlace} (h : DataW.trod enc Tryd.prog W 0 (fun _ => true) true fuel 23 [v] = some x) : ∃ (a : Option Addr) (len cap : Nat) (rs : List Nat), v = .slice a len cap ∧ rs.length = len ∧ UAt (fun _ => True) W a rs ∧ (∀ z ∈ rs, z < 4294967296) ∧ len + 1 ≤ Rows.uptoBulk x.1 := by
  rcases open_slice Tryd.underlying23 h with ⟨hcs, hx⟩ | ⟨a, len, cap, m, n', D, Pl, hcs, _, hl, hm, hmm, hx, hrow⟩
  · simp only [List.cons.injEq, and_true] at hcs
    exact ⟨none, 0, 0, [], hcs, rfl, Or.inl rfl, fun z hz => by simp at hz, by have := bulk_one x.1; omega⟩
  · simp only [List.cons.injEq, and_true] at hcs
    have hmc : m = cap := by simpa using hmm
    obtain ⟨F, hF⟩ := choose_lt (α := Nat) (n := len) (p := fun i e => W.cell? (a.add i) = some (.int .u32 (e : Nat)) ∧ e < 4294967296) (fun i hi => by
      obtain ⟨cs', g1, g2⟩ := hrow i (by omega)
      rw [cellsWord, Nat.mul_one] at g1
      obtain ⟨k, e0, _, w0⟩ := DataW.trod_int Tryd.underlying28 g2
      obtain ⟨_, hlen', hcell⟩ := World.cells?_some g1
      have hk := bounds_u32 w0
      obtain ⟨K, rfl⟩ := Int.eq_ofNat_of_zero_le hk.1
      refine ⟨K, ?_, by have := hk.2; omega⟩
      have c := hcell 0 (by decide)
      rw [add_add, e0] at c
      simpa using c)
    have hb : Rows.uptoBulk x.1 = Rows.uptoBulkAll ((List.range len).map D) + Rows.uptoBulkAll ((List.range (m - len)).map fun j => D (len + j)) + 1 := by rw [hx]; simp only [Rows.uptoBulk]
    have hbl := bulk_len (List.range len) D
    rw [List.length_range] at hbl
    refine ⟨some a, len, cap, (List.range len).map F, hcs, by simp, ?_, fun z hz => by obtain ⟨i, hi, rfl⟩ := List.mem_map.1 hz; exact (hF i (List.mem_range.1 hi)).2, by omega⟩
    by_cases h0 : 0 < len
    · obtain ⟨bb, off, spot⟩ := a
      have hspot : spot = none := by
        have h1 := (hF 0 h0).1
        simpa [Addr.add] using World.cell?_spot h1
      subst hspot
      refine Or.inr ⟨bb, off, rfl, trivial, fun j v hj => ?_⟩
      have hi : j < len := by
        have := (List.getElem?_eq_some_iff.1 hj).1
        simpa using this
      simp [hi] at hj
      subst hj
      have := (hF j hi).1
      rw [Go.WideShapes.add_plain] at this
      exact this
    · exact Or.inl (by have : len = 0 := by omega
                       simp [this])
/-- how much a machine weighs -/
def wgt (M : Ma) : Nat := M.es.length + M.rs.length + 1
set_option maxRecDepth 8000 in
theorem open_nfa {H : Type} {enc : TypeId × Value → H} {W : World} {fuel : Nat} {cs : List Value} {x : DataW H × List MemPlace} (h : DataW.trod enc Tryd.prog W 0 (fun _ => true) true fuel 25 cs = some x) : ∃ (y : Nf) (M : Ma), cs = y.cells ∧ MaAt (fun _ => True) W M y ∧ (∀ z ∈ M.rs, z < 4294967296) ∧ wgt M ≤ Rows.uptoBulk x.1 := by
  obtain ⟨y0, y1, y2, n, hd, hlen, h0, h1, h2⟩ := trod_s3 Tryd.underlying25 h
  rw [cellsNFA] at hlen
  match cs, hlen with
  | [v0, v1, v2], _ =>
    simp only [cells3, cellsEdges, cellsWords, List.drop_zero, List.drop_succ_cons, List.take_succ_cons, List.take_zero] at h0 h1 h2
    obtain ⟨S, e0, _, _⟩ := DataW.trod_int Tryd.underlying3 h0
    simp only [List.cons.injEq, and_true] at e0
    obtain ⟨ea, en, ec, es, rfl, hen, hE, hb1⟩ := open_edges h1
    obtain ⟨ra, rn, rc, rs, rfl, hrn, hU, hq, hb2⟩ := open_words h2
    subst e0
    have hbd : Rows.uptoBulk x.1 = Rows.uptoBulk y0.1 + (Rows.uptoBulk y1.1 + (Rows.uptoBulk y2.1 + 0)) + 1 := by rw [hd]; simp only [Rows.uptoBulk, Rows.uptoBulkAll]
    exact ⟨⟨S, ea, en, ec, ra, rn, rc⟩, ⟨S, es, rs⟩, rfl, ⟨rfl, hen.symm, hrn.symm, hE, hU⟩, hq, by unfold wgt; simp only; omega⟩
end Go.Proofs.YtmjnobdlgbojoaaDoor
