/- From the row's own conditions to what the walk asks: a list of machines that came in. -/
import Derived.Test.YtjmbimgofceanaaG38
import Derived.Test.YtjmbimgofceanaaG35
namespace Go.Proofs.Ytjmbimgofceanaa
open Go.ChangeShapes Go.WideShapes Go.ChangeAt Go.RowKit Go.Deep

theorem cellsEdge : Try.prog.cellsOf 57 = 7 := by kernel_rfl
theorem cellsWord : Try.prog.cellsOf 44 = 1 := by kernel_rfl
theorem cellsNFA : Try.prog.cellsOf 38 = 3 := by kernel_rfl
theorem cellsEdges : Try.prog.cellsOf 35 = 1 := by kernel_rfl
theorem cellsWords : Try.prog.cellsOf 36 = 1 := by kernel_rfl
theorem bounds_u32 {n : Int} (h : (Lit.int .u32 n).wf = true) : 0 ≤ n := by
  have h : 0 ≤ n ∧ n ≤ 4294967295 := by simpa [Lit.wf, IntKind.min, IntKind.max, IntKind.signed, IntKind.bits] using h
  omega
theorem trod_s3 {H : Type} {enc : TypeId × Value → H} {P : Program} {w : World} {base : Nat} {spare : Nat → Bool} {held : Bool} {t : TypeId} {f0 f1 f2 : Field} {fuel : Nat} {cs : List Value} {x : DataW H × List MemPlace} (ht : P.underlying t = some (.struct #[f0, f1, f2])) (h : DataW.trod enc P w base spare held fuel t cs = some x) :
    ∃ y0 y1 y2 n, x.1 = .agg [y0.1, y1.1, y2.1] ∧ cs.length = P.cellsOf t ∧ DataW.trod enc P w base spare held n f0.type ((cs.drop f0.offset).take (P.cellsOf f0.type)) = some y0 ∧
      DataW.trod enc P w base spare held n f1.type ((cs.drop f1.offset).take (P.cellsOf f1.type)) = some y1 ∧ DataW.trod enc P w base spare held n f2.type ((cs.drop f2.offset).take (P.cellsOf f2.type)) = some y2 := by
  obtain ⟨xs, n, _, rfl, hl, hlen, hf⟩ := DataW.trod_struct ht h
  match xs, hlen with
  | [y0, y1, y2], _ => exact ⟨y0, y1, y2, n, by simp, hl, by simpa using hf 0 f0 rfl, by simpa using hf 1 f1 rfl, by simpa using hf 2 f2 rfl⟩
theorem trod_s4 {H : Type} {enc : TypeId × Value → H} {P : Program} {w : World} {base : Nat} {spare : Nat → Bool} {held : Bool} {t : TypeId} {f0 f1 f2 f3 : Field} {fuel : Nat} {cs : List Value} {x : DataW H × List MemPlace} (ht : P.underlying t = some (.struct #[f0, f1, f2, f3])) (h : DataW.trod enc P w base spare held fuel t cs = some x) :
    ∃ y0 y1 y2 y3 n, x.1 = .agg [y0.1, y1.1, y2.1, y3.1] ∧ cs.length = P.cellsOf t ∧ DataW.trod enc P w base spare held n f0.type ((cs.drop f0.offset).take (P.cellsOf f0.type)) = some y0 ∧
      DataW.trod enc P w base spare held n f1.type ((cs.drop f1.offset).take (P.cellsOf f1.type)) = some y1 ∧ DataW.trod enc P w base spare held n f2.type ((cs.drop f2.offset).take (P.cellsOf f2.type)) = some y2 ∧
      DataW.trod enc P w base spare held n f3.type ((cs.drop f3.offset).take (P.cellsOf f3.type)) = some y3 := by
  obtain ⟨xs, n, _, rfl, hl, hlen, hf⟩ := DataW.trod_struct ht h
  match xs, hlen with
  | [y0, y1, y2, y3], _ => exact ⟨y0, y1, y2, y3, n, by simp, hl, by simpa using hf 0 f0 rfl, by simpa using hf 1 f1 rfl, by simpa using hf 2 f2 rfl, by simpa using hf 3 f3 rfl⟩
theorem bulk_len {H : Type} (l : List Nat) (D : Nat → DataW H) : l.length ≤ Rows.uptoBulkAll (l.map D) := by
  induction l with
  | nil => simp
  | cons x r ih =>
    have := bulk_one (D x)
    simp only [List.map_cons, Rows.uptoBulkAll, List.length_cons]
    omega
set_option maxRecDepth 8000 in
theorem open_edge {H : Type} {enc : TypeId × Value → H} {W : World} {fuel : Nat} {cs : List Value} {x : DataW H × List MemPlace} (h : DataW.trod enc Try.prog W 0 (fun _ => true) true fuel 57 cs = some x) : ∃ e : Eg, cs = e.cells := by
  obtain ⟨y0, y1, y2, y3, n, _, hlen, h0, h1, h2, h3⟩ := trod_s4 Try.underlying57 h
  rw [cellsEdge] at hlen
  match cs, hlen with
  | [v0, v1, v2, v3, v4, v5, v6], _ =>
    simp only [cells3, cells27, List.drop_zero, List.drop_succ_cons, List.take_succ_cons, List.take_zero] at h0 h1 h2 h3
    obtain ⟨k, e0, _, _⟩ := DataW.trod_int Try.underlying3 h0
    obtain ⟨f, e1, _, _⟩ := DataW.trod_int Try.underlying3 h1
    obtain ⟨t, e2, _, _⟩ := DataW.trod_int Try.underlying3 h2
    simp only [List.cons.injEq, and_true] at e0 e1 e2
    obtain ⟨s, rfl, rfl, rfl, rfl⟩ := read_set h3
    subst e0 e1 e2
    exact ⟨⟨k, f, t, s⟩, rfl⟩
set_option maxRecDepth 8000 in
theorem open_edges {H : Type} {enc : TypeId × Value → H} {W : World} {fuel : Nat} {v : Value} {x : DataW H × List MemPlace} (h : DataW.trod enc Try.prog W 0 (fun _ => true) true fuel 35 [v] = some x) : ∃ (a : Option Addr) (len cap : Nat) (es : List Eg), v = .slice a len cap ∧ es.length = len ∧ EAt (fun _ => True) W a es ∧ len + 1 ≤ Rows.uptoBulk x.1 := by
  rcases open_slice Try.underlying35 h with ⟨hcs, hx⟩ | ⟨a, len, cap, m, n', D, Pl, hcs, _, hl, hm, hmm, hx, hrow⟩
  · simp only [List.cons.injEq, and_true] at hcs
    exact ⟨none, 0, 0, [], hcs, rfl, Or.inl rfl, by have := bulk_one x.1; omega⟩
  · simp only [List.cons.injEq, and_true] at hcs
    have hmc : m = cap := by simpa using hmm
    haveI : Inhabited Eg := ⟨markE⟩
    obtain ⟨F, hF⟩ := choose_lt (α := Eg) (n := len) (p := fun i e => ∀ mm v, e.cells[mm]? = some v → W.cell? (a.add (i * 7 + mm)) = some v) (fun i hi => by
      obtain ⟨cs', g1, g2⟩ := hrow i (by omega)
      rw [cellsEdge] at g1
      obtain ⟨e, he⟩ := open_edge g2
      obtain ⟨_, hlen', hcell⟩ := World.cells?_some g1
      refine ⟨e, fun mm v hv => ?_⟩
      have hmm : mm < 7 := by have := (List.getElem?_eq_some_iff.1 hv).1; simpa [Eg.cells] using this
      have c := hcell mm hmm
      rw [add_add, he] at c
      rw [c]
      exact hv)
    have hb : Rows.uptoBulk x.1 = Rows.uptoBulkAll ((List.range len).map D) + Rows.uptoBulkAll ((List.range (m - len)).map fun j => D (len + j)) + 1 := by rw [hx]; simp only [Rows.uptoBulk]
    have hbl := bulk_len (List.range len) D
    rw [List.length_range] at hbl
    refine ⟨some a, len, cap, (List.range len).map F, hcs, by simp, ?_, by omega⟩
    by_cases h0 : 0 < len
    · obtain ⟨bb, off, spot⟩ := a
      have hspot : spot = none := by
        have h1 := hF 0 h0 0 _ rfl
        simpa [Addr.add] using World.cell?_spot h1
      subst hspot
      refine Or.inr ⟨bb, off, rfl, trivial, fun j v hj => ?_⟩
      have hjl := (List.getElem?_eq_some_iff.1 hj).1
      rw [flatE_length] at hjl
      simp only [List.length_map, List.length_range] at hjl
      have hi : j / 7 < len := by omega
      have hm7 : j % 7 < 7 := by omega
      have hx7 : ((List.range len).map F)[j / 7]? = some (F (j / 7)) := by simp [hi]
      have e := flatE_at hx7 hm7
      rw [show 7 * (j / 7) + j % 7 = j by omega] at e
      rw [e] at hj
      have := hF (j / 7) hi (j % 7) v hj
      rw [Go.WideShapes.add_plain, show off + (j / 7 * 7 + j % 7) = off + j by omega] at this
      exact this
    · exact Or.inl (by have : len = 0 := by omega
                       simp [this])
set_option maxRecDepth 8000 in
theorem open_words {H : Type} {enc : TypeId × Value → H} {W : World} {fuel : Nat} {v : Value} {x : DataW H × List MemPlace} (h : DataW.trod enc Try.prog W 0 (fun _ => true) true fuel 36 [v] = some x) : ∃ (a : Option Addr) (len cap : Nat) (rs : List Nat), v = .slice a len cap ∧ rs.length = len ∧ UAt (fun _ => True) W a rs ∧ len + 1 ≤ Rows.uptoBulk x.1 := by
  rcases open_slice Try.underlying36 h with ⟨hcs, hx⟩ | ⟨a, len, cap, m, n', D, Pl, hcs, _, hl, hm, hmm, hx, hrow⟩
  · simp only [List.cons.injEq, and_true] at hcs
    exact ⟨none, 0, 0, [], hcs, rfl, Or.inl rfl, by have := bulk_one x.1; omega⟩
  · simp only [List.cons.injEq, and_true] at hcs
    have hmc : m = cap := by simpa using hmm
    obtain ⟨F, hF⟩ := choose_lt (α := Nat) (n := len) (p := fun i e => W.cell? (a.add i) = some (.int .u32 (e : Nat))) (fun i hi => by
      obtain ⟨cs', g1, g2⟩ := hrow i (by omega)
      rw [cellsWord, Nat.mul_one] at g1
      obtain ⟨k, e0, _, w0⟩ := DataW.trod_int Try.underlying44 g2
      obtain ⟨_, hlen', hcell⟩ := World.cells?_some g1
      have hk := bounds_u32 w0
      obtain ⟨K, rfl⟩ := Int.eq_ofNat_of_zero_le hk
      refine ⟨K, ?_⟩
      have c := hcell 0 (by decide)
      rw [add_add, e0] at c
      simpa using c)
    have hb : Rows.uptoBulk x.1 = Rows.uptoBulkAll ((List.range len).map D) + Rows.uptoBulkAll ((List.range (m - len)).map fun j => D (len + j)) + 1 := by rw [hx]; simp only [Rows.uptoBulk]
    have hbl := bulk_len (List.range len) D
    rw [List.length_range] at hbl
    refine ⟨some a, len, cap, (List.range len).map F, hcs, by simp, ?_, by omega⟩
    by_cases h0 : 0 < len
    · obtain ⟨bb, off, spot⟩ := a
      have hspot : spot = none := by
        have h1 := hF 0 h0
        simpa [Addr.add] using World.cell?_spot h1
      subst hspot
      refine Or.inr ⟨bb, off, rfl, trivial, fun j v hj => ?_⟩
      have hi : j < len := by
        have := (List.getElem?_eq_some_iff.1 hj).1
        simpa using this
      simp [hi] at hj
      subst hj
      have := hF j hi
      rw [Go.WideShapes.add_plain] at this
      exact this
    · exact Or.inl (by have : len = 0 := by omega
                       simp [this])
/-- how much a machine weighs -/
def wgt (M : Ma) : Nat := M.es.length + M.rs.length + 1
set_option maxRecDepth 8000 in
theorem open_nfa {H : Type} {enc : TypeId × Value → H} {W : World} {fuel : Nat} {cs : List Value} {x : DataW H × List MemPlace} (h : DataW.trod enc Try.prog W 0 (fun _ => true) true fuel 38 cs = some x) : ∃ (y : Nf) (M : Ma), cs = y.cells ∧ MaAt (fun _ => True) W M y ∧ wgt M ≤ Rows.uptoBulk x.1 := by
  obtain ⟨y0, y1, y2, n, hd, hlen, h0, h1, h2⟩ := trod_s3 Try.underlying38 h
  rw [cellsNFA] at hlen
  match cs, hlen with
  | [v0, v1, v2], _ =>
    simp only [cells3, cellsEdges, cellsWords, List.drop_zero, List.drop_succ_cons, List.take_succ_cons, List.take_zero] at h0 h1 h2
    obtain ⟨S, e0, _, _⟩ := DataW.trod_int Try.underlying3 h0
    simp only [List.cons.injEq, and_true] at e0
    obtain ⟨ea, en, ec, es, rfl, hen, hE, hb1⟩ := open_edges h1
    obtain ⟨ra, rn, rc, rs, rfl, hrn, hU, hb2⟩ := open_words h2
    subst e0
    have hbd : Rows.uptoBulk x.1 = Rows.uptoBulk y0.1 + (Rows.uptoBulk y1.1 + (Rows.uptoBulk y2.1 + 0)) + 1 := by rw [hd]; simp only [Rows.uptoBulk, Rows.uptoBulkAll]
    exact ⟨⟨S, ea, en, ec, ra, rn, rc⟩, ⟨S, es, rs⟩, rfl, ⟨rfl, hen.symm, hrn.symm, hE, hU⟩, by unfold wgt; simp only; omega⟩
def wgts : List Ma → Nat
  | [] => 0
  | M :: Ms => wgt M + wgts Ms
theorem wgts_bulk {H : Type} (l : List Nat) (Tf : Nat → Ma) (D : Nat → DataW H) (h : ∀ r ∈ l, wgt (Tf r) ≤ Rows.uptoBulk (D r)) : wgts (l.map Tf) ≤ Rows.uptoBulkAll (l.map D) := by
  induction l with
  | nil => simp [wgts]
  | cons x r ih =>
    have h1 := h x (by simp)
    have h2 := ih (fun y hy => h y (by simp [hy]))
    simp only [List.map_cons, Rows.uptoBulkAll, wgts]
    omega
theorem wgts_len : ∀ Ms : List Ma, Ms.length ≤ wgts Ms
  | [] => Nat.zero_le _
  | M :: Ms => by
    have := wgts_len Ms
    simp only [List.length_cons, wgts, wgt]
    omega
theorem unions_wgts : ∀ (Ms : List Ma) (o : Ma), (unions Ms o).es.length ≤ o.es.length + wgts Ms ∧ (unions Ms o).rs.length ≤ o.rs.length + wgts Ms
  | [], _ => ⟨Nat.le_refl _, Nat.le_refl _⟩
  | M :: Ms, o => by
    have h := unions_wgts Ms (addM o M)
    rw [unions]
    simp only [addM, List.length_append, List.length_cons, List.length_nil, List.length_map] at h
    simp only [addM, wgts, wgt] at h ⊢
    omega
set_option maxRecDepth 8000 in
theorem open_list {H : Type} {enc : TypeId × Value → H} {W : World} {fuel : Nat} {v : Value} {x : DataW H × List MemPlace} (h : DataW.trod enc Try.prog W 0 (fun _ => true) true fuel 48 [v] = some x) : ∃ (a : Option Addr) (c : Nat) (Ms : List Ma) (xs : List Nf), v = .slice a Ms.length c ∧ ListAt W a Ms xs ∧ wgts Ms ≤ Rows.uptoBulk x.1 := by
  rcases open_slice Try.underlying48 h with ⟨hcs, hx⟩ | ⟨a, len, cap, m, n', D, Pl, hcs, _, hl, hm, hmm, hx, hrow⟩
  · simp only [List.cons.injEq, and_true] at hcs
    exact ⟨none, 0, [], [], hcs, ⟨Or.inl rfl, rfl, fun i M x hM _ => by simp at hM⟩, Nat.zero_le _⟩
  · simp only [List.cons.injEq, and_true] at hcs
    have hmc : m = cap := by simpa using hmm
    haveI : Inhabited (Nf × Ma) := ⟨(⟨0, none, 0, 0, none, 0, 0⟩, zeroMa)⟩
    obtain ⟨F, hF⟩ := choose_lt (α := Nf × Ma) (n := len) (p := fun i q => (∀ mm v, q.1.cells[mm]? = some v → W.cell? (a.add (i * 3 + mm)) = some v) ∧ MaAt (fun _ => True) W q.2 q.1 ∧ wgt q.2 ≤ Rows.uptoBulk (D i)) (fun i hi => by
      obtain ⟨cs', g1, g2⟩ := hrow i (by omega)
      rw [cellsNFA] at g1
      obtain ⟨y, M, he, hM, hw⟩ := open_nfa g2
      obtain ⟨_, hlen', hcell⟩ := World.cells?_some g1
      refine ⟨(y, M), fun mm v hv => ?_, hM, hw⟩
      have hmm : mm < 3 := by have := (List.getElem?_eq_some_iff.1 hv).1; simpa [Nf.cells] using this
      have c := hcell mm hmm
      rw [add_add, he] at c
      rw [c]
      exact hv)
    have hb : Rows.uptoBulk x.1 = Rows.uptoBulkAll ((List.range len).map D) + Rows.uptoBulkAll ((List.range (m - len)).map fun j => D (len + j)) + 1 := by rw [hx]; simp only [Rows.uptoBulk]
    have hbl := wgts_bulk (List.range len) (fun i => (F i).2) D (fun r hr => (hF r (List.mem_range.1 hr)).2.2)
    refine ⟨some a, cap, (List.range len).map fun i => (F i).2, (List.range len).map fun i => (F i).1, by rw [hcs]; simp, ⟨?_, by simp, fun i M x hM hx' => ?_⟩, by omega⟩
    · by_cases h0 : 0 < len
      · obtain ⟨bb, off, spot⟩ := a
        have hspot : spot = none := by
          have h1 := (hF 0 h0).1 0 _ rfl
          simpa [Addr.add] using World.cell?_spot h1
        subst hspot
        refine Or.inr ⟨bb, off, rfl, fun j v hj => ?_⟩
        have hjl := (List.getElem?_eq_some_iff.1 hj).1
        rw [flatM_length] at hjl
        simp only [List.length_map, List.length_range] at hjl
        have hi : j / 3 < len := by omega
        have hm7 : j % 3 < 3 := by omega
        have hx7 : ((List.range len).map fun i => (F i).1)[j / 3]? = some (F (j / 3)).1 := by simp [hi]
        have e := flatM_at hx7 hm7
        rw [show 3 * (j / 3) + j % 3 = j by omega] at e
        rw [e] at hj
        have := (hF (j / 3) hi).1 (j % 3) v hj
        rw [Go.WideShapes.add_plain, show off + (j / 3 * 3 + j % 3) = off + j by omega] at this
        exact this
      · exact Or.inl (by have : len = 0 := by omega
                         simp [this])
    · have hi : i < len := by
        have := (List.getElem?_eq_some_iff.1 hM).1
        simpa using this
      simp [hi] at hM hx'
      subst hM hx'
      exact (hF i hi).2.1
end Go.Proofs.Ytjmbimgofceanaa
