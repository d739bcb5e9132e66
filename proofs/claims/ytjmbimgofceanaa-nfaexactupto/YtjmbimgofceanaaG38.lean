/- From the row's own conditions to what the walks ask: texts that came in, the library's own variable. -/
import Derived.Test.YtjmbimgofceanaaG08
import Derived.Test.YtjmbimgofceanaaRows
import Derived.ProofKit
import Derived.OpenShut
import Derived.ShutString
import Derived.ChangeOld
import Derived.SizedLaws
import Derived.JoinedCond
import Derived.Deep.DeepHandedRow
import Derived.LaidLaws
import Derived.Shelf.Vars
import Derived.Test.YtjmbimgofceanaaG25
import Derived.Laws.IdiomArrays
import Derived.Lib.SmallJoins
import Derived.Deep.Slices
namespace Go.Proofs.Ytjmbimgofceanaa
open Go.ChangeShapes Go.WideShapes Go.ChangeAt Go.RowKit

theorem own : ownKnob Try.prog.godebug = none := by kernel_rfl
theorem laidOut : laidOutB Try.prog = true := by kernel_rfl

set_option maxRecDepth 4000 in
/-- A TEXT THAT CAME IN. -/
theorem open_text {H : Type} {enc : TypeId × Value → H} {W : World} {r : Reach} {b0 : Nat} {v : Value} {d : DataW H} {p : List MemPlace} (hval : Value.okWide Try.prog W r b0 9 v) (hd : DataW.Trod enc Try.prog W 0 (fun _ => true) true 9 v d p) : ∃ s : ByteArray, v = .string s ∧ p = [] ∧ d = .lit (.string s.data.toList) := by
  obtain ⟨s, rfl⟩ := okWide_string Try.underlying9 hval
  obtain ⟨fuel, hf⟩ := hd
  obtain ⟨s', h, hx, hs⟩ := DataW.trod_string Try.underlying9 hf
  simp only [Prod.mk.injEq] at hx
  have h : s = s' := by simpa [Value.cells] using h
  subst h
  exact ⟨s, rfl, hx.2, hx.1⟩
/-- A text that came in is no longer than the reach. -/
theorem reach_text {H : Type} {ts : List TypeId} {ds : List (DataW H)} (h : (DataW.weightsEach Try.prog ts ds).all (· ≤ reachBytes) = true) {j : Nat} {s : ByteArray} (ht : ts[j]? = some 9) (hd : ds[j]? = some (.lit (.string s.data.toList))) : s.size ≤ 140737488351232 := by
  have h1 := sized_string h ht hd
  have h2 : s.data.toList.length = s.size := by simp
  have h3 : reachBytes = 140737488351232 := by decide
  omega
/-- The library's own variable holds some number. -/
theorem gm_of {W : World} (h : W.ShapedOpen Try.prog) : GM W :=
  cell_of_shapedOpen_int (g := 0) (t := 3) (zero := #[.int .i64 0]) (k := .i64) h (of_decide_eq_true (by kernel_rfl)) (by kernel_rfl) rfl (by kernel_rfl) (by kernel_rfl) Try.underlying3
end Go.Proofs.Ytjmbimgofceanaa

/- From the row's own conditions to what the walks ask: a node that came in, with all that lies below it. -/
namespace Go.Proofs.Ytjmbimgofceanaa
open Go.ChangeShapes Go.WideShapes Go.ChangeAt Go.RowKit Go.Deep

theorem cells27 : Try.prog.cellsOf 27 = 4 := by kernel_rfl
theorem cells25 : Try.prog.cellsOf 25 = 1 := by kernel_rfl
theorem cells3 : Try.prog.cellsOf 3 = 1 := by kernel_rfl
theorem cells28 : Try.prog.cellsOf 28 = 1 := by kernel_rfl
theorem cells30 : Try.prog.cellsOf 30 = 8 := by kernel_rfl
theorem bounds_u64 {n : Int} (h : (Lit.int .u64 n).wf = true) : 0 ≤ n ∧ n < 18446744073709551616 := by
  have h : 0 ≤ n ∧ n ≤ 18446744073709551615 := by simpa [Lit.wf, IntKind.min, IntKind.max, IntKind.signed, IntKind.bits] using h
  omega
theorem bulk_one {H : Type} (d : DataW H) : 1 ≤ Rows.uptoBulk d := by
  cases d with
  | lit l => cases l <;> simp [Rows.uptoBulk]
  | nil => simp [Rows.uptoBulk]
  | ptr d => simp [Rows.uptoBulk]
  | slice elems spare => simp [Rows.uptoBulk]
  | agg parts => simp [Rows.uptoBulk]
  | iface t d => simp [Rows.uptoBulk]
  | map entries => simp [Rows.uptoBulk]
  | held h => simp [Rows.uptoBulk]
theorem trod_struct5 {H : Type} {enc : TypeId × Value → H} {P : Program} {w : World} {base : Nat} {spare : Nat → Bool} {held : Bool} {t : TypeId} {f0 f1 f2 f3 f4 : Field} {fuel : Nat} {cs : List Value} {x : DataW H × List MemPlace} (ht : P.underlying t = some (.struct #[f0, f1, f2, f3, f4])) (h : DataW.trod enc P w base spare held fuel t cs = some x) :
    ∃ y0 y1 y2 y3 y4 n, x.1 = .agg [y0.1, y1.1, y2.1, y3.1, y4.1] ∧ cs.length = P.cellsOf t ∧ DataW.trod enc P w base spare held n f0.type ((cs.drop f0.offset).take (P.cellsOf f0.type)) = some y0 ∧
      DataW.trod enc P w base spare held n f1.type ((cs.drop f1.offset).take (P.cellsOf f1.type)) = some y1 ∧ DataW.trod enc P w base spare held n f2.type ((cs.drop f2.offset).take (P.cellsOf f2.type)) = some y2 ∧
      DataW.trod enc P w base spare held n f3.type ((cs.drop f3.offset).take (P.cellsOf f3.type)) = some y3 ∧ DataW.trod enc P w base spare held n f4.type ((cs.drop f4.offset).take (P.cellsOf f4.type)) = some y4 := by
  obtain ⟨xs, n, _, rfl, hl, hlen, hf⟩ := DataW.trod_struct ht h
  match xs, hlen with
  | [y0, y1, y2, y3, y4], _ => exact ⟨y0, y1, y2, y3, y4, n, by simp, hl, by simpa using hf 0 f0 rfl, by simpa using hf 1 f1 rfl, by simpa using hf 2 f2 rfl, by simpa using hf 3 f3 rfl, by simpa using hf 4 f4 rfl⟩
theorem eight {α : Type} {l : List α} (h : l.length = 8) : ∃ a b c d e f g i, l = [a, b, c, d, e, f, g, i] := by
  match l, h with
  | [a, b, c, d, e, f, g, i], _ => exact ⟨a, b, c, d, e, f, g, i, rfl⟩
theorem read_set {H : Type} {enc : TypeId × Value → H} {W : World} {n : Nat} {v0 v1 v2 v3 : Value} {x : DataW H × List MemPlace} {spare : Nat → Bool}
    (h : DataW.trod enc Try.prog W 0 spare true n 27 [v0, v1, v2, v3] = some x) :
    ∃ s : Oct.S, v0 = .int .u64 (Oct.word s 0 : Nat) ∧ v1 = .int .u64 (Oct.word s 1 : Nat) ∧ v2 = .int .u64 (Oct.word s 2 : Nat) ∧ v3 = .int .u64 (Oct.word s 3 : Nat) := by
  obtain ⟨y0, y1, y2, y3, m, _, h0, h1, h2, h3⟩ := trod_array4 Try.underlying27 cells25 h
  obtain ⟨x0, e0, _, w0⟩ := DataW.trod_int Try.underlying25 h0
  obtain ⟨x1, e1, _, w1⟩ := DataW.trod_int Try.underlying25 h1
  obtain ⟨x2, e2, _, w2⟩ := DataW.trod_int Try.underlying25 h2
  obtain ⟨x3, e3, _, w3⟩ := DataW.trod_int Try.underlying25 h3
  simp only [List.cons.injEq, and_true] at e0 e1 e2 e3
  obtain ⟨a0, b0⟩ := bounds_u64 w0
  obtain ⟨a1, b1⟩ := bounds_u64 w1
  obtain ⟨a2, b2⟩ := bounds_u64 w2
  obtain ⟨a3, b3⟩ := bounds_u64 w3
  obtain ⟨X0, rfl⟩ := Int.eq_ofNat_of_zero_le a0
  obtain ⟨X1, rfl⟩ := Int.eq_ofNat_of_zero_le a1
  obtain ⟨X2, rfl⟩ := Int.eq_ofNat_of_zero_le a2
  obtain ⟨X3, rfl⟩ := Int.eq_ofNat_of_zero_le a3
  refine ⟨Oct.ofWords X0 X1 X2 X3, ?_, ?_, ?_, ?_⟩
  · rw [← Oct.ofWords0 X0 X1 X2 X3 (by omega)]; exact e0
  · rw [← Oct.ofWords1 X0 X1 X2 X3 (by omega)]; exact e1
  · rw [← Oct.ofWords2 X0 X1 X2 X3 (by omega)]; exact e2
  · rw [← Oct.ofWords3 X0 X1 X2 X3 (by omega)]; exact e3
theorem siz_one (t : Tn) : 1 ≤ siz t := by
  cases t with
  | mk k s subs mn mx => rw [siz]; omega
theorem bulk_nodes {H : Type} (l : List Nat) (Tf : Nat → Tn) (D : Nat → DataW H) (h : ∀ r ∈ l, 6 * siz (Tf r) ≤ Rows.uptoBulk (D r)) : 6 * sizs (l.map Tf) ≤ Rows.uptoBulkAll (l.map D) ∧ l.length ≤ sizs (l.map Tf) := by
  induction l with
  | nil => simp [sizs, Rows.uptoBulkAll]
  | cons x r ih =>
    have h1 := h x (by simp)
    have h2 := ih (fun y hy => h y (by simp [hy]))
    have h3 := siz_one (Tf x)
    simp only [List.map_cons, Rows.uptoBulkAll, sizs, List.length_cons]
    omega
theorem bulk_in {H : Type} (l : List Nat) (D : Nat → DataW H) {r : Nat} (h : r ∈ l) : Rows.uptoBulk (D r) ≤ Rows.uptoBulkAll (l.map D) := by
  induction l with
  | nil => cases h
  | cons x l ih =>
    simp only [List.map_cons, Rows.uptoBulkAll]
    rcases List.mem_cons.1 h with rfl | h
    · omega
    · have := ih h; omega
/-- nodes one behind the other, cell by cell -/
theorem row_of {W : World} {b off len : Nat} {Xf : Nat → Nd} (h : ∀ i, i < len → ∀ m v, (Xf i).cells[m]? = some v → W.cell? ⟨b, off + i * 8 + m, none⟩ = some v) : RowAt (fun _ => True) W (some ⟨b, off, none⟩) ((List.range len).map Xf) := by
  refine Or.inr ⟨b, off, rfl, trivial, fun j v hj => ?_⟩
  have hjl := (List.getElem?_eq_some_iff.1 hj).1
  rw [flatN_length] at hjl
  simp only [List.length_map, List.length_range] at hjl
  have hi : j / 8 < len := by omega
  have hm : j % 8 < 8 := by omega
  have hx : ((List.range len).map Xf)[j / 8]? = some (Xf (j / 8)) := by simp [hi]
  have e := flatN_at hx hm
  rw [show 8 * (j / 8) + j % 8 = j by omega] at e
  rw [e] at hj
  have := h (j / 8) hi (j % 8) v hj
  rw [show off + j / 8 * 8 + j % 8 = off + j by omega] at this
  exact this
theorem open_node {H : Type} {enc : TypeId × Value → H} {W : World} : ∀ (b fuel : Nat) (cs : List Value) (d : DataW H) (p : List MemPlace), DataW.trod enc Try.prog W 0 (fun _ => true) true fuel 30 cs = some (d, p) → Rows.uptoBulk d ≤ b → b ≤ 1048576 → ∃ (x : Nd) (t : Tn), cs = x.cells ∧ InAt W t x ∧ 6 * siz t ≤ Rows.uptoBulk d := by
  intro b
  induction b with
  | zero => intro fuel cs d p _ hb; have := bulk_one d; omega
  | succ b ih =>
    intro fuel cs d p h hb hbb
    obtain ⟨y0, y1, y2, y3, y4, n, hd, hlen, h0, h1, h2, h3, h4⟩ := trod_struct5 Try.underlying30 h
    rw [cells30] at hlen
    obtain ⟨v0, v1, v2, v3, v4, v5, v6, v7, rfl⟩ := eight hlen
    simp only [cells3, cells27, cells28, List.drop_zero, List.drop_succ_cons, List.take_succ_cons, List.take_zero] at h0 h1 h2 h3 h4
    obtain ⟨k, e0, hy0, _⟩ := DataW.trod_int Try.underlying3 h0
    obtain ⟨mn, e3, hy3, _⟩ := DataW.trod_int Try.underlying3 h3
    obtain ⟨mx, e4, hy4, _⟩ := DataW.trod_int Try.underlying3 h4
    simp only [List.cons.injEq, and_true] at e0 e3 e4
    obtain ⟨s, rfl, rfl, rfl, rfl⟩ := read_set h1
    subst e0 e3 e4
    simp only at hd
    have hbd : Rows.uptoBulk d = 1 + (Rows.uptoBulk y1.1 + (Rows.uptoBulk y2.1 + (1 + (1 + 0)))) + 1 := by rw [hd, hy0, hy3, hy4]; simp only [Rows.uptoBulk, Rows.uptoBulkAll]
    have hb1 := bulk_one y1.1
    rcases open_slice Try.underlying28 h2 with ⟨hcs, hx⟩ | ⟨a, len, cap, m, n', D, Pl, hcs, _, hl, hm, hmm, hx, hrow⟩
    · simp only [List.cons.injEq, and_true] at hcs
      subst hcs
      exact ⟨⟨k, s, none, 0, 0, mn, mx⟩, .mk k s [] mn mx, rfl, .mk k s [] mn mx none 0 0 [] rfl rfl (by decide) (Or.inl rfl) (fun i t v h => by simp at h), by rw [siz, sizs, hbd]; have := bulk_one y2.1; omega⟩
    · simp only [List.cons.injEq, and_true] at hcs
      subst hcs
      have hmc : m = cap := by simpa using hmm
      have hy2 : y2.1 = .slice ((List.range len).map D) ((List.range (m - len)).map fun j => D (len + j)) := by rw [hx]
      have hb2 : Rows.uptoBulk y2.1 = Rows.uptoBulkAll ((List.range len).map D) + Rows.uptoBulkAll ((List.range (m - len)).map fun j => D (len + j)) + 1 := by rw [hy2]; simp only [Rows.uptoBulk]
      haveI : Inhabited (Nd × Tn) := ⟨(zeroNd, .mk 0 Oct.none [] 0 0)⟩
      obtain ⟨F, hF⟩ := choose_lt (α := Nd × Tn) (n := len) (p := fun i q => (∀ mm v, q.1.cells[mm]? = some v → W.cell? (a.add (i * 8 + mm)) = some v) ∧ InAt W q.2 q.1 ∧ 6 * siz q.2 ≤ Rows.uptoBulk (D i)) (fun i hi => by
        obtain ⟨cs', g1, g2⟩ := hrow i (by omega)
        rw [cells30] at g1
        have hbi := bulk_in (List.range len) D (List.mem_range.2 hi)
        obtain ⟨x, t, hcx, hin, hsz⟩ := ih n' cs' (D i) (Pl i) g2 (by omega) (by omega)
        obtain ⟨_, hlen', hcell⟩ := World.cells?_some g1
        refine ⟨(x, t), fun mm v hv => ?_, hin, hsz⟩
        have hmm : mm < 8 := by have := (List.getElem?_eq_some_iff.1 hv).1; simpa [Nd.cells] using this
        have c := hcell mm hmm
        rw [add_add, hcx] at c
        rw [c]
        exact hv)
      have hbn := bulk_nodes (List.range len) (fun i => (F i).2) D (fun r hr => (hF r (List.mem_range.1 hr)).2.2)
      rw [List.length_range] at hbn
      refine ⟨⟨k, s, some a, len, cap, mn, mx⟩, .mk k s ((List.range len).map fun i => (F i).2) mn mx, rfl, .mk k s _ mn mx (some a) len cap ((List.range len).map fun i => (F i).1) (by simp) (by simp) (by omega) ?_ ?_, by rw [siz, hbd]; omega⟩
      · by_cases h0 : 0 < len
        · obtain ⟨bb, off, spot⟩ := a
          have hspot : spot = none := by
            have h1 := (hF 0 h0).1 0 _ rfl
            simpa [Addr.add] using World.cell?_spot h1
          subst hspot
          refine row_of (fun i hi mm v hv => ?_)
          have := (hF i hi).1 mm v hv
          rw [Go.WideShapes.add_plain] at this
          rw [Nat.add_assoc]
          exact this
        · exact Or.inl (by have : len = 0 := by omega
                           simp [this])
      · intro i t v ht hv
        have hi : i < len := by
          have := (List.getElem?_eq_some_iff.1 ht).1
          simpa using this
        simp [hi] at ht hv
        subst ht hv
        exact (hF i hi).2.1
end Go.Proofs.Ytjmbimgofceanaa
