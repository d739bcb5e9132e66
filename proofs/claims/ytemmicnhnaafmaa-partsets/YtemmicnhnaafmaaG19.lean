/- PartSets answers true for every machine, also one that does not fit (P9.3: Sets is the document's, asked twice of one machine and behind others in its place; the machine stays as it is, spare room too; answers are memories of their own), and leaves its argument as it was. Conditions: the row's own reach. -/
import Derived.Test.YtemmicnhnaafmaaG03
import Derived.ProofKit
import Derived.OpenShut
import Derived.ShutString
import Derived.ChangeOld
import Derived.SizedLaws
import Derived.JoinedCond
import Derived.Deep.DeepHandedRow
import Derived.LaidLaws
import Derived.Test.YtemmicnhnaafmaaG02
import Derived.Laws.IdiomArrays
import Derived.Lib.SmallJoins
import Derived.Test.YtemmicnhnaafmaaG18
import Derived.Deep.Slices
namespace Go.Proofs.Ytemmicnhnaafmaa
open Go.ChangeShapes Go.WideShapes Go.ChangeAt Go.RowKit

theorem own : ownKnob Try.prog.godebug = none := by kernel_rfl
theorem laidOut : laidOutB Try.prog = true := by kernel_rfl
theorem cells5 : Try.prog.cellsOf 5 = 1 := by kernel_rfl

theorem nats_of {zs : List Int} (h : ∀ z ∈ zs, 0 ≤ z ∧ z < 256) : ∃ bs : List Nat, zs = ints bs ∧ ∀ b ∈ bs, b < 256 := by
  refine ⟨zs.map Int.toNat, ?_, ?_⟩
  · unfold ints
    rw [List.map_map]
    apply List.ext_getElem (by simp)
    intro k hk _
    have hz := h _ (List.getElem_mem hk)
    simp
    omega
  · intro b hb
    obtain ⟨z, hz, rfl⟩ := List.mem_map.1 hb
    have := h z hz
    omega
theorem bounds_u8' {z : Int} (h : (Lit.int .u8 z).wf = true) : 0 ≤ z ∧ z < 256 := by
  have h : 0 ≤ z ∧ z ≤ 255 := by simpa [Lit.wf, IntKind.min, IntKind.max, IntKind.signed, IntKind.bits] using h
  omega

/-- BYTES THAT CAME IN. -/
theorem open_bytes {H : Type} {enc : TypeId × Value → H} {W : World} {a : Option Addr} {len cap : Nat} {d : DataW H} {p : List MemPlace}
    (h : DataW.Trod enc Try.prog W 0 (fun _ => true) true 59 (.slice a len cap) d p) :
    ∃ bs : List Nat, len = bs.length ∧ len ≤ cap ∧ BytesAt W a bs ∧ (∀ b ∈ bs, b < 256) ∧ ((cap = 0 ∧ d = .nil) ∨ ∃ elems spare, d = .slice elems spare ∧ elems.length + spare.length = cap ∧ elems.length = len) := by
  obtain ⟨fuel, hf⟩ := h
  rcases open_ints Try.underlying59 Try.underlying5 cells5 hf with ⟨hcs, hx⟩ | ⟨x, l, c, zs, hcs, _, hl, hm, hz, hx, hcell, hwz⟩
  · simp [Value.cells] at hcs
    obtain ⟨rfl, rfl, rfl⟩ := hcs
    cases hx
    exact ⟨[], rfl, Nat.le_refl _, Or.inl rfl, (by simp), Or.inl ⟨rfl, rfl⟩⟩
  · simp [Value.cells] at hcs
    obtain ⟨rfl, rfl, rfl⟩ := hcs
    have hz' : zs.length = cap := by simpa using hz
    cases hx
    obtain ⟨bs, hbs, hb⟩ := nats_of (zs := zs) (fun z hz => bounds_u8' (hwz z hz))
    have hbl : bs.length = cap := by rw [← hz', hbs, ints_length]
    refine ⟨bs.take len, by simp; omega, hl, ?_, fun b hb' => hb b (List.mem_of_mem_take hb'), Or.inr ⟨_, _, rfl, by simp [lits]; omega, by simp [lits]; omega⟩⟩
    by_cases h0 : 0 < zs.length
    · obtain ⟨b, off, rfl, hc⟩ := _root_.Go.ints_at hcell h0
      refine Or.inr ⟨b, off, rfl, fun k hk => ?_⟩
      have hk1 : k < len := by simp at hk; omega
      have hk2 : k < zs.length := by simp at hk; omega
      have hk3 : k < bs.length := by omega
      rw [hc k hk2]
      have e : zs[k]? = some ((bs.getD k 0 : Nat) : Int) := by rw [hbs]; simp [ints, hk3]
      simp [hk1, hk3, List.getD, e] at e ⊢
    · exact Or.inl (by have : bs = [] := List.eq_nil_of_length_eq_zero (by omega)
                       simp [this])
/-- A TEXT THAT CAME IN. -/
theorem open_text {H : Type} {enc : TypeId × Value → H} {W : World} {r : Reach} {b0 : Nat} {v : Value} {d : DataW H} {p : List MemPlace} (hval : Value.okWide Try.prog W r b0 9 v) (hd : DataW.Trod enc Try.prog W 0 (fun _ => true) true 9 v d p) : ∃ s : ByteArray, v = .string s ∧ p = [] := by
  obtain ⟨s, rfl⟩ := okWide_string Try.underlying9 hval
  obtain ⟨fuel, hf⟩ := hd
  obtain ⟨s', h, hx, hs⟩ := DataW.trod_string Try.underlying9 hf
  simp only [Prod.mk.injEq] at hx
  exact ⟨s, rfl, hx.2⟩
/-- A slice of bytes that came in is no longer than the reach. -/
theorem reach_bytes {H : Type} {ts : List TypeId} {ds : List (DataW H)} (h : (DataW.weightsEach Try.prog ts ds).all (· ≤ reachBytes) = true) {j : Nat} {d : DataW H} {cap len : Nat} (ht : ts[j]? = some 59) (hd : ds[j]? = some d)
    (hc : (cap = 0 ∧ d = .nil) ∨ ∃ elems spare, d = .slice elems spare ∧ elems.length + spare.length = cap ∧ elems.length = len) : cap ≤ 140737488351232 := by
  rcases hc with ⟨h0, _⟩ | ⟨elems, spare, rfl, hl, _⟩
  · omega
  · have h1 := sized_slice h ht hd Try.underlying59
    have h2 : Try.prog.bytesOf 5 = 1 := by kernel_rfl
    rw [h2, hl] at h1
    have h3 : reachBytes = 140737488351232 := by decide
    omega
end Go.Proofs.Ytemmicnhnaafmaa

/- From the row's own conditions to what the walks ask: a set that came in by value; a slice of sets. -/
namespace Go.Proofs.Ytemmicnhnaafmaa
open Go.ChangeShapes Go.WideShapes Go.ChangeAt Go.RowKit Go.Deep

theorem cells31 : Try.prog.cellsOf 31 = 4 := by kernel_rfl
theorem cells29 : Try.prog.cellsOf 29 = 1 := by kernel_rfl
theorem bounds_u64 {n : Int} (h : (Lit.int .u64 n).wf = true) : 0 ≤ n ∧ n < 18446744073709551616 := by
  have h : 0 ≤ n ∧ n ≤ 18446744073709551615 := by simpa [Lit.wf, IntKind.min, IntKind.max, IntKind.signed, IntKind.bits] using h
  omega
theorem four {α : Type} {l : List α} (h : l.length = 4) : ∃ a b c d, l = [a, b, c, d] := by
  match l, h with
  | [a, b, c, d], _ => exact ⟨a, b, c, d, rfl⟩
/-- four words read are a set's -/
theorem read_set {H : Type} {enc : TypeId × Value → H} {W : World} {n : Nat} {v0 v1 v2 v3 : Value} {x : DataW H × List MemPlace} {spare : Nat → Bool}
    (h : DataW.trod enc Try.prog W 0 spare true n 31 [v0, v1, v2, v3] = some x) :
    ∃ s : Oct.S, v0 = .int .u64 (Oct.word s 0 : Nat) ∧ v1 = .int .u64 (Oct.word s 1 : Nat) ∧ v2 = .int .u64 (Oct.word s 2 : Nat) ∧ v3 = .int .u64 (Oct.word s 3 : Nat) := by
  obtain ⟨y0, y1, y2, y3, m, _, h0, h1, h2, h3⟩ := trod_array4 Try.underlying31 cells29 h
  obtain ⟨x0, e0, _, w0⟩ := DataW.trod_int Try.underlying29 h0
  obtain ⟨x1, e1, _, w1⟩ := DataW.trod_int Try.underlying29 h1
  obtain ⟨x2, e2, _, w2⟩ := DataW.trod_int Try.underlying29 h2
  obtain ⟨x3, e3, _, w3⟩ := DataW.trod_int Try.underlying29 h3
  simp only [List.cons.injEq, and_true] at e0 e1 e2 e3
  obtain ⟨a0, b0⟩ := bounds_u64 w0
  obtain ⟨a1, b1⟩ := bounds_u64 w1
  obtain ⟨a2, b2⟩ := bounds_u64 w2
  obtain ⟨a3, b3⟩ := bounds_u64 w3
  obtain ⟨X0, rfl⟩ := Int.eq_ofNat_of_zero_le a0
  obtain ⟨X1, rfl⟩ := Int.eq_ofNat_of_zero_le a1
  obtain ⟨X2, rfl⟩ := Int.eq_ofNat_of_zero_le a2
  obtain ⟨X3, rfl⟩ := Int.eq_ofNat_of_zero_le a3
  refine ⟨Oct.ofWords X0 X1 X2 X3, ?_, ?_, ?_, ?_⟩
  · rw [← Oct.ofWords0 X0 X1 X2 X3 (by omega)]; exact e0
  · rw [← Oct.ofWords1 X0 X1 X2 X3 (by omega)]; exact e1
  · rw [← Oct.ofWords2 X0 X1 X2 X3 (by omega)]; exact e2
  · rw [← Oct.ofWords3 X0 X1 X2 X3 (by omega)]; exact e3
/-- A SET THAT CAME IN BY VALUE. -/
theorem open_set {H : Type} {enc : TypeId × Value → H} {W : World} {r : Reach} {b0 : Nat} {v : Value} {d : DataW H} {p : List MemPlace} (hv : Value.okWide Try.prog W r b0 31 v) (h : DataW.Trod enc Try.prog W 0 (fun _ => true) true 31 v d p) : ∃ s : Oct.S, v = setV s := by
  simp only [Value.okWide, Try.underlying31] at hv
  obtain ⟨cs, rfl, hsz, _⟩ := hv
  obtain ⟨c0, c1, c2, c3, e⟩ := four (l := cs.toList) (by rw [Array.length_toList]; exact hsz.trans cells31)
  have ec : cs = #[c0, c1, c2, c3] := by cases cs; simp_all
  subst ec
  obtain ⟨fuel, hf⟩ := h
  obtain ⟨s, rfl, rfl, rfl, rfl⟩ := read_set hf
  exact ⟨s, rfl⟩
theorem open_sets {H : Type} {enc : TypeId × Value → H} {W : World} {a : Option Addr} {len cap : Nat} {d : DataW H} {p : List MemPlace}
    (h : DataW.Trod enc Try.prog W 0 (fun _ => true) true 27 (.slice a len cap) d p) :
    ∃ l : List Oct.S, len = l.length ∧ len ≤ cap ∧ SetsAt W a l ∧ ((cap = 0 ∧ d = .nil) ∨ ∃ elems spare, d = .slice elems spare ∧ elems.length + spare.length = cap ∧ elems.length = len) := by
  obtain ⟨fuel, hf⟩ := h
  rcases open_slice Try.underlying27 hf with ⟨hcs, hx⟩ | ⟨x, l, c, m, n, D, Pl, hcs, _, hl, hm, hmm, hx, hrow⟩
  · simp [Value.cells] at hcs
    obtain ⟨rfl, rfl, rfl⟩ := hcs
    cases hx
    exact ⟨[], rfl, Nat.le_refl _, Or.inl rfl, Or.inl ⟨rfl, rfl⟩⟩
  · simp [Value.cells] at hcs
    obtain ⟨rfl, rfl, rfl⟩ := hcs
    cases hx
    have hmc : m = cap := by simpa using hmm
    haveI : Inhabited Oct.S := ⟨Oct.none⟩
    obtain ⟨I, hI⟩ := choose_lt (α := Oct.S) (n := len) (p := fun i s => W.cell? (x.add (i * 4)) = some (.int .u64 (Oct.word s 0 : Nat)) ∧ W.cell? (x.add (i * 4 + 1)) = some (.int .u64 (Oct.word s 1 : Nat)) ∧ W.cell? (x.add (i * 4 + 2)) = some (.int .u64 (Oct.word s 2 : Nat)) ∧ W.cell? (x.add (i * 4 + 3)) = some (.int .u64 (Oct.word s 3 : Nat))) (fun i hi => by
      obtain ⟨cs', h1, h2⟩ := hrow i (by omega)
      rw [cells31] at h1
      obtain ⟨_, hlen, hcell⟩ := World.cells?_some h1
      obtain ⟨v0, v1, v2, v3, rfl⟩ := four hlen
      obtain ⟨s, rfl, rfl, rfl, rfl⟩ := read_set h2
      have c0 := hcell 0 (by omega)
      have c1 := hcell 1 (by omega)
      have c2 := hcell 2 (by omega)
      have c3 := hcell 3 (by omega)
      rw [add_add] at c0 c1 c2 c3
      exact ⟨s, c0, c1, c2, c3⟩)
    refine ⟨(List.range len).map I, by simp, hl, ?_, Or.inr ⟨_, _, rfl, ?_, ?_⟩⟩
    · by_cases h0 : 0 < len
      · obtain ⟨b, off, spot⟩ := x
        have hspot : spot = none := by
          have h1 := (hI 0 h0).1
          simpa [Addr.add] using World.cell?_spot h1
        subst hspot
        refine Or.inr ⟨b, off, rfl, fun k s hk => ?_⟩
        have hk' : k < len := by
          have := (List.getElem?_eq_some_iff.1 hk).1
          simpa using this
        have hit : I k = s := by
          simp [hk'] at hk
          exact hk
        have hr := hI k hk'
        rw [hit] at hr
        simp only [Go.WideShapes.add_plain] at hr
        exact hr
      · exact Or.inl (by have : len = 0 := by omega
                         simp [this])
    · simp
      omega
    · simp
/-- A slice of sets that came in is no longer than the reach. -/
theorem reach_sets {H : Type} {ts : List TypeId} {ds : List (DataW H)} (h : (DataW.weightsEach Try.prog ts ds).all (· ≤ reachBytes) = true) {j : Nat} {d : DataW H} {cap len : Nat} (ht : ts[j]? = some 27) (hd : ds[j]? = some d)
    (hc : (cap = 0 ∧ d = .nil) ∨ ∃ elems spare, d = .slice elems spare ∧ elems.length + spare.length = cap ∧ elems.length = len) : cap ≤ 4398046510976 := by
  rcases hc with ⟨h0, _⟩ | ⟨elems, spare, rfl, hl, _⟩
  · omega
  · have h1 := sized_slice h ht hd Try.underlying27
    have h2 : Try.prog.bytesOf 31 = 32 := by kernel_rfl
    rw [h2, hl] at h1
    have h3 : reachBytes = 140737488351232 := by decide
    omega
end Go.Proofs.Ytemmicnhnaafmaa

/- A machine that came in: its edges. -/
namespace Go.Proofs.Ytemmicnhnaafmaa
open Go.ChangeShapes Go.WideShapes Go.ChangeAt Go.RowKit Go.Deep

theorem cells3 : Try.prog.cellsOf 3 = 1 := by kernel_rfl
theorem cellsEdge : Try.prog.cellsOf 33 = 7 := by kernel_rfl
theorem cellsNFA : Try.prog.cellsOf 25 = 3 := by kernel_rfl
theorem cellsEdges : Try.prog.cellsOf 22 = 1 := by kernel_rfl
theorem cellsWords : Try.prog.cellsOf 23 = 1 := by kernel_rfl
theorem trod_s3 {H : Type} {enc : TypeId × Value → H} {P : Program} {w : World} {base : Nat} {spare : Nat → Bool} {held : Bool} {t : TypeId} {f0 f1 f2 : Field} {fuel : Nat} {cs : List Value} {x : DataW H × List MemPlace} (ht : P.underlying t = some (.struct #[f0, f1, f2])) (h : DataW.trod enc P w base spare held fuel t cs = some x) :
    ∃ y0 y1 y2 n, x.1 = .agg [y0.1, y1.1, y2.1] ∧ cs.length = P.cellsOf t ∧ DataW.trod enc P w base spare held n f0.type ((cs.drop f0.offset).take (P.cellsOf f0.type)) = some y0 ∧
      DataW.trod enc P w base spare held n f1.type ((cs.drop f1.offset).take (P.cellsOf f1.type)) = some y1 ∧ DataW.trod enc P w base spare held n f2.type ((cs.drop f2.offset).take (P.cellsOf f2.type)) = some y2 := by
  obtain ⟨xs, n, _, rfl, hl, hlen, hf⟩ := DataW.trod_struct ht h
  match xs, hlen with
  | [y0, y1, y2], _ => exact ⟨y0, y1, y2, n, by simp, hl, by simpa using hf 0 f0 rfl, by simpa using hf 1 f1 rfl, by simpa using hf 2 f2 rfl⟩
theorem trod_s4 {H : Type} {enc : TypeId × Value → H} {P : Program} {w : World} {base : Nat} {spare : Nat → Bool} {held : Bool} {t : TypeId} {f0 f1 f2 f3 : Field} {fuel : Nat} {cs : List Value} {x : DataW H × List MemPlace} (ht : P.underlying t = some (.struct #[f0, f1, f2, f3])) (h : DataW.trod enc P w base spare held fuel t cs = some x) :
    ∃ y0 y1 y2 y3 n, x.1 = .agg [y0.1, y1.1, y2.1, y3.1] ∧ cs.length = P.cellsOf t ∧ DataW.trod enc P w base spare held n f0.type ((cs.drop f0.offset).take (P.cellsOf f0.type)) = some y0 ∧
      DataW.trod enc P w base spare held n f1.type ((cs.drop f1.offset).take (P.cellsOf f1.type)) = some y1 ∧ DataW.trod enc P w base spare held n f2.type ((cs.drop f2.offset).take (P.cellsOf f2.type)) = some y2 ∧
      DataW.trod enc P w base spare held n f3.type ((cs.drop f3.offset).take (P.cellsOf f3.type)) = some y3 := by
  obtain ⟨xs, n, _, rfl, hl, hlen, hf⟩ := DataW.trod_struct ht h
  match xs, hlen with
  | [y0, y1, y2, y3], _ => exact ⟨y0, y1, y2, y3, n, by simp, hl, by simpa using hf 0 f0 rfl, by simpa using hf 1 f1 rfl, by simpa using hf 2 f2 rfl, by simpa using hf 3 f3 rfl⟩
theorem open_edge {H : Type} {enc : TypeId × Value → H} {W : World} {fuel : Nat} {cs : List Value} {x : DataW H × List MemPlace} (h : DataW.trod enc Try.prog W 0 (fun _ => true) true fuel 33 cs = some x) : ∃ e : Eg, cs = e.cells := by
  obtain ⟨y0, y1, y2, y3, n, _, hlen, h0, h1, h2, h3⟩ := trod_s4 Try.underlying33 h
  rw [cellsEdge] at hlen
  match cs, hlen with
  | [v0, v1, v2, v3, v4, v5, v6], _ =>
    simp only [cells3, cells31, List.drop_zero, List.drop_succ_cons, List.take_succ_cons, List.take_zero] at h0 h1 h2 h3
    obtain ⟨k, e0, _, _⟩ := DataW.trod_int Try.underlying3 h0
    obtain ⟨f, e1, _, _⟩ := DataW.trod_int Try.underlying3 h1
    obtain ⟨t, e2, _, _⟩ := DataW.trod_int Try.underlying3 h2
    simp only [List.cons.injEq, and_true] at e0 e1 e2
    obtain ⟨s, rfl, rfl, rfl, rfl⟩ := read_set h3
    subst e0 e1 e2
    exact ⟨⟨k, f, t, s⟩, rfl⟩
set_option maxRecDepth 8000 in
theorem open_edges {H : Type} {enc : TypeId × Value → H} {W : World} {fuel : Nat} {v : Value} {x : DataW H × List MemPlace} (h : DataW.trod enc Try.prog W 0 (fun _ => true) true fuel 22 [v] = some x) : ∃ (a : Option Addr) (len cap : Nat) (es : List Eg), v = .slice a len cap ∧ es.length = len ∧ EA W a es ∧ len ≤ cap ∧ (len = 0 ∨ ∃ b off, a = some ⟨b, off, none⟩) := by
  rcases open_slice Try.underlying22 h with ⟨hcs, hx⟩ | ⟨a, len, cap, m, n', D, Pl, hcs, _, hl, hm, hmm, hx, hrow⟩
  · simp only [List.cons.injEq, and_true] at hcs
    exact ⟨none, 0, 0, [], hcs, rfl, Or.inl rfl, Nat.le_refl _, .inl rfl⟩
  · simp only [List.cons.injEq, and_true] at hcs
    have hmc : m = cap := by simpa using hmm
    haveI : Inhabited Eg := ⟨⟨0, 0, 0, fun _ => false⟩⟩
    obtain ⟨F, hF⟩ := choose_lt (α := Eg) (n := len) (p := fun i e => ∀ mm v, e.cells[mm]? = some v → W.cell? (a.add (i * 7 + mm)) = some v) (fun i hi => by
      obtain ⟨cs', g1, g2⟩ := hrow i (by omega)
      rw [cellsEdge] at g1
      obtain ⟨e, he⟩ := open_edge g2
      obtain ⟨_, hlen', hcell⟩ := World.cells?_some g1
      refine ⟨e, fun mm v hv => ?_⟩
      have hmm : mm < 7 := by have := (List.getElem?_eq_some_iff.1 hv).1; simpa [Eg.cells] using this
      have c := hcell mm hmm
      rw [add_add, he] at c
      rw [c]
      exact hv)
    refine ⟨some a, len, cap, (List.range len).map F, hcs, by simp, ?_, hl, ?_⟩
    · by_cases h0 : 0 < len
      · obtain ⟨bb, off, spot⟩ := a
        have hspot : spot = none := by
          have h1 := hF 0 h0 0 _ rfl
          simpa [Addr.add] using World.cell?_spot h1
        subst hspot
        refine Or.inr ⟨bb, off, rfl, trivial, fun j v hj => ?_⟩
        have hjl := (List.getElem?_eq_some_iff.1 hj).1
        rw [flatE_length] at hjl
        simp only [List.length_map, List.length_range] at hjl
        have hi : j / 7 < len := by omega
        have hm7 : j % 7 < 7 := by omega
        have hx7 : ((List.range len).map F)[j / 7]? = some (F (j / 7)) := by simp [hi]
        have e := flatE_at hx7 hm7
        rw [show 7 * (j / 7) + j % 7 = j by omega] at e
        rw [e] at hj
        have := hF (j / 7) hi (j % 7) v hj
        rw [Go.WideShapes.add_plain, show off + (j / 7 * 7 + j % 7) = off + j by omega] at this
        exact this
      · exact Or.inl (by have : len = 0 := by omega
                         simp [this])
    · by_cases h0 : 0 < len
      · obtain ⟨bb, off, spot⟩ := a
        have hspot : spot = none := by
          have h1 := hF 0 h0 0 _ rfl
          simpa [Addr.add] using World.cell?_spot h1
        subst hspot
        exact .inr ⟨bb, off, rfl⟩
      · exact .inl (by omega)
theorem open_nfa {H : Type} {enc : TypeId × Value → H} {W : World} {fuel : Nat} {cs : List Value} {x : DataW H × List MemPlace} (h : DataW.trod enc Try.prog W 0 (fun _ => true) true fuel 25 cs = some x) : ∃ (S : Int) (ea : Option Addr) (en ec : Nat) (ra : Option Addr) (rn rc : Nat) (es : List Eg), cs = [.int .i64 S, .slice ea en ec, .slice ra rn rc] ∧ en = es.length ∧ EA W ea es ∧ en ≤ ec ∧ (en = 0 ∨ ∃ b off, ea = some ⟨b, off, none⟩) := by
  obtain ⟨y0, y1, y2, n, hd, hlen, h0, h1, h2⟩ := trod_s3 Try.underlying25 h
  rw [cellsNFA] at hlen
  match cs, hlen with
  | [v0, v1, v2], _ =>
    simp only [cells3, cellsEdges, cellsWords, List.drop_zero, List.drop_succ_cons, List.take_succ_cons, List.take_zero] at h0 h1 h2
    obtain ⟨S, e0, _, _⟩ := DataW.trod_int Try.underlying3 h0
    simp only [List.cons.injEq, and_true] at e0
    obtain ⟨ea, en, ec, es, rfl, hen, hE, hle, ha⟩ := open_edges h1
    rcases open_slice Try.underlying23 h2 with ⟨hcs, _⟩ | ⟨a2, len2, cap2, _, _, _, _, hcs, _⟩
    · simp only [List.cons.injEq, and_true] at hcs
      subst e0
      subst hcs
      exact ⟨S, ea, en, ec, none, 0, 0, es, rfl, hen.symm, hE, hle, ha⟩
    · simp only [List.cons.injEq, and_true] at hcs
      subst e0
      subst hcs
      exact ⟨S, ea, en, ec, some a2, len2, cap2, es, rfl, hen.symm, hE, hle, ha⟩
end Go.Proofs.Ytemmicnhnaafmaa


namespace Go.Proofs.Ytemmicnhnaafmaa.partSets
open Go.ChangeShapes Go.WideShapes Go.ChangeAt Go.RowKit

theorem contract (H : Type) (enc : TypeId × Value → H) (W : World) (base : Nat) (args : Array Value) (ds gs : List (DataW H)) (before : List MemPlace)
    (hval : ∀ (j : Nat) t v, Try.f3.params[j]? = some t → args[j]? = some v → Value.okWide Try.prog W .any base t v)
    (hW : DataW.Whole enc Try.prog Try.f3.params.toList Rows.partSetsSpec.vars false W args.toList ds gs before)
    (hsz : (DataW.weightsEach Try.prog (Try.f3.params.toList ++ Rows.partSetsSpec.plain.varTypes Try.prog) (ds ++ gs)).all (· ≤ reachBytes) = true) :
    Calls Try.prog 3 args W fun e W' => ∃ v, e = .returned v ∧ Rows.partSetsSpec.post enc Try.prog Try.f3 false true false false W args v W' := by
  have hW' := hW
  obtain ⟨p, q, hA0, hV, rfl, hfz, hnd⟩ := hW
  have hA : DataW.TrodAll enc Try.prog W 0 (fun _ => true) true Try.f3.params.toList args.toList ds p := hA0
  rw [Try.params3] at hA hval hsz
  obtain ⟨v0, vs0, d0, ds0, p0, q0, hargs, rfl, rfl, h0, r0⟩ := trodAll_cons hA
  obtain ⟨rfl, rfl, rfl⟩ := trodAll_nil r0
  obtain rfl : args = #[v0] := by cases args; simp_all
  obtain ⟨rfl, rfl⟩ := trodVars_none hV
  have k0 := h0
  have lt0 : ∀ x ∈ p0, x.block < W.heap.size := by obtain ⟨m, hm⟩ := k0; exact DataW.trod_lt m _ _ _ hm
  have hv0 := hval 0 25 v0 rfl rfl
  simp only [Value.okWide, Try.underlying25] at hv0
  obtain ⟨cs, rfl, hsz0, _⟩ := hv0
  obtain ⟨fuel, hf⟩ := h0
  obtain ⟨S, ea, en, ec, ra, rn, rc, es, hcs, hen, hE, hle, ha⟩ := open_nfa hf
  have hx : cs = #[.int .i64 S, .slice ea en ec, .slice ra rn rc] := by
    have hcs2 : cs.toList = [.int .i64 S, .slice ea en ec, .slice ra rn rc] := hcs
    obtain ⟨l⟩ := cs
    simp only at hcs2
    subst hcs2
    rfl
  subst hx
  clear hA0
  refine (sets_law S ea ra en ec rn rc es W hen hle hE ha).mono fun e W' ⟨he, bel⟩ => ?_
  subst he
  exact ⟨_, rfl, _, _, _, [], _, [], hW', trodAll_mk1 (shut_bool Try.underlying4 _), (trodAll_cons_mk (Below.trod laidOut (by kernel_rfl) (of_decide_eq_true (by kernel_rfl)) k0 bel lt0) trodAll_mk0), rfl, bel.frame _, fun h => by cases h⟩

set_option maxRecDepth 100000 in
theorem lifted (os : Os) (started : os.Started) (H : Type) (enc : TypeId × Value → H) (F : Stop.Interp) :
    ReturnsInHanded {} Try.checked os 3 .any ((OpenSpec.ofChange Rows.partSetsSpec).preRow enc Try.prog Try.f3 Rows.partSetsRow.domain false Rows.partSetsRow.laid) (((OpenSpec.ofChange Rows.partSetsSpec).at F).post enc Try.prog Try.f3 false true false false) := by
  refine returnsInHanded_of_row (C := Try.checked) (s := OpenSpec.ofChange Rows.partSetsSpec) own started (by kernel_rfl) Try.func3
    (witness_row_at (enc := enc) (C := Try.checked) false (World.holding Try.prog os ⟨#[], #[], []⟩)
      #[.agg #[.int .i64 0, .slice none 0 0, .slice none 0 0]] rfl (by kernel_rfl) (by kernel_rfl) (by kernel_rfl)
      (OpenSpec.preRow_of_cond 8 (x := ([.agg [.lit (.int .i64 0), .nil, .nil]], [], [])) (by kernel_rfl) (by kernel_rfl) (fun k hk => by cases hk) (by kernel_rfl) (laidMet_of_run' 8 (by kernel_rfl) (by kernel_rfl)))) ?_
  intro W base args ds gs before hval hW _ _ hsz _ _ _
  exact contract H enc W base args ds gs before hval hW hsz

theorem said : Rows.PartSetsSaid :=
  OpenClaim.holds_of_cond 3 Try.f3 rfl rfl rfl rfl rfl rfl rfl ⟨rfl, rfl, rfl, rfl, rfl⟩ rfl rfl rfl rfl rfl (by kernel_rfl) Try.func3 (by kernel_rfl)
    (of_decide_eq_true (by kernel_rfl)) (by unfold Func.isWrapper; first | (rw [if_pos (by decide +kernel)]; kernel_rfl) | (rw [if_neg (by decide +kernel)]; exact ⟨rfl, rfl⟩))
    (fun os started H enc _ F => by rw [OpenClaim.pre_eq_preRow]; exact lifted os started H enc F)
end Go.Proofs.Ytemmicnhnaafmaa.partSets

namespace Go.Proofs.Ytemmicnhnaafmaa
/-- THE FIRST FORM OF PartSets. -/
theorem partSets_said : Rows.PartSetsSaid := partSets.said
end Go.Proofs.Ytemmicnhnaafmaa
