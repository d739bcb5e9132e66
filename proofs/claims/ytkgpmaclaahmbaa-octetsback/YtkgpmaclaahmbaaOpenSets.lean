/- From the row's own conditions to what the walks ask: a set that came in by value; a slice of sets. -/
import Derived.Test.YtkgpmaclaahmbaaOpen
import Derived.Test.YtkgpmaclaahmbaaGen
import Derived.Laws.IdiomArrays
import Derived.Lib.SmallJoins
namespace Go.Proofs.Ytkgpmaclaahmbaa
open Go.ChangeShapes Go.WideShapes Go.ChangeAt Go.RowKit Go.Deep

theorem cells24 : Try.prog.cellsOf 24 = 4 := by kernel_rfl
theorem cells22 : Try.prog.cellsOf 22 = 1 := by kernel_rfl
theorem bounds_u64 {n : Int} (h : (Lit.int .u64 n).wf = true) : 0 ≤ n ∧ n < 18446744073709551616 := by
  have h : 0 ≤ n ∧ n ≤ 18446744073709551615 := by simpa [Lit.wf, IntKind.min, IntKind.max, IntKind.signed, IntKind.bits] using h
  omega
theorem four {α : Type} {l : List α} (h : l.length = 4) : ∃ a b c d, l = [a, b, c, d] := by
  match l, h with
  | [a, b, c, d], _ => exact ⟨a, b, c, d, rfl⟩
/-- four words read are a set's -/
theorem read_set {H : Type} {enc : TypeId × Value → H} {W : World} {n : Nat} {v0 v1 v2 v3 : Value} {x : DataW H × List MemPlace} {spare : Nat → Bool}
    (h : DataW.trod enc Try.prog W 0 spare true n 24 [v0, v1, v2, v3] = some x) :
    ∃ s : Oct.S, v0 = .int .u64 (Oct.word s 0 : Nat) ∧ v1 = .int .u64 (Oct.word s 1 : Nat) ∧ v2 = .int .u64 (Oct.word s 2 : Nat) ∧ v3 = .int .u64 (Oct.word s 3 : Nat) := by
  obtain ⟨y0, y1, y2, y3, m, _, h0, h1, h2, h3⟩ := trod_array4 Try.underlying24 cells22 h
  obtain ⟨x0, e0, _, w0⟩ := DataW.trod_int Try.underlying22 h0
  obtain ⟨x1, e1, _, w1⟩ := DataW.trod_int Try.underlying22 h1
  obtain ⟨x2, e2, _, w2⟩ := DataW.trod_int Try.underlying22 h2
  obtain ⟨x3, e3, _, w3⟩ := DataW.trod_int Try.underlying22 h3
  simp only [List.cons.injEq, and_true] at e0 e1 e2 e3
  obtain ⟨a0, b0⟩ := bounds_u64 w0
  obtain ⟨a1, b1⟩ := bounds_u64 w1
  obtain ⟨a2, b2⟩ := bounds_u64 w2
  obtain ⟨a3, b3⟩ := bounds_u64 w3
  obtain ⟨X0, rfl⟩ := Int.eq_ofNat_of_zero_le a0
  obtain ⟨X1, rfl⟩ := Int.eq_ofNat_of_zero_le a1
  obtain ⟨X2, rfl⟩ := Int.eq_ofNat_of_zero_le a2
  obtain ⟨X3, rfl⟩ := Int.eq_ofNat_of_zero_le a3
  refine ⟨Oct.ofWords X0 X1 X2 X3, ?_, ?_, ?_, ?_⟩
  · rw [← Oct.ofWords0 X0 X1 X2 X3 (by omega)]; exact e0
  · rw [← Oct.ofWords1 X0 X1 X2 X3 (by omega)]; exact e1
  · rw [← Oct.ofWords2 X0 X1 X2 X3 (by omega)]; exact e2
  · rw [← Oct.ofWords3 X0 X1 X2 X3 (by omega)]; exact e3
/-- A SET THAT CAME IN BY VALUE. -/
theorem open_set {H : Type} {enc : TypeId × Value → H} {W : World} {r : Reach} {b0 : Nat} {v : Value} {d : DataW H} {p : List MemPlace} (hv : Value.okWide Try.prog W r b0 24 v) (h : DataW.Trod enc Try.prog W 0 (fun _ => true) true 24 v d p) : ∃ s : Oct.S, v = setV s := by
  simp only [Value.okWide, Try.underlying24] at hv
  obtain ⟨cs, rfl, hsz, _⟩ := hv
  obtain ⟨c0, c1, c2, c3, e⟩ := four (l := cs.toList) (by rw [Array.length_toList]; exact hsz.trans cells24)
  have ec : cs = #[c0, c1, c2, c3] := by cases cs; simp_all
  subst ec
  obtain ⟨fuel, hf⟩ := h
  obtain ⟨s, rfl, rfl, rfl, rfl⟩ := read_set hf
  exact ⟨s, rfl⟩
theorem open_sets {H : Type} {enc : TypeId × Value → H} {W : World} {a : Option Addr} {len cap : Nat} {d : DataW H} {p : List MemPlace}
    (h : DataW.Trod enc Try.prog W 0 (fun _ => true) true 26 (.slice a len cap) d p) :
    ∃ l : List Oct.S, len = l.length ∧ len ≤ cap ∧ SetsAt W a l ∧ ((cap = 0 ∧ d = .nil) ∨ ∃ elems spare, d = .slice elems spare ∧ elems.length + spare.length = cap ∧ elems.length = len) := by
  obtain ⟨fuel, hf⟩ := h
  rcases open_slice Try.underlying26 hf with ⟨hcs, hx⟩ | ⟨x, l, c, m, n, D, Pl, hcs, _, hl, hm, hmm, hx, hrow⟩
  · simp [Value.cells] at hcs
    obtain ⟨rfl, rfl, rfl⟩ := hcs
    cases hx
    exact ⟨[], rfl, Nat.le_refl _, Or.inl rfl, Or.inl ⟨rfl, rfl⟩⟩
  · simp [Value.cells] at hcs
    obtain ⟨rfl, rfl, rfl⟩ := hcs
    cases hx
    have hmc : m = cap := by simpa using hmm
    haveI : Inhabited Oct.S := ⟨Oct.none⟩
    obtain ⟨I, hI⟩ := choose_lt (α := Oct.S) (n := len) (p := fun i s => W.cell? (x.add (i * 4)) = some (.int .u64 (Oct.word s 0 : Nat)) ∧ W.cell? (x.add (i * 4 + 1)) = some (.int .u64 (Oct.word s 1 : Nat)) ∧ W.cell? (x.add (i * 4 + 2)) = some (.int .u64 (Oct.word s 2 : Nat)) ∧ W.cell? (x.add (i * 4 + 3)) = some (.int .u64 (Oct.word s 3 : Nat))) (fun i hi => by
      obtain ⟨cs', h1, h2⟩ := hrow i (by omega)
      rw [cells24] at h1
      obtain ⟨_, hlen, hcell⟩ := World.cells?_some h1
      obtain ⟨v0, v1, v2, v3, rfl⟩ := four hlen
      obtain ⟨s, rfl, rfl, rfl, rfl⟩ := read_set h2
      have c0 := hcell 0 (by omega)
      have c1 := hcell 1 (by omega)
      have c2 := hcell 2 (by omega)
      have c3 := hcell 3 (by omega)
      rw [add_add] at c0 c1 c2 c3
      exact ⟨s, c0, c1, c2, c3⟩)
    refine ⟨(List.range len).map I, by simp, hl, ?_, Or.inr ⟨_, _, rfl, ?_, ?_⟩⟩
    · by_cases h0 : 0 < len
      · obtain ⟨b, off, spot⟩ := x
        have hspot : spot = none := by
          have h1 := (hI 0 h0).1
          simpa [Addr.add] using World.cell?_spot h1
        subst hspot
        refine Or.inr ⟨b, off, rfl, fun k s hk => ?_⟩
        have hk' : k < len := by
          have := (List.getElem?_eq_some_iff.1 hk).1
          simpa using this
        have hit : I k = s := by
          simp [hk'] at hk
          exact hk
        have hr := hI k hk'
        rw [hit] at hr
        simp only [Go.WideShapes.add_plain] at hr
        exact hr
      · exact Or.inl (by have : len = 0 := by omega
                         simp [this])
    · simp
      omega
    · simp
/-- A slice of sets that came in is no longer than the reach. -/
theorem reach_sets {H : Type} {ts : List TypeId} {ds : List (DataW H)} (h : (DataW.weightsEach Try.prog ts ds).all (· ≤ reachBytes) = true) {j : Nat} {d : DataW H} {cap len : Nat} (ht : ts[j]? = some 26) (hd : ds[j]? = some d)
    (hc : (cap = 0 ∧ d = .nil) ∨ ∃ elems spare, d = .slice elems spare ∧ elems.length + spare.length = cap ∧ elems.length = len) : cap ≤ 4398046510976 := by
  rcases hc with ⟨h0, _⟩ | ⟨elems, spare, rfl, hl, _⟩
  · omega
  · have h1 := sized_slice h ht hd Try.underlying26
    have h2 : Try.prog.bytesOf 24 = 32 := by kernel_rfl
    rw [h2, hl] at h1
    have h3 : reachBytes = 140737488351232 := by decide
    omega
end Go.Proofs.Ytkgpmaclaahmbaa
