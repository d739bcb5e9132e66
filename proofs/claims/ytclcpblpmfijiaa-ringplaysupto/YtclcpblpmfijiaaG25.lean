/- From the row's own conditions to what the walks ask: the ops of an argument, numbers that came in. -/
import Derived.Test.YtclcpblpmfijiaaG05
import Derived.ProofKit
import Derived.OpenShut
import Derived.ShutString
import Derived.ChangeOld
import Derived.SizedLaws
import Derived.JoinedCond
import Derived.Deep.DeepHandedRow
import Derived.Lib.SmallJoins
import Derived.Deep.Slices
namespace Go.Proofs.Ytclcpblpmfijiaa
open Go.ChangeShapes Go.WideShapes Go.ChangeAt Go.RowKit Go.Deep Rg

theorem own : ownKnob Try.prog.godebug = none := by kernel_rfl
theorem laidOut : laidOutB Try.prog = true := by kernel_rfl
theorem cells3 : Try.prog.cellsOf 3 = 1 := by kernel_rfl
theorem cells9 : Try.prog.cellsOf 9 = 1 := by kernel_rfl
theorem cells4 : Try.prog.cellsOf 4 = 1 := by kernel_rfl
theorem cellsRow : Try.prog.cellsOf 43 = 1 := by kernel_rfl
theorem bytes3 : Try.prog.bytesOf 3 = 8 := by kernel_rfl
theorem bounds_n {n : Int} (h : (Lit.int .i64 n).wf = true) : goodI n := by
  have h : -9223372036854775808 ≤ n ∧ n ≤ 9223372036854775807 := by simpa [Lit.wf, IntKind.min, IntKind.max, IntKind.signed, IntKind.bits] using h
  exact h
section
variable {H : Type} {enc : TypeId × Value → H} {W : World}
/-- what a datum weighs at most -/
def Wt (t : TypeId) (d : DataW H) : Prop := ∀ n ∈ d.weights Try.prog t, n ≤ reachBytes
theorem wt_of {ts : List TypeId} {ds : List (DataW H)} (h : (DataW.weightsEach Try.prog ts ds).all (· ≤ reachBytes) = true) {j : Nat} {t : TypeId} {d : DataW H} (ht : ts[j]? = some t) (hd : ds[j]? = some d) : Wt t d := fun n hn => by
  have := List.all_eq_true.1 h _ (DataW.weights_mem_each ht hd n hn)
  simpa using this
theorem mem_weightsAll {e : TypeId} : ∀ {l : List (DataW H)} {d : DataW H}, d ∈ l → ∀ n ∈ d.weights Try.prog e, n ∈ DataW.weightsAll Try.prog e l
  | [], d, h, _, _ => by simp at h
  | x :: r, d, h, n, hn => by
    simp only [DataW.weightsAll, List.mem_append]
    rcases List.mem_cons.1 h with rfl | h
    · exact .inl hn
    · exact .inr (mem_weightsAll h n hn)
theorem Wt.slice {t e : TypeId} {es sp : List (DataW H)} (h : Wt t (.slice es sp)) (hu : Try.prog.underlying t = some (.slice e)) : (es.length + sp.length) * Try.prog.bytesOf e ≤ reachBytes ∧ ∀ d ∈ es, Wt e d := by
  refine ⟨h _ (by simp [DataW.weights, hu]), fun d hd n hn => h n ?_⟩
  simp only [DataW.weights, hu, List.mem_cons, List.mem_append]
  exact .inr (.inl (mem_weightsAll hd n hn))
theorem Wt.part {t : TypeId} {fs : Array Field} {ps : List (DataW H)} (h : Wt t (.agg ps)) (hu : Try.prog.underlying t = some (.struct fs)) {j : Nat} {f : Field} {d : DataW H} (hf : fs[j]? = some f) (hd : ps[j]? = some d) : Wt f.type d := fun n hn => by
  refine h n ?_
  simp only [DataW.weights, hu]
  exact DataW.weights_mem_each (j := j) (by simp [hf]) hd n hn
/-- numbers that came in -/
theorem open_ints {fuel : Nat} {v : Value} {x : DataW H × List MemPlace} (h : DataW.trod enc Try.prog W 0 (fun _ => true) true fuel 43 [v] = some x) (hw : Wt 43 x.1) : ∃ r : List Int, LAt W v (ints r) ∧ r.length ≤ 17592186043904 ∧ ∀ z ∈ r, goodI z := by
  rcases open_slice1 Try.underlying43 cells3 h with ⟨hcs, hx⟩ | ⟨a, len, cap, m, n, V, D, Pl, hcs, _, hl, hm, hmm, hx, hrow⟩
  · simp only [List.cons.injEq, and_true] at hcs
    subst hcs
    exact ⟨[], lat_nil W, by simp, fun z hz => by simp at hz⟩
  · simp only [List.cons.injEq, and_true] at hcs
    have hmc : m = cap := by simpa using hmm
    obtain ⟨f, hf⟩ := choose_lt (α := Int) (n := len) (p := fun i z => W.cell? (a.add i) = some (.int .i64 z) ∧ goodI z) (fun i hi => by
      obtain ⟨c1, c2⟩ := hrow i (by omega)
      obtain ⟨k, e0, _, w0⟩ := DataW.trod_int Try.underlying3 c2
      simp only [List.cons.injEq, and_true] at e0
      rw [e0] at c1
      exact ⟨k, c1, bounds_n w0⟩)
    refine ⟨(List.range len).map f, ⟨some a, cap, by rw [hcs]; simp [ints], by simpa [ints] using hl, by unfold maxLen at hm; omega, ?_⟩, ?_, fun z hz => ?_⟩
    · by_cases h0 : 0 < len
      · obtain ⟨bb, off, spot⟩ := a
        have hspot : spot = none := by
          have h1 := (hf 0 h0).1
          simpa [Addr.add] using World.cell?_spot h1
        subst hspot
        refine .inr ⟨bb, off, rfl, fun k v hv => ?_⟩
        have hk : k < len := by
          have := (List.getElem?_eq_some_iff.1 hv).1
          simpa [ints] using this
        simp [ints, hk] at hv
        subst hv
        have := (hf k hk).1
        rw [Go.WideShapes.add_plain] at this
        exact this
      · exact .inl (by have : len = 0 := by omega
                       simp [this, ints])
    · rw [hx] at hw
      have h1 := (hw.slice Try.underlying43).1
      rw [bytes3] at h1
      simp only [List.length_map, List.length_range] at h1 ⊢
      have h3 : reachBytes = 140737488351232 := by decide
      omega
    · obtain ⟨i, hi, rfl⟩ := List.mem_map.1 hz
      exact (hf i (by simpa using hi)).2
end
end Go.Proofs.Ytclcpblpmfijiaa
