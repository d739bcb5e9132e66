/- From the row's own conditions to what the walks ask: the ops of an argument, numbers that came in. -/
import Derived.Test.YtpikepifhnkmkaaG52
import Derived.ProofKit
import Derived.OpenShut
import Derived.ShutString
import Derived.ChangeOld
import Derived.SizedLaws
import Derived.JoinedCond
import Derived.Deep.DeepHandedRow
import Derived.Lib.SmallJoins
import Derived.Deep.Slices
namespace Go.Proofs.Ytpikepifhnkmkaa
open Go.ChangeShapes Go.WideShapes Go.ChangeAt Go.RowKit Go.Deep Sf Fo

theorem own : ownKnob Try.prog.godebug = none := by kernel_rfl
theorem laidOut : laidOutB Try.prog = true := by kernel_rfl
theorem cells3 : Try.prog.cellsOf 3 = 1 := by kernel_rfl
theorem cells9 : Try.prog.cellsOf 9 = 1 := by kernel_rfl
theorem cellsRow : Try.prog.cellsOf 51 = 1 := by kernel_rfl
theorem cellsOp : Try.prog.cellsOf 53 = 15 := by kernel_rfl
theorem bytes3 : Try.prog.bytesOf 3 = 8 := by kernel_rfl
theorem bytesOp : Try.prog.bytesOf 53 = 160 := by kernel_rfl
theorem bounds_n {n : Int} (h : (Lit.int .i64 n).wf = true) : goodI n := by
  have h : -9223372036854775808 ≤ n ∧ n ≤ 9223372036854775807 := by simpa [Lit.wf, IntKind.min, IntKind.max, IntKind.signed, IntKind.bits] using h
  exact h
section
variable {H : Type} {enc : TypeId × Value → H} {W : World}
/-- what a datum weighs at most -/
def Wt (t : TypeId) (d : DataW H) : Prop := ∀ n ∈ d.weights Try.prog t, n ≤ reachBytes
theorem wt_of {ts : List TypeId} {ds : List (DataW H)} (h : (DataW.weightsEach Try.prog ts ds).all (· ≤ reachBytes) = true) {j : Nat} {t : TypeId} {d : DataW H} (ht : ts[j]? = some t) (hd : ds[j]? = some d) : Wt t d := fun n hn => by
  have := List.all_eq_true.1 h _ (DataW.weights_mem_each ht hd n hn)
  simpa using this
theorem mem_weightsAll {e : TypeId} : ∀ {l : List (DataW H)} {d : DataW H}, d ∈ l → ∀ n ∈ d.weights Try.prog e, n ∈ DataW.weightsAll Try.prog e l
  | [], d, h, _, _ => by simp at h
  | x :: r, d, h, n, hn => by
    simp only [DataW.weightsAll, List.mem_append]
    rcases List.mem_cons.1 h with rfl | h
    · exact .inl hn
    · exact .inr (mem_weightsAll h n hn)
theorem Wt.slice {t e : TypeId} {es sp : List (DataW H)} (h : Wt t (.slice es sp)) (hu : Try.prog.underlying t = some (.slice e)) : (es.length + sp.length) * Try.prog.bytesOf e ≤ reachBytes ∧ ∀ d ∈ es, Wt e d := by
  refine ⟨h _ (by simp [DataW.weights, hu]), fun d hd n hn => h n ?_⟩
  simp only [DataW.weights, hu, List.mem_cons, List.mem_append]
  exact .inr (.inl (mem_weightsAll hd n hn))
theorem Wt.part {t : TypeId} {fs : Array Field} {ps : List (DataW H)} (h : Wt t (.agg ps)) (hu : Try.prog.underlying t = some (.struct fs)) {j : Nat} {f : Field} {d : DataW H} (hf : fs[j]? = some f) (hd : ps[j]? = some d) : Wt f.type d := fun n hn => by
  refine h n ?_
  simp only [DataW.weights, hu]
  exact DataW.weights_mem_each (j := j) (by simp [hf]) hd n hn
/-- numbers that came in -/
theorem open_ints {fuel : Nat} {v : Value} {x : DataW H × List MemPlace} (h : DataW.trod enc Try.prog W 0 (fun _ => true) true fuel 51 [v] = some x) (hw : Wt 51 x.1) : ∃ r : List Int, LAt W v (ints r) ∧ r.length ≤ 17592186043904 ∧ ∀ z ∈ r, goodI z := by
  rcases open_slice1 Try.underlying51 cells3 h with ⟨hcs, hx⟩ | ⟨a, len, cap, m, n, V, D, Pl, hcs, _, hl, hm, hmm, hx, hrow⟩
  · simp only [List.cons.injEq, and_true] at hcs
    subst hcs
    exact ⟨[], lat_nil W, by simp, fun z hz => by simp at hz⟩
  · simp only [List.cons.injEq, and_true] at hcs
    have hmc : m = cap := by simpa using hmm
    obtain ⟨f, hf⟩ := choose_lt (α := Int) (n := len) (p := fun i z => W.cell? (a.add i) = some (.int .i64 z) ∧ goodI z) (fun i hi => by
      obtain ⟨c1, c2⟩ := hrow i (by omega)
      obtain ⟨k, e0, _, w0⟩ := DataW.trod_int Try.underlying3 c2
      simp only [List.cons.injEq, and_true] at e0
      rw [e0] at c1
      exact ⟨k, c1, bounds_n w0⟩)
    refine ⟨(List.range len).map f, ⟨some a, cap, by rw [hcs]; simp [ints], by simpa [ints] using hl, by unfold maxLen at hm; omega, ?_⟩, ?_, fun z hz => ?_⟩
    · by_cases h0 : 0 < len
      · obtain ⟨bb, off, spot⟩ := a
        have hspot : spot = none := by
          have h1 := (hf 0 h0).1
          simpa [Addr.add] using World.cell?_spot h1
        subst hspot
        refine .inr ⟨bb, off, rfl, fun k v hv => ?_⟩
        have hk : k < len := by
          have := (List.getElem?_eq_some_iff.1 hv).1
          simpa [ints] using this
        simp [ints, hk] at hv
        subst hv
        have := (hf k hk).1
        rw [Go.WideShapes.add_plain] at this
        exact this
      · exact .inl (by have : len = 0 := by omega
                       simp [this, ints])
    · rw [hx] at hw
      have h1 := (hw.slice Try.underlying51).1
      rw [bytes3] at h1
      simp only [List.length_map, List.length_range] at h1 ⊢
      have h3 : reachBytes = 140737488351232 := by decide
      omega
    · obtain ⟨i, hi, rfl⟩ := List.mem_map.1 hz
      exact (hf i (by simpa using hi)).2
theorem trod_s5 {P : Program} {w : World} {base : Nat} {spare : Nat → Bool} {held : Bool} {t : TypeId} {f0 f1 f2 f3 f4 : Field} {fuel : Nat} {cs : List Value} {x : DataW H × List MemPlace} (ht : P.underlying t = some (.struct #[f0, f1, f2, f3, f4])) (h : DataW.trod enc P w base spare held fuel t cs = some x) :
    ∃ y0 y1 y2 y3 y4 n, x.1 = .agg [y0.1, y1.1, y2.1, y3.1, y4.1] ∧ cs.length = P.cellsOf t ∧ DataW.trod enc P w base spare held n f0.type ((cs.drop f0.offset).take (P.cellsOf f0.type)) = some y0 ∧ DataW.trod enc P w base spare held n f1.type ((cs.drop f1.offset).take (P.cellsOf f1.type)) = some y1 ∧ DataW.trod enc P w base spare held n f2.type ((cs.drop f2.offset).take (P.cellsOf f2.type)) = some y2 ∧ DataW.trod enc P w base spare held n f3.type ((cs.drop f3.offset).take (P.cellsOf f3.type)) = some y3 ∧ DataW.trod enc P w base spare held n f4.type ((cs.drop f4.offset).take (P.cellsOf f4.type)) = some y4 := by
  obtain ⟨xs, n, _, rfl, hl, hlen, hf⟩ := DataW.trod_struct ht h
  match xs, hlen with
  | [y0, y1, y2, y3, y4], _ => exact ⟨y0, y1, y2, y3, y4, n, by simp, hl, by simpa using hf 0 f0 rfl, by simpa using hf 1 f1 rfl, by simpa using hf 2 f2 rfl, by simpa using hf 3 f3 rfl, by simpa using hf 4 f4 rfl⟩
theorem trod_s7 {P : Program} {w : World} {base : Nat} {spare : Nat → Bool} {held : Bool} {t : TypeId} {f0 f1 f2 f3 f4 f5 f6 : Field} {fuel : Nat} {cs : List Value} {x : DataW H × List MemPlace} (ht : P.underlying t = some (.struct #[f0, f1, f2, f3, f4, f5, f6])) (h : DataW.trod enc P w base spare held fuel t cs = some x) :
    ∃ y0 y1 y2 y3 y4 y5 y6 n, x.1 = .agg [y0.1, y1.1, y2.1, y3.1, y4.1, y5.1, y6.1] ∧ cs.length = P.cellsOf t ∧ DataW.trod enc P w base spare held n f0.type ((cs.drop f0.offset).take (P.cellsOf f0.type)) = some y0 ∧ DataW.trod enc P w base spare held n f1.type ((cs.drop f1.offset).take (P.cellsOf f1.type)) = some y1 ∧ DataW.trod enc P w base spare held n f2.type ((cs.drop f2.offset).take (P.cellsOf f2.type)) = some y2 ∧ DataW.trod enc P w base spare held n f3.type ((cs.drop f3.offset).take (P.cellsOf f3.type)) = some y3 ∧ DataW.trod enc P w base spare held n f4.type ((cs.drop f4.offset).take (P.cellsOf f4.type)) = some y4 ∧ DataW.trod enc P w base spare held n f5.type ((cs.drop f5.offset).take (P.cellsOf f5.type)) = some y5 ∧ DataW.trod enc P w base spare held n f6.type ((cs.drop f6.offset).take (P.cellsOf f6.type)) = some y6 := by
  obtain ⟨xs, n, _, rfl, hl, hlen, hf⟩ := DataW.trod_struct ht h
  match xs, hlen with
  | [y0, y1, y2, y3, y4, y5, y6], _ => exact ⟨y0, y1, y2, y3, y4, y5, y6, n, by simp, hl, by simpa using hf 0 f0 rfl, by simpa using hf 1 f1 rfl, by simpa using hf 2 f2 rfl, by simpa using hf 3 f3 rfl, by simpa using hf 4 f4 rfl, by simpa using hf 5 f5 rfl, by simpa using hf 6 f6 rfl⟩
theorem five {α : Type} {l : List α} (h : l.length = 5) : ∃ a0 a1 a2 a3 a4, l = [a0, a1, a2, a3, a4] := by
  match l, h with
  | [a0, a1, a2, a3, a4], _ => exact ⟨a0, a1, a2, a3, a4, rfl⟩
theorem nine {α : Type} {l : List α} (h : l.length = 9) : ∃ a0 a1 a2 a3 a4 a5 a6 a7 a8, l = [a0, a1, a2, a3, a4, a5, a6, a7, a8] := by
  match l, h with
  | [a0, a1, a2, a3, a4, a5, a6, a7, a8], _ => exact ⟨a0, a1, a2, a3, a4, a5, a6, a7, a8, rfl⟩
theorem fifteen {α : Type} {l : List α} (h : l.length = 15) : ∃ a0 a1 a2 a3 a4 a5 a6 a7 a8 a9 a10 a11 a12 a13 a14, l = [a0, a1, a2, a3, a4, a5, a6, a7, a8, a9, a10, a11, a12, a13, a14] := by
  match l, h with
  | [a0, a1, a2, a3, a4, a5, a6, a7, a8, a9, a10, a11, a12, a13, a14], _ => exact ⟨a0, a1, a2, a3, a4, a5, a6, a7, a8, a9, a10, a11, a12, a13, a14, rfl⟩
theorem cellsLoss : Try.prog.cellsOf 35 = 5 := by kernel_rfl
theorem cellsMark : Try.prog.cellsOf 37 = 9 := by kernel_rfl
/-- a mark that came in -/
theorem open_mark {fuel : Nat} {cs : List Value} {x : DataW H × List MemPlace} (h : DataW.trod enc Try.prog W 0 (fun _ => true) true fuel 37 cs = some x) : ∃ m : Mrk, cs = mkC m := by
  obtain ⟨y0, y1, y2, y3, y4, n, hx, hlen, g0, g1, g2, g3, g4⟩ := trod_s5 Try.underlying37 h
  rw [cellsMark] at hlen
  obtain ⟨v0, v1, v2, v3, v4, v5, v6, v7, v8, rfl⟩ := nine hlen
  simp only [cells3, cellsLoss, List.drop_zero, List.drop_succ_cons, List.take_succ_cons, List.take_zero] at g0 g1 g2 g3 g4
  obtain ⟨k0, e0, _, _⟩ := DataW.trod_int Try.underlying3 g0
  obtain ⟨k1, e1, _, _⟩ := DataW.trod_int Try.underlying3 g1
  obtain ⟨k2, e2, _, _⟩ := DataW.trod_int Try.underlying3 g2
  obtain ⟨k3, e3, _, _⟩ := DataW.trod_int Try.underlying3 g3
  obtain ⟨z0, z1, z2, z3, z4, n2, _, _, q0, q1, q2, q3, q4⟩ := trod_s5 Try.underlying35 g4
  simp only [cells3, List.drop_zero, List.drop_succ_cons, List.take_succ_cons, List.take_zero] at q0 q1 q2 q3 q4
  obtain ⟨k4, e4, _, _⟩ := DataW.trod_int Try.underlying3 q0
  obtain ⟨k5, e5, _, _⟩ := DataW.trod_int Try.underlying3 q1
  obtain ⟨k6, e6, _, _⟩ := DataW.trod_int Try.underlying3 q2
  obtain ⟨k7, e7, _, _⟩ := DataW.trod_int Try.underlying3 q3
  obtain ⟨k8, e8, _, _⟩ := DataW.trod_int Try.underlying3 q4
  simp only [List.cons.injEq, and_true] at e0 e1 e2 e3 e4 e5 e6 e7 e8
  subst e0 e1 e2 e3 e4 e5 e6 e7 e8
  exact ⟨⟨k0, k1, k2, k3, k4, k5, k6, k7, k8⟩, rfl⟩
/-- an op that came in -/
theorem open_op {fuel : Nat} {cs : List Value} {x : DataW H × List MemPlace} (h : DataW.trod enc Try.prog W 0 (fun _ => true) true fuel 53 cs = some x) (hw : Wt 53 x.1) : ∃ o : Op7, cs = o.cells.toList ∧ Op7Good W o := by
  have hu := Try.underlying53
  obtain ⟨y0, y1, y2, y3, y4, y5, y6, n, hx, hlen, g0, g1, g2, g3, g4, g5, g6⟩ := trod_s7 hu h
  rw [cellsOp] at hlen
  rw [hx] at hw
  obtain ⟨v0, v1, v2, v3, v4, v5, v6, v7, v8, v9, v10, v11, v12, v13, v14, rfl⟩ := fifteen hlen
  simp only [cells3, cells9, cellsRow, cellsMark, List.drop_zero, List.drop_succ_cons, List.take_succ_cons, List.take_zero] at g0 g1 g2 g3 g4 g5 g6
  obtain ⟨k0, e0, _, w0⟩ := DataW.trod_int Try.underlying3 g0
  obtain ⟨s1, e1, _, w1⟩ := DataW.trod_string Try.underlying9 g1
  obtain ⟨s2, e2, _, w2⟩ := DataW.trod_string Try.underlying9 g2
  obtain ⟨s3, e3, _, w3⟩ := DataW.trod_string Try.underlying9 g3
  obtain ⟨r, hr, hl, hz⟩ := open_ints g4 (Wt.part hw hu (j := 4) rfl rfl)
  obtain ⟨k5, e5, _, w5⟩ := DataW.trod_int Try.underlying3 g5
  obtain ⟨m, e6⟩ := open_mark g6
  simp only [List.cons.injEq, and_true] at e0 e1 e2 e3 e5
  subst e0 e1 e2 e3 e5
  unfold mkC at e6
  simp only [List.cons.injEq, and_true] at e6
  obtain ⟨rfl, rfl, rfl, rfl, rfl, rfl, rfl, rfl, rfl⟩ := e6
  exact ⟨⟨⟨k0, s1, s2, s3, r⟩, v4, k5, m⟩, rfl, ⟨⟨w1, w2, w3, hz⟩, hr, hl, bounds_n w5⟩⟩
/-- THE OPS THAT CAME IN. -/
theorem open_ops {v : Value} {d : DataW H} {p : List MemPlace} (h : DataW.Trod enc Try.prog W 0 (fun _ => true) true 50 v d p) (hw : Wt 50 d) (hv : ∃ a len cap, v = .slice a len cap) : ∃ (a : Option Addr) (c : Nat) (ops : List Op7), v = .slice a ops.length c ∧ OpsA W a ops := by
  obtain ⟨a0, len0, cap0, rfl⟩ := hv
  obtain ⟨fuel, hf⟩ := h
  rcases open_slice Try.underlying50 hf with ⟨hcs, hx⟩ | ⟨a, len, cap, m, n, D, Pl, hcs, _, hl, hm, hmm, hx, hrow⟩
  · simp [Value.cells] at hcs
    obtain ⟨rfl, rfl, rfl⟩ := hcs
    exact ⟨none, 0, [], rfl, .inl rfl, fun o ho => by simp at ho, by simp⟩
  · simp [Value.cells] at hcs
    obtain ⟨rfl, rfl, rfl⟩ := hcs
    obtain rfl : d = _ := (Prod.mk.inj hx).1
    have hmc : m = cap0 := by simpa using hmm
    obtain ⟨hby, hel⟩ := hw.slice Try.underlying50
    rw [bytesOp] at hby
    simp only [List.length_map, List.length_range] at hby
    haveI : Inhabited Op7 := ⟨⟨⟨0, ⟨#[]⟩, ⟨#[]⟩, ⟨#[]⟩, []⟩, nilV, 0, zeroM⟩⟩
    obtain ⟨I, hI⟩ := choose_lt (α := Op7) (n := len0) (p := fun i o => (∀ k v, o.cells[k]? = some v → W.cell? (a.add (i * 15 + k)) = some v) ∧ Op7Good W o) (fun i hi => by
      obtain ⟨cs', g1, g2⟩ := hrow i (by omega)
      rw [cellsOp] at g1
      obtain ⟨o, he, hg⟩ := open_op g2 (hel (D i) (List.mem_map.2 ⟨i, by simpa using hi, rfl⟩))
      obtain ⟨_, hlen', hcell⟩ := World.cells?_some g1
      refine ⟨o, fun k v hv => ?_, hg⟩
      have hk : k < 15 := by have := (Array.getElem?_eq_some_iff.1 hv).1; exact this
      have c := hcell k hk
      rw [add_add, he] at c
      rw [c]
      simpa using hv)
    refine ⟨some a, cap0, (List.range len0).map I, by simp, ?_, fun o ho => ?_, ?_⟩
    · by_cases h0 : 0 < len0
      · obtain ⟨bb, off, spot⟩ := a
        have hspot : spot = none := by
          have h1 := (hI 0 h0).1 0 _ rfl
          simpa [Addr.add] using World.cell?_spot h1
        subst hspot
        refine .inr ⟨bb, off, rfl, fun i o hi k v hv => ?_⟩
        have hk : i < len0 := by
          have := (List.getElem?_eq_some_iff.1 hi).1
          simpa using this
        simp [hk] at hi
        subst hi
        have := (hI i hk).1 k v hv
        rw [Go.WideShapes.add_plain] at this
        rw [Nat.add_assoc]
        exact this
      · exact .inl (by have : len0 = 0 := by omega
                       simp [this])
    · obtain ⟨i, hi, rfl⟩ := List.mem_map.1 ho
      exact (hI i (by simpa using hi)).2
    · have h3 : reachBytes = 140737488351232 := by decide
      simp only [List.length_map, List.length_range]
      omega
end
end Go.Proofs.Ytpikepifhnkmkaa
