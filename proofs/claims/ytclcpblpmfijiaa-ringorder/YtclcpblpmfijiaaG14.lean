/- Things and bools that came in. -/
import Derived.Test.YtclcpblpmfijiaaG13
import Derived.Test.YtclcpblpmfijiaaG12
namespace Go.Proofs.Ytclcpblpmfijiaa
open Go.ChangeShapes Go.WideShapes Go.ChangeAt Go.RowKit Go.Deep Rg

theorem cellsTh : Try.prog.cellsOf 29 = 2 := by kernel_rfl
theorem bytesTh : Try.prog.bytesOf 29 = 24 := by kernel_rfl
theorem bytes4 : Try.prog.bytesOf 4 = 1 := by kernel_rfl
section
variable {H : Type} {enc : TypeId × Value → H} {W : World}
theorem trod_s2 {P : Program} {w : World} {base : Nat} {spare : Nat → Bool} {held : Bool} {t : TypeId} {f0 f1 : Field} {fuel : Nat} {cs : List Value} {x : DataW H × List MemPlace} (ht : P.underlying t = some (.struct #[f0, f1])) (h : DataW.trod enc P w base spare held fuel t cs = some x) :
    ∃ y0 y1 n, x.1 = .agg [y0.1, y1.1] ∧ cs.length = P.cellsOf t ∧ DataW.trod enc P w base spare held n f0.type ((cs.drop f0.offset).take (P.cellsOf f0.type)) = some y0 ∧ DataW.trod enc P w base spare held n f1.type ((cs.drop f1.offset).take (P.cellsOf f1.type)) = some y1 := by
  obtain ⟨xs, n, _, rfl, hl, hlen, hf⟩ := DataW.trod_struct ht h
  match xs, hlen with
  | [y0, y1], _ => exact ⟨y0, y1, n, by simp, hl, by simpa using hf 0 f0 rfl, by simpa using hf 1 f1 rfl⟩
theorem two {α : Type} {l : List α} (h : l.length = 2) : ∃ a b, l = [a, b] := by
  match l, h with
  | [a, b], _ => exact ⟨a, b, rfl⟩
/-- a thing that came in -/
theorem open_thing {fuel : Nat} {cs : List Value} {x : DataW H × List MemPlace} (h : DataW.trod enc Try.prog W 0 (fun _ => true) true fuel 29 cs = some x) : ∃ y : Th, cs = [.string y.s, .int .i64 y.n] := by
  obtain ⟨y0, y1, n, _, hlen, g0, g1⟩ := trod_s2 Try.underlying29 h
  rw [cellsTh] at hlen
  obtain ⟨v0, v1, rfl⟩ := two hlen
  simp only [cells3, cells9, List.drop_zero, List.drop_succ_cons, List.take_succ_cons, List.take_zero] at g0 g1
  obtain ⟨s0, e0, _⟩ := DataW.trod_string Try.underlying9 g0
  obtain ⟨k1, e1, _⟩ := DataW.trod_int Try.underlying3 g1
  simp only [List.cons.injEq, and_true] at e0 e1
  subst e0 e1
  exact ⟨⟨s0, k1⟩, rfl⟩
/-- THE THINGS THAT CAME IN -/
theorem open_things {v : Value} {d : DataW H} {p : List MemPlace} (h : DataW.Trod enc Try.prog W 0 (fun _ => true) true 22 v d p) (hw : Wt 22 d) (hv : ∃ a len cap, v = .slice a len cap) : ∃ (a : Option Addr) (c : Nat) (l : List Th), v = .slice a l.length c ∧ ThAt W a l ∧ l.length ≤ 9000000000000 := by
  obtain ⟨a0, len0, cap0, rfl⟩ := hv
  obtain ⟨fuel, hf⟩ := h
  rcases open_slice Try.underlying22 hf with ⟨hcs, hx⟩ | ⟨a, len, cap, m, n, D, Pl, hcs, _, hl, hm, hmm, hx, hrow⟩
  · simp [Value.cells] at hcs
    obtain ⟨rfl, rfl, rfl⟩ := hcs
    exact ⟨none, 0, [], rfl, .inl rfl, by simp⟩
  · simp [Value.cells] at hcs
    obtain ⟨rfl, rfl, rfl⟩ := hcs
    obtain rfl : d = _ := (Prod.mk.inj hx).1
    have hmc : m = cap0 := by simpa using hmm
    haveI : Inhabited Th := ⟨thZ⟩
    obtain ⟨I, hI⟩ := choose_lt (α := Th) (n := len0) (p := fun i y => W.cell? (a.add (i * 2)) = some (.string y.s) ∧ W.cell? (a.add (i * 2 + 1)) = some (.int .i64 y.n)) (fun i hi => by
      obtain ⟨cs', g1, g2⟩ := hrow i (by omega)
      rw [cellsTh] at g1
      obtain ⟨y, he⟩ := open_thing g2
      obtain ⟨_, hlen', hcell⟩ := World.cells?_some g1
      refine ⟨y, ?_, ?_⟩
      · have c := hcell 0 (by omega)
        rw [add_add, he] at c
        rw [show i * 2 = i * 2 + 0 by omega, c]
        simp
      · have c := hcell 1 (by omega)
        rw [add_add, he] at c
        rw [c]
        simp)
    refine ⟨some a, cap0, (List.range len0).map I, by simp, ?_, ?_⟩
    · by_cases h0 : 0 < len0
      · obtain ⟨bb, off, spot⟩ := a
        have hspot : spot = none := by
          have h1 := (hI 0 h0).1
          simpa [Addr.add] using World.cell?_spot h1
        subst hspot
        refine .inr ⟨bb, off, rfl, fun i x hi => ?_⟩
        have hk : i < len0 := by
          have := (List.getElem?_eq_some_iff.1 hi).1
          simpa using this
        simp [hk] at hi
        subst hi
        obtain ⟨t1, t2⟩ := hI i hk
        rw [Go.WideShapes.add_plain] at t1 t2
        exact ⟨t1, by rw [Nat.add_assoc]; exact t2⟩
      · exact .inl (by have : len0 = 0 := by omega
                       simp [this])
    · have h1 := (hw.slice Try.underlying22).1
      rw [bytesTh] at h1
      simp only [List.length_map, List.length_range] at h1 ⊢
      have h3 : reachBytes = 140737488351232 := by decide
      omega
/-- bools that came in -/
theorem open_bools {fuel : Nat} {v : Value} {x : DataW H × List MemPlace} (h : DataW.trod enc Try.prog W 0 (fun _ => true) true fuel 23 [v] = some x) (hw : Wt 23 x.1) : ∃ r : List Bool, LAt W v (bls r) ∧ r.length ≤ 9000000000000000 := by
  rcases open_slice1 Try.underlying23 cells4 h with ⟨hcs, hx⟩ | ⟨a, len, cap, m, n, V, D, Pl, hcs, _, hl, hm, hmm, hx, hrow⟩
  · simp only [List.cons.injEq, and_true] at hcs
    subst hcs
    exact ⟨[], lat_nil W, by simp⟩
  · simp only [List.cons.injEq, and_true] at hcs
    have hmc : m = cap := by simpa using hmm
    obtain ⟨f, hf⟩ := choose_lt (α := Bool) (n := len) (p := fun i z => W.cell? (a.add i) = some (.bool z)) (fun i hi => by
      obtain ⟨c1, c2⟩ := hrow i (by omega)
      obtain ⟨k, e0, _⟩ := DataW.trod_bool Try.underlying4 c2
      simp only [List.cons.injEq, and_true] at e0
      rw [e0] at c1
      exact ⟨k, c1⟩)
    refine ⟨(List.range len).map f, ⟨some a, cap, by rw [hcs]; simp [bls], by simpa [bls] using hl, by unfold maxLen at hm; omega, ?_⟩, ?_⟩
    · by_cases h0 : 0 < len
      · obtain ⟨bb, off, spot⟩ := a
        have hspot : spot = none := by
          have h1 := hf 0 h0
          simpa [Addr.add] using World.cell?_spot h1
        subst hspot
        refine .inr ⟨bb, off, rfl, fun k v hv => ?_⟩
        have hk : k < len := by
          have := (List.getElem?_eq_some_iff.1 hv).1
          simpa [bls] using this
        simp [bls, hk] at hv
        subst hv
        have := hf k hk
        rw [Go.WideShapes.add_plain] at this
        exact this
      · exact .inl (by have : len = 0 := by omega
                       simp [this, bls])
    · rw [hx] at hw
      have h1 := (hw.slice Try.underlying23).1
      rw [bytes4] at h1
      simp only [List.length_map, List.length_range] at h1 ⊢
      have h3 : reachBytes = 140737488351232 := by decide
      omega
end
end Go.Proofs.Ytclcpblpmfijiaa
