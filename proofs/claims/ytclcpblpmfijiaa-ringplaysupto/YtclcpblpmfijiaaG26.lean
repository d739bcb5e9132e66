/- The calls of RingPlays' argument. -/
import Derived.Test.YtclcpblpmfijiaaG25
import Derived.Test.YtclcpblpmfijiaaG24
namespace Go.Proofs.Ytclcpblpmfijiaa
open Go.ChangeShapes Go.WideShapes Go.ChangeAt Go.RowKit Go.Deep Rg

theorem cellsOp : Try.prog.cellsOf 56 = 3 := by kernel_rfl
theorem bulk_one {H : Type} (d : DataW H) : 1 ≤ Rows.uptoBulk d := by
  cases d with
  | lit l => cases l <;> simp [Rows.uptoBulk]
  | nil => simp [Rows.uptoBulk]
  | ptr d => simp [Rows.uptoBulk]
  | slice elems spare => simp [Rows.uptoBulk]
  | agg parts => simp [Rows.uptoBulk]
  | iface t d => simp [Rows.uptoBulk]
  | map entries => simp [Rows.uptoBulk]
  | held h => simp [Rows.uptoBulk]
theorem bulk_all {H : Type} : ∀ l : List (DataW H), l.length ≤ Rows.uptoBulkAll l
  | [] => Nat.zero_le _
  | d :: r => by have h1 := bulk_one d; have h2 := bulk_all r; simp only [Rows.uptoBulkAll, List.length_cons]; omega
theorem bulk_mem {H : Type} : ∀ (l : List (DataW H)) (d : DataW H), d ∈ l → Rows.uptoBulk d ≤ Rows.uptoBulkAll l
  | [], d, h => by cases h
  | x :: r, d, h => by
    simp only [Rows.uptoBulkAll]
    rcases List.mem_cons.1 h with rfl | h
    · omega
    · have := bulk_mem r d h; omega
theorem bulk_slice {H : Type} (es sp : List (DataW H)) : es.length ≤ Rows.uptoBulk (.slice es sp) ∧ ∀ d ∈ es, Rows.uptoBulk d ≤ Rows.uptoBulk (.slice es sp) := by
  have h := bulk_all es
  refine ⟨by simp only [Rows.uptoBulk]; omega, fun d hd => ?_⟩
  have := bulk_mem es d hd
  simp only [Rows.uptoBulk]
  omega
section
variable {H : Type} {enc : TypeId × Value → H} {W : World}
theorem trod_s3 {P : Program} {w : World} {base : Nat} {spare : Nat → Bool} {held : Bool} {t : TypeId} {f0 f1 f2 : Field} {fuel : Nat} {cs : List Value} {x : DataW H × List MemPlace} (ht : P.underlying t = some (.struct #[f0, f1, f2])) (h : DataW.trod enc P w base spare held fuel t cs = some x) :
    ∃ y0 y1 y2 n, x.1 = .agg [y0.1, y1.1, y2.1] ∧ cs.length = P.cellsOf t ∧ DataW.trod enc P w base spare held n f0.type ((cs.drop f0.offset).take (P.cellsOf f0.type)) = some y0 ∧ DataW.trod enc P w base spare held n f1.type ((cs.drop f1.offset).take (P.cellsOf f1.type)) = some y1 ∧ DataW.trod enc P w base spare held n f2.type ((cs.drop f2.offset).take (P.cellsOf f2.type)) = some y2 := by
  obtain ⟨xs, n, _, rfl, hl, hlen, hf⟩ := DataW.trod_struct ht h
  match xs, hlen with
  | [y0, y1, y2], _ => exact ⟨y0, y1, y2, n, by simp, hl, by simpa using hf 0 f0 rfl, by simpa using hf 1 f1 rfl, by simpa using hf 2 f2 rfl⟩
theorem three {α : Type} {l : List α} (h : l.length = 3) : ∃ a b c, l = [a, b, c] := by
  match l, h with
  | [a, b, c], _ => exact ⟨a, b, c, rfl⟩
theorem open_op {fuel : Nat} {cs : List Value} {x : DataW H × List MemPlace} (h : DataW.trod enc Try.prog W 0 (fun _ => true) true fuel 56 cs = some x) : ∃ y : Opc, cs = [.int .i64 y.1, .bool y.2.1, .int .i64 y.2.2] := by
  obtain ⟨y0, y1, y2, n, _, hlen, g0, g1, g2⟩ := trod_s3 Try.underlying56 h
  rw [cellsOp] at hlen
  obtain ⟨v0, v1, v2, rfl⟩ := three hlen
  simp only [cells3, cells4, List.drop_zero, List.drop_succ_cons, List.take_succ_cons, List.take_zero] at g0 g1 g2
  obtain ⟨k0, e0, _⟩ := DataW.trod_int Try.underlying3 g0
  obtain ⟨b1, e1, _⟩ := DataW.trod_bool Try.underlying4 g1
  obtain ⟨k2, e2, _⟩ := DataW.trod_int Try.underlying3 g2
  simp only [List.cons.injEq, and_true] at e0 e1 e2
  subst e0 e1 e2
  exact ⟨⟨k0, b1, k2⟩, rfl⟩
/-- THE CALLS THAT CAME IN -/
theorem open_opsx {v : Value} {d : DataW H} {p : List MemPlace} (h : DataW.Trod enc Try.prog W 0 (fun _ => true) true 46 v d p) (hv : ∃ a len cap, v = .slice a len cap) : ∃ (a : Option Addr) (c : Nat) (l : List Opc), v = .slice a l.length c ∧ OpAt W a l ∧ l.length ≤ Rows.uptoBulk d := by
  obtain ⟨a0, len0, cap0, rfl⟩ := hv
  obtain ⟨fuel, hf⟩ := h
  rcases open_slice Try.underlying46 hf with ⟨hcs, hx⟩ | ⟨a, len, cap, m, n, D, Pl, hcs, _, hl, hm, hmm, hx, hrow⟩
  · simp [Value.cells] at hcs
    obtain ⟨rfl, rfl, rfl⟩ := hcs
    exact ⟨none, 0, [], rfl, .inl rfl, Nat.zero_le _⟩
  · simp [Value.cells] at hcs
    obtain ⟨rfl, rfl, rfl⟩ := hcs
    obtain rfl : d = _ := (Prod.mk.inj hx).1
    have hmc : m = cap0 := by simpa using hmm
    have hbe := (bulk_slice ((List.range len0).map D) ((List.range (m - len0)).map fun j => D (len0 + j))).1
    haveI : Inhabited Opc := ⟨⟨0, false, 0⟩⟩
    obtain ⟨I, hI⟩ := choose_lt (α := Opc) (n := len0) (p := fun i y => W.cell? (a.add (i * 3)) = some (.int .i64 y.1) ∧ W.cell? (a.add (i * 3 + 1)) = some (.bool y.2.1) ∧ W.cell? (a.add (i * 3 + 2)) = some (.int .i64 y.2.2)) (fun i hi => by
      obtain ⟨cs', g1, g2⟩ := hrow i (by omega)
      rw [cellsOp] at g1
      obtain ⟨y, he⟩ := open_op g2
      obtain ⟨_, hlen', hcell⟩ := World.cells?_some g1
      refine ⟨y, ?_, ?_, ?_⟩
      · have c := hcell 0 (by omega)
        rw [add_add, he] at c
        rw [show i * 3 = i * 3 + 0 by omega, c]
        simp
      · have c := hcell 1 (by omega)
        rw [add_add, he] at c
        rw [c]
        simp
      · have c := hcell 2 (by omega)
        rw [add_add, he] at c
        rw [c]
        simp)
    refine ⟨some a, cap0, (List.range len0).map I, by simp, ?_, ?_⟩
    · by_cases h0 : 0 < len0
      · obtain ⟨bb, off, spot⟩ := a
        have hspot : spot = none := by
          have h1 := (hI 0 h0).1
          simpa [Addr.add] using World.cell?_spot h1
        subst hspot
        refine .inr ⟨bb, off, rfl, fun i x hi => ?_⟩
        have hk : i < len0 := by
          have := (List.getElem?_eq_some_iff.1 hi).1
          simpa using this
        simp [hk] at hi
        subst hi
        obtain ⟨t1, t2, t3⟩ := hI i hk
        rw [Go.WideShapes.add_plain] at t1 t2 t3
        exact ⟨t1, by rw [Nat.add_assoc]; exact t2, by rw [Nat.add_assoc]; exact t3⟩
      · exact .inl (by have : len0 = 0 := by omega
                       simp [this])
    · simpa using hbe
end
end Go.Proofs.Ytclcpblpmfijiaa
