/- From the row's own conditions to what the walks ask: bytes, numbers, ops that came in, and their bulk. -/
import Derived.Test.YtjmjhmohholmbaaG25
import Derived.ProofKit
import Derived.OpenShut
import Derived.ShutString
import Derived.ChangeOld
import Derived.SizedLaws
import Derived.JoinedCond
import Derived.Lib.SmallJoins
import Derived.Deep.Slices
import Derived.Deep.Strs
namespace Go.Proofs.Ytjmjhmohholmbaa
open Go.ChangeShapes Go.WideShapes Go.ChangeAt Go.RowKit Go.Deep Ln

theorem own : ownKnob Try.prog.godebug = none := by kernel_rfl
theorem laidOut : laidOutB Try.prog = true := by kernel_rfl
theorem cells3 : Try.prog.cellsOf 3 = 1 := by kernel_rfl
theorem cells4 : Try.prog.cellsOf 4 = 1 := by kernel_rfl
theorem cells5 : Try.prog.cellsOf 5 = 1 := by kernel_rfl
theorem cellsB : Try.prog.cellsOf 22 = 1 := by kernel_rfl
theorem cellsOp : Try.prog.cellsOf 50 = 3 := by kernel_rfl
theorem cellsA : Try.prog.cellsOf 42 = 2 := by kernel_rfl
theorem bulk_one {H : Type} (d : DataW H) : 1 ≤ Rows.uptoBulk d := by
  cases d with
  | lit l => cases l <;> simp [Rows.uptoBulk]
  | nil => simp [Rows.uptoBulk]
  | ptr d => simp [Rows.uptoBulk]
  | slice elems spare => simp [Rows.uptoBulk]
  | agg parts => simp [Rows.uptoBulk]
  | iface t d => simp [Rows.uptoBulk]
  | map entries => simp [Rows.uptoBulk]
  | held h => simp [Rows.uptoBulk]
theorem bulk_all {H : Type} : ∀ l : List (DataW H), l.length ≤ Rows.uptoBulkAll l
  | [] => Nat.zero_le _
  | d :: r => by have h1 := bulk_one d; have h2 := bulk_all r; simp only [Rows.uptoBulkAll, List.length_cons]; omega
theorem bulk_mem {H : Type} : ∀ (l : List (DataW H)) (d : DataW H), d ∈ l → Rows.uptoBulk d ≤ Rows.uptoBulkAll l
  | [], d, h => by cases h
  | x :: r, d, h => by
    simp only [Rows.uptoBulkAll]
    rcases List.mem_cons.1 h with rfl | h
    · omega
    · have := bulk_mem r d h; omega
theorem bulk_slice {H : Type} (es sp : List (DataW H)) : es.length ≤ Rows.uptoBulk (.slice es sp) ∧ ∀ d ∈ es, Rows.uptoBulk d ≤ Rows.uptoBulk (.slice es sp) := by
  have h := bulk_all es
  refine ⟨by simp only [Rows.uptoBulk]; omega, fun d hd => ?_⟩
  have := bulk_mem es d hd
  simp only [Rows.uptoBulk]
  omega
section
variable {H : Type} {enc : TypeId × Value → H} {W : World}
/-- BYTES THAT CAME IN -/
theorem open_bytes {fuel : Nat} {v : Value} {x : DataW H × List MemPlace} (h : DataW.trod enc Try.prog W 0 (fun _ => true) true fuel 22 [v] = some x) : ∃ r : List UInt8, LAt W v (uv r) ∧ r.length ≤ Rows.uptoBulk x.1 := by
  rcases open_slice1 (by kernel_rfl : Try.prog.underlying 22 = some (.slice 5)) cells5 h with ⟨hcs, hx⟩ | ⟨a, len, cap, m, n, V, D, Pl, hcs, _, hl, hm, hmm, hx, hrow⟩
  · simp only [List.cons.injEq, and_true] at hcs
    subst hcs
    exact ⟨[], lat_nil W, Nat.zero_le _⟩
  · simp only [List.cons.injEq, and_true] at hcs
    have hmc : m = cap := by simpa using hmm
    obtain ⟨f, hf⟩ := choose_lt (α := UInt8) (n := len) (p := fun i z => W.cell? (a.add i) = some (.int .u8 (z.toNat : Nat))) (fun i hi => by
      obtain ⟨c1, c2⟩ := hrow i (by omega)
      obtain ⟨k, e0, _, w0⟩ := DataW.trod_int (by kernel_rfl : Try.prog.underlying 5 = some (.int .u8)) c2
      simp only [List.cons.injEq, and_true] at e0
      rw [e0] at c1
      have hb := bounds_u8 w0
      refine ⟨UInt8.ofNat k.toNat, ?_⟩
      rw [c1, UInt8.toNat_ofNat', Nat.mod_eq_of_lt (by omega)]
      simp only [Option.some.injEq, Value.int.injEq, true_and]
      omega)
    refine ⟨(List.range len).map f, ⟨some a, cap, by rw [hcs]; simp [uv], by simpa [uv] using hl, by unfold maxLen at hm; omega, ?_⟩, ?_⟩
    · by_cases h0 : 0 < len
      · obtain ⟨bb, off, spot⟩ := a
        have hspot : spot = none := by
          have h1 := hf 0 h0
          simpa [Addr.add] using World.cell?_spot h1
        subst hspot
        refine .inr ⟨bb, off, rfl, fun k v hv => ?_⟩
        have hk : k < len := by
          have := (List.getElem?_eq_some_iff.1 hv).1
          simpa [uv] using this
        simp [uv, hk] at hv
        subst hv
        have := hf k hk
        rw [Go.WideShapes.add_plain] at this
        exact this
      · exact .inl (by have : len = 0 := by omega
                       simp [this, uv])
    · rw [hx]
      have := (bulk_slice ((List.range len).map D) ((List.range (m - len)).map fun j => D (len + j))).1
      simpa using this
/-- NUMBERS THAT CAME IN -/
theorem open_ints {fuel : Nat} {v : Value} {x : DataW H × List MemPlace} (h : DataW.trod enc Try.prog W 0 (fun _ => true) true fuel 23 [v] = some x) : ∃ r : List Int, LAt W v (ints r) ∧ r.length ≤ Rows.uptoBulk x.1 := by
  rcases open_slice1 (by kernel_rfl : Try.prog.underlying 23 = some (.slice 3)) cells3 h with ⟨hcs, hx⟩ | ⟨a, len, cap, m, n, V, D, Pl, hcs, _, hl, hm, hmm, hx, hrow⟩
  · simp only [List.cons.injEq, and_true] at hcs
    subst hcs
    exact ⟨[], lat_nil W, Nat.zero_le _⟩
  · simp only [List.cons.injEq, and_true] at hcs
    obtain ⟨f, hf⟩ := choose_lt (α := Int) (n := len) (p := fun i z => W.cell? (a.add i) = some (.int .i64 z)) (fun i hi => by
      obtain ⟨c1, c2⟩ := hrow i (by have hmc : m = cap := by simpa using hmm
                                    omega)
      obtain ⟨k, e0, _, _⟩ := DataW.trod_int Try.underlying3 c2
      simp only [List.cons.injEq, and_true] at e0
      rw [e0] at c1
      exact ⟨k, c1⟩)
    refine ⟨(List.range len).map f, ⟨some a, cap, by rw [hcs]; simp [ints], by simpa [ints] using hl, by unfold maxLen at hm; omega, ?_⟩, ?_⟩
    · by_cases h0 : 0 < len
      · obtain ⟨bb, off, spot⟩ := a
        have hspot : spot = none := by
          have h1 := hf 0 h0
          simpa [Addr.add] using World.cell?_spot h1
        subst hspot
        refine .inr ⟨bb, off, rfl, fun k v hv => ?_⟩
        have hk : k < len := by
          have := (List.getElem?_eq_some_iff.1 hv).1
          simpa [ints] using this
        simp [ints, hk] at hv
        subst hv
        have := hf k hk
        rw [Go.WideShapes.add_plain] at this
        exact this
      · exact .inl (by have : len = 0 := by omega
                       simp [this, ints])
    · rw [hx]
      have := (bulk_slice ((List.range len).map D) ((List.range (m - len)).map fun j => D (len + j))).1
      simpa using this
theorem three {α : Type} {l : List α} (h : l.length = 3) : ∃ a b c, l = [a, b, c] := by
  match l, h with
  | [a, b, c], _ => exact ⟨a, b, c, rfl⟩
theorem open_opx {fuel : Nat} {cs : List Value} {x : DataW H × List MemPlace} (h : DataW.trod enc Try.prog W 0 (fun _ => true) true fuel 50 cs = some x) (hb : Rows.uptoBulk x.1 ≤ 1048576) : ∃ o : Opx, cs = o.cells.toList ∧ LAt W o.v (uv o.bs) ∧ o.bs.length ≤ 1048576 := by
  obtain ⟨y0, y1, y2, n, hx, hlen, g0, g1, g2⟩ := trod_struct3 Try.underlying50 h
  rw [cellsOp] at hlen
  obtain ⟨v0, v1, v2, rfl⟩ := three hlen
  simp only [cellsB, cells4, List.drop_zero, List.drop_succ_cons, List.take_succ_cons, List.take_zero] at g0 g1 g2
  obtain ⟨r, hr, hrl⟩ := open_bytes g0
  obtain ⟨b1, e1, _⟩ := DataW.trod_bool Try.underlying4 g1
  obtain ⟨b2, e2, _⟩ := DataW.trod_bool Try.underlying4 g2
  simp only [List.cons.injEq, and_true] at e1 e2
  subst e1 e2
  refine ⟨⟨v0, r, b1, b2⟩, rfl, hr, ?_⟩
  have hx1 : x.1 = .agg [y0.1, y1.1, y2.1] := by rw [hx]
  rw [hx1] at hb
  simp only [Rows.uptoBulk, Rows.uptoBulkAll] at hb
  show r.length ≤ 1048576
  omega
/-- THE OPS THAT CAME IN -/
theorem open_opsx {v : Value} {d : DataW H} {p : List MemPlace} (h : DataW.Trod enc Try.prog W 0 (fun _ => true) true 43 v d p) (hb : Rows.uptoBulk d ≤ 1048576) (hv : ∃ a len cap, v = .slice a len cap) : ∃ (a : Option Addr) (c : Nat) (ops : List Opx), v = .slice a ops.length c ∧ OpxAt W a ops ∧ ops.length ≤ c ∧ c ≤ maxLen := by
  obtain ⟨a0, len0, cap0, rfl⟩ := hv
  obtain ⟨fuel, hf⟩ := h
  rcases open_slice (by kernel_rfl : Try.prog.underlying 43 = some (.slice 50)) hf with ⟨hcs, hx⟩ | ⟨a, len, cap, m, n, D, Pl, hcs, _, hl, hm, hmm, hx, hrow⟩
  · simp [Value.cells] at hcs
    obtain ⟨rfl, rfl, rfl⟩ := hcs
    exact ⟨none, 0, [], rfl, ⟨.inl rfl, fun o ho => by simp at ho⟩, Nat.le_refl _, Nat.zero_le _⟩
  · simp [Value.cells] at hcs
    obtain ⟨rfl, rfl, rfl⟩ := hcs
    obtain rfl : d = _ := (Prod.mk.inj hx).1
    have hmc : m = cap0 := by simpa using hmm
    have hbe := (bulk_slice ((List.range len0).map D) ((List.range (m - len0)).map fun j => D (len0 + j))).2
    haveI : Inhabited Opx := ⟨⟨.slice none 0 0, [], false, false⟩⟩
    obtain ⟨I, hI⟩ := choose_lt (α := Opx) (n := len0) (p := fun i o => (∀ k v, o.cells[k]? = some v → W.cell? (a.add (i * 3 + k)) = some v) ∧ LAt W o.v (uv o.bs) ∧ o.bs.length ≤ 1048576) (fun i hi => by
      obtain ⟨cs', g1, g2⟩ := hrow i (by omega)
      rw [cellsOp] at g1
      obtain ⟨o, he, hg, hg2⟩ := open_opx g2 (Nat.le_trans (hbe (D i) (List.mem_map.2 ⟨i, by simpa using hi, rfl⟩)) hb)
      obtain ⟨_, hlen', hcell⟩ := World.cells?_some g1
      refine ⟨o, fun k v hv => ?_, hg, hg2⟩
      have hk : k < 3 := by have := (Array.getElem?_eq_some_iff.1 hv).1; exact this
      have c := hcell k hk
      rw [add_add, he] at c
      rw [c]
      simpa using hv)
    refine ⟨some a, cap0, (List.range len0).map I, by simp, ⟨?_, fun o ho => ?_⟩, by simpa using hl, hm⟩
    · by_cases h0 : 0 < len0
      · obtain ⟨bb, off, spot⟩ := a
        have hspot : spot = none := by
          have h1 := (hI 0 h0).1 0 _ rfl
          simpa [Addr.add] using World.cell?_spot h1
        subst hspot
        refine .inr ⟨bb, off, rfl, fun i o hi k v hv => ?_⟩
        have hk : i < len0 := by
          have := (List.getElem?_eq_some_iff.1 hi).1
          simpa using this
        simp [hk] at hi
        subst hi
        have := (hI i hk).1 k v hv
        rw [Go.WideShapes.add_plain] at this
        rw [Nat.add_assoc]
        exact this
      · exact .inl (by have : len0 = 0 := by omega
                       simp [this])
    · obtain ⟨i, hi, rfl⟩ := List.mem_map.1 ho
      exact (hI i (by simpa using hi)).2
/-- two numbers that came in -/
theorem open_two {v : Value} {d : DataW H} {p : List MemPlace} {r : Reach} {b0 : Nat} (hv : Value.okWide Try.prog W r b0 42 v) (h : DataW.Trod enc Try.prog W 0 (fun _ => true) true 42 v d p) : ∃ z0 z1 : Int, v = .agg #[.int .i64 z0, .int .i64 z1] := by
  obtain ⟨xs, rfl, hs⟩ : ∃ xs : Array Value, v = .agg xs ∧ xs.size = 2 := by
    have hu : Try.prog.underlying 42 = some (.array 2 3) := by kernel_rfl
    simp only [Value.okWide, hu] at hv
    obtain ⟨cs, h1, h2, _⟩ := hv
    exact ⟨cs, h1, by rw [h2]; exact cellsA⟩
  obtain ⟨c0, c1, rfl⟩ : ∃ c0 c1, xs = #[c0, c1] := by
    obtain ⟨l⟩ := xs
    match l, hs with
    | [c0, c1], _ => exact ⟨c0, c1, rfl⟩
  obtain ⟨fuel, hf⟩ := h
  obtain ⟨ys, m, _, _, _, hl, hel⟩ := DataW.trod_array (by kernel_rfl : Try.prog.underlying 42 = some (.array 2 3)) hf
  match ys, hl with
  | [y0, y1], _ =>
    have h0 := hel 0 (by omega)
    have h1 := hel 1 (by omega)
    simp only [cells3, Value.cells, Nat.zero_mul, Nat.one_mul, List.drop_zero, List.drop_succ_cons, List.take_succ_cons, List.take_zero, List.getElem?_cons_zero, List.getElem?_cons_succ] at h0 h1
    obtain ⟨k0, e0, _⟩ := DataW.trod_int Try.underlying3 h0
    obtain ⟨k1, e1, _⟩ := DataW.trod_int Try.underlying3 h1
    simp only [List.cons.injEq, and_true] at e0 e1
    exact ⟨k0, k1, by rw [e0, e1]⟩
end
end Go.Proofs.Ytjmjhmohholmbaa
