/- From the row's own conditions to what the walks ask: asks, arrays and numbers that came in. -/
import Derived.Test.YtnlckacekbjofaaG06
import Derived.ProofKit
import Derived.OpenShut
import Derived.ShutString
import Derived.ChangeOld
import Derived.SizedLaws
import Derived.JoinedCond
import Derived.Deep.DeepHandedRow
import Derived.Lib.SmallJoins
import Derived.Deep.Slices
namespace Go.Proofs.Ytnlckacekbjofaa
open Go.ChangeShapes Go.WideShapes Go.ChangeAt Go.RowKit Go.Deep Bo

theorem own : ownKnob Try.prog.godebug = none := by kernel_rfl
theorem laidOut : laidOutB Try.prog = true := by kernel_rfl
theorem cells3 : Try.prog.cellsOf 3 = 1 := by kernel_rfl
theorem cells2 : Try.prog.cellsOf 31 = 2 := by kernel_rfl
theorem cellsT : Try.prog.cellsOf 30 = 3 := by kernel_rfl
theorem cellsAk : Try.prog.cellsOf 36 = 7 := by kernel_rfl
theorem bounds_n {n : Int} (h : (Lit.int .i64 n).wf = true) : -9223372036854775808 ≤ n ∧ n ≤ 9223372036854775807 := by
  simpa [Lit.wf, IntKind.min, IntKind.max, IntKind.signed, IntKind.bits] using h
section
variable {H : Type} {enc : TypeId × Value → H} {W : World}
theorem open_two {v : Value} {d : DataW H} {p : List MemPlace} {r : Reach} {b0 : Nat} (hv : Value.okWide Try.prog W r b0 31 v) (h : DataW.Trod enc Try.prog W 0 (fun _ => true) true 31 v d p) : ∃ z0 z1 : Int, v = .agg #[.int .i64 z0, .int .i64 z1] := by
  obtain ⟨xs, rfl, hs⟩ : ∃ xs : Array Value, v = .agg xs ∧ xs.size = 2 := by
    have hu : Try.prog.underlying 31 = some (.array 2 3) := by kernel_rfl
    simp only [Value.okWide, hu] at hv
    obtain ⟨cs, h1, h2, _⟩ := hv
    exact ⟨cs, h1, by rw [h2]; exact cells2⟩
  obtain ⟨c0, c1, rfl⟩ : ∃ c0 c1, xs = #[c0, c1] := by
    obtain ⟨l⟩ := xs
    match l, hs with
    | [c0, c1], _ => exact ⟨c0, c1, rfl⟩
  obtain ⟨fuel, hf⟩ := h
  obtain ⟨ys, m, _, _, _, hl, hel⟩ := DataW.trod_array (by kernel_rfl : Try.prog.underlying 31 = some (.array 2 3)) hf
  match ys, hl with
  | [y0, y1], _ =>
    have h0 := hel 0 (by omega)
    have h1 := hel 1 (by omega)
    simp only [cells3, Value.cells, Nat.zero_mul, Nat.one_mul, List.drop_zero, List.drop_succ_cons, List.take_succ_cons, List.take_zero, List.getElem?_cons_zero, List.getElem?_cons_succ] at h0 h1
    obtain ⟨k0, e0, _⟩ := DataW.trod_int Try.underlying3 h0
    obtain ⟨k1, e1, _⟩ := DataW.trod_int Try.underlying3 h1
    simp only [List.cons.injEq, and_true] at e0 e1
    exact ⟨k0, k1, by rw [e0, e1]⟩
theorem open_three {v : Value} {d : DataW H} {p : List MemPlace} {r : Reach} {b0 : Nat} (hv : Value.okWide Try.prog W r b0 30 v) (h : DataW.Trod enc Try.prog W 0 (fun _ => true) true 30 v d p) : ∃ z0 z1 z2 : Int, v = .agg #[.int .i64 z0, .int .i64 z1, .int .i64 z2] := by
  obtain ⟨xs, rfl, hs⟩ : ∃ xs : Array Value, v = .agg xs ∧ xs.size = 3 := by
    have hu : Try.prog.underlying 30 = some (.array 3 3) := by kernel_rfl
    simp only [Value.okWide, hu] at hv
    obtain ⟨cs, h1, h2, _⟩ := hv
    exact ⟨cs, h1, by rw [h2]; exact cellsT⟩
  obtain ⟨c0, c1, c2, rfl⟩ : ∃ c0 c1 c2, xs = #[c0, c1, c2] := by
    obtain ⟨l⟩ := xs
    match l, hs with
    | [c0, c1, c2], _ => exact ⟨c0, c1, c2, rfl⟩
  obtain ⟨fuel, hf⟩ := h
  obtain ⟨ys, m, _, _, _, hl, hel⟩ := DataW.trod_array (by kernel_rfl : Try.prog.underlying 30 = some (.array 3 3)) hf
  match ys, hl with
  | [y0, y1, y2], _ =>
    have h0 := hel 0 (by omega)
    have h1 := hel 1 (by omega)
    have h2 := hel 2 (by omega)
    simp only [cells3, Value.cells, Nat.mul_one, List.drop_zero, List.drop_succ_cons, List.take_succ_cons, List.take_zero, List.getElem?_cons_zero, List.getElem?_cons_succ] at h0 h1 h2
    obtain ⟨k0, e0, _⟩ := DataW.trod_int Try.underlying3 h0
    obtain ⟨k1, e1, _⟩ := DataW.trod_int Try.underlying3 h1
    obtain ⟨k2, e2, _⟩ := DataW.trod_int Try.underlying3 h2
    simp only [List.cons.injEq, and_true] at e0 e1 e2
    exact ⟨k0, k1, k2, by rw [e0, e1, e2]⟩
theorem seven {α : Type} {l : List α} (h : l.length = 7) : ∃ a b c d e f g, l = [a, b, c, d, e, f, g] := by
  match l, h with
  | [a, b, c, d, e, f, g], _ => exact ⟨a, b, c, d, e, f, g, rfl⟩
def fn7 (a b c d e f g : Int) : Nat → Int
  | 0 => a
  | 1 => b
  | 2 => c
  | 3 => d
  | 4 => e
  | 5 => f
  | _ => g
/-- an ask that came in -/
theorem open_ask {fuel : Nat} {cs : List Value} {x : DataW H × List MemPlace} (h : DataW.trod enc Try.prog W 0 (fun _ => true) true fuel 36 cs = some x) : ∃ y : Nat → Int, cs = [.int .i64 (y 0), .int .i64 (y 1), .int .i64 (y 2), .int .i64 (y 3), .int .i64 (y 4), .int .i64 (y 5), .int .i64 (y 6)] ∧ ∀ j, j < 7 → Fit64 (y j) := by
  obtain ⟨xs, n, _, rfl, hl, hlen, hf⟩ := DataW.trod_struct Try.underlying36 h
  rw [cellsAk] at hl
  obtain ⟨v0, v1, v2, v3, v4, v5, v6, rfl⟩ := seven hl
  obtain ⟨y0, y1, y2, y3, y4, y5, y6, rfl⟩ := seven (l := xs) (by simpa using hlen)
  have g0 : DataW.trod enc Try.prog W 0 (fun _ => true) true n 3 (([v0, v1, v2, v3, v4, v5, v6].drop 0).take (Try.prog.cellsOf 3)) = some y0 := hf 0 _ rfl
  have g1 : DataW.trod enc Try.prog W 0 (fun _ => true) true n 3 (([v0, v1, v2, v3, v4, v5, v6].drop 1).take (Try.prog.cellsOf 3)) = some y1 := hf 1 _ rfl
  have g2 : DataW.trod enc Try.prog W 0 (fun _ => true) true n 3 (([v0, v1, v2, v3, v4, v5, v6].drop 2).take (Try.prog.cellsOf 3)) = some y2 := hf 2 _ rfl
  have g3 : DataW.trod enc Try.prog W 0 (fun _ => true) true n 3 (([v0, v1, v2, v3, v4, v5, v6].drop 3).take (Try.prog.cellsOf 3)) = some y3 := hf 3 _ rfl
  have g4 : DataW.trod enc Try.prog W 0 (fun _ => true) true n 3 (([v0, v1, v2, v3, v4, v5, v6].drop 4).take (Try.prog.cellsOf 3)) = some y4 := hf 4 _ rfl
  have g5 : DataW.trod enc Try.prog W 0 (fun _ => true) true n 3 (([v0, v1, v2, v3, v4, v5, v6].drop 5).take (Try.prog.cellsOf 3)) = some y5 := hf 5 _ rfl
  have g6 : DataW.trod enc Try.prog W 0 (fun _ => true) true n 3 (([v0, v1, v2, v3, v4, v5, v6].drop 6).take (Try.prog.cellsOf 3)) = some y6 := hf 6 _ rfl
  simp only [cells3, List.drop_zero, List.drop_succ_cons, List.take_succ_cons, List.take_zero] at g0 g1 g2 g3 g4 g5 g6
  obtain ⟨k0, e0, _, w0⟩ := DataW.trod_int Try.underlying3 g0
  obtain ⟨k1, e1, _, w1⟩ := DataW.trod_int Try.underlying3 g1
  obtain ⟨k2, e2, _, w2⟩ := DataW.trod_int Try.underlying3 g2
  obtain ⟨k3, e3, _, w3⟩ := DataW.trod_int Try.underlying3 g3
  obtain ⟨k4, e4, _, w4⟩ := DataW.trod_int Try.underlying3 g4
  obtain ⟨k5, e5, _, w5⟩ := DataW.trod_int Try.underlying3 g5
  obtain ⟨k6, e6, _, w6⟩ := DataW.trod_int Try.underlying3 g6
  simp only [List.cons.injEq, and_true] at e0 e1 e2 e3 e4 e5 e6
  subst e0 e1 e2 e3 e4 e5 e6
  refine ⟨fn7 k0 k1 k2 k3 k4 k5 k6, rfl, fun j hj => ?_⟩
  match j, hj with
  | 0, _ => exact bounds_n w0
  | 1, _ => exact bounds_n w1
  | 2, _ => exact bounds_n w2
  | 3, _ => exact bounds_n w3
  | 4, _ => exact bounds_n w4
  | 5, _ => exact bounds_n w5
  | 6, _ => exact bounds_n w6
/-- THE ASKS THAT CAME IN -/
theorem open_asks {v : Value} {d : DataW H} {p : List MemPlace} (h : DataW.Trod enc Try.prog W 0 (fun _ => true) true 34 v d p) (hv : ∃ a len cap, v = .slice a len cap) : ∃ (a : Option Addr) (n c : Nat) (l : Nat → Nat → Int), v = .slice a n c ∧ AkAt W a n c l := by
  obtain ⟨a0, len0, cap0, rfl⟩ := hv
  obtain ⟨fuel, hf⟩ := h
  rcases open_slice Try.underlying34 hf with ⟨hcs, hx⟩ | ⟨a, len, cap, m, n, D, Pl, hcs, _, hl, hm, hmm, hx, hrow⟩
  · simp [Value.cells] at hcs
    obtain ⟨rfl, rfl, rfl⟩ := hcs
    exact ⟨none, 0, 0, fun _ _ => 0, rfl, by omega, by omega, fun i j hi _ => by omega, .inl ⟨rfl, rfl, rfl⟩⟩
  · simp [Value.cells] at hcs
    obtain ⟨rfl, rfl, rfl⟩ := hcs
    have hmc : m = cap0 := by simpa using hmm
    haveI : Inhabited (Nat → Int) := ⟨fun _ => 0⟩
    obtain ⟨I, hI⟩ := choose_lt (α := Nat → Int) (n := len0) (p := fun i y => (∀ j, j < 7 → Fit64 (y j)) ∧ ∀ j, j < 7 → W.cell? (a.add (i * 7 + j)) = some (.int .i64 (y j))) (fun i hi => by
      obtain ⟨cs', g1, g2⟩ := hrow i (by omega)
      rw [cellsAk] at g1
      obtain ⟨y, he, hfy⟩ := open_ask g2
      obtain ⟨_, hlen', hcell⟩ := World.cells?_some g1
      refine ⟨y, hfy, fun j hj => ?_⟩
      have c := hcell j (by omega)
      rw [add_add, he] at c
      rw [c]
      match j, hj with
      | 0, _ | 1, _ | 2, _ | 3, _ | 4, _ | 5, _ | 6, _ => simp)
    refine ⟨some a, len0, cap0, I, rfl, by omega, by unfold maxLen at hm; omega, fun i j hi hj => (hI i hi).1 j hj, ?_⟩
    obtain ⟨bb, off, spot⟩ := a
    have hspot : 0 < len0 → spot = none := fun h0 => by
      have h1 := (hI 0 h0).2 0 (by omega)
      simpa [Addr.add] using World.cell?_spot h1
    refine .inr ⟨bb, off, spot, rfl, hspot, fun i j hi hj => ?_⟩
    have t := (hI i hi).2 j hj
    obtain rfl := hspot (by omega)
    rw [Go.WideShapes.add_plain, ← Nat.add_assoc] at t
    exact t
end
end Go.Proofs.Ytnlckacekbjofaa
