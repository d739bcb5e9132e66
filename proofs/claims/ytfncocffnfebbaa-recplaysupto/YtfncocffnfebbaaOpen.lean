/- From the row's own conditions to what the walks ask: an item that came in by value; bytes and their bulk. -/
import Derived.Test.YtfncocffnfebbaaOwn
import Derived.ProofKit
import Derived.OpenShut
import Derived.ShutString
import Derived.ChangeOld
import Derived.SizedLaws
import Derived.JoinedCond
import Derived.Lib.SmallJoins
namespace Go.Proofs.Ytfncocffnfebbaa
open Go.ChangeShapes Go.WideShapes Go.ChangeAt Go.RowKit

theorem own : ownKnob Try.prog.godebug = none := by kernel_rfl
theorem laidOut : laidOutB Try.prog = true := by kernel_rfl
theorem cells24 : Try.prog.cellsOf 24 = 4 := by kernel_rfl
theorem cells5 : Try.prog.cellsOf 5 = 1 := by kernel_rfl

theorem bounds_u64 {n : Int} (h : (Lit.int .u64 n).wf = true) : 0 ≤ n ∧ n < 18446744073709551616 := by
  have h : 0 ≤ n ∧ n ≤ 18446744073709551615 := by simpa [Lit.wf, IntKind.min, IntKind.max, IntKind.signed, IntKind.bits] using h
  omega
theorem bounds_i64 {n : Int} (h : (Lit.int .i64 n).wf = true) : -9223372036854775808 ≤ n ∧ n ≤ 9223372036854775807 := by
  simpa [Lit.wf, IntKind.min, IntKind.max, IntKind.signed, IntKind.bits] using h

/-- an item's four cells read -/
theorem read_item {H : Type} {enc : TypeId × Value → H} {W : World} {n : Nat} {v0 v1 v2 v3 : Value} {y0 y1 y2 y3 : DataW H × List MemPlace} {spare : Nat → Bool}
    (h0 : DataW.trod enc Try.prog W 0 spare true n 3 [v0] = some y0) (h1 : DataW.trod enc Try.prog W 0 spare true n 3 [v1] = some y1)
    (h2 : DataW.trod enc Try.prog W 0 spare true n 22 [v2] = some y2) (h3 : DataW.trod enc Try.prog W 0 spare true n 9 [v3] = some y3) :
    ∃ (k m : Int) (x : Nat) (s : ByteArray), v0 = .int .i64 k ∧ v1 = .int .i64 m ∧ v2 = .int .u64 x ∧ v3 = .string s ∧ x < 18446744073709551616 ∧ -9223372036854775808 ≤ m ∧ m ≤ 9223372036854775807 ∧ -9223372036854775808 ≤ k ∧ k ≤ 9223372036854775807 ∧
      y0.1 = .lit (.int .i64 k) ∧ y1.1 = .lit (.int .i64 m) ∧ y2.1 = .lit (.int .u64 x) ∧ y3.1 = .lit (.string s.data.toList) := by
  obtain ⟨k, e0, hy0, w0⟩ := DataW.trod_int Try.underlying3 h0
  obtain ⟨m, e1, hy1, w1⟩ := DataW.trod_int Try.underlying3 h1
  obtain ⟨x, e2, hy2, w2⟩ := DataW.trod_int Try.underlying22 h2
  obtain ⟨s, e3, hy3, _⟩ := DataW.trod_string Try.underlying9 h3
  simp only [List.cons.injEq, and_true] at e0 e1 e2 e3
  obtain ⟨hx0, hx1⟩ := bounds_u64 w2
  obtain ⟨X, rfl⟩ := Int.eq_ofNat_of_zero_le hx0
  exact ⟨k, m, X, s, e0, e1, e2, e3, by omega, (bounds_i64 w1).1, (bounds_i64 w1).2, (bounds_i64 w0).1, (bounds_i64 w0).2, by rw [hy0], by rw [hy1], by rw [hy2], by rw [hy3]⟩

/-- AN ITEM THAT CAME IN BY VALUE. -/
theorem open_item {H : Type} {enc : TypeId × Value → H} {W : World} {r : Reach} {b0 : Nat} {v : Value} {d : DataW H} {p : List MemPlace} (hv : Value.okWide Try.prog W r b0 24 v) (h : DataW.Trod enc Try.prog W 0 (fun _ => true) true 24 v d p) :
    ∃ (k m : Int) (x : Nat) (s : ByteArray), v = .agg #[.int .i64 k, .int .i64 m, .int .u64 x, .string s] ∧ x < 18446744073709551616 ∧ s.size + 1 ≤ Rows.uptoBulk d := by
  obtain ⟨v0, v1, v2, v3, y0, y1, y2, y3, n, rfl, rfl, _, h0, h1, h2, h3⟩ := Go.Joins.open_agg4 Try.underlying24 (by kernel_rfl) cells24 hv h
  obtain ⟨k, m, x, s, rfl, rfl, rfl, rfl, hx, _, _, _, _, e0, e1, e2, e3⟩ := read_item h0 h1 h2 h3
  refine ⟨k, m, x, s, rfl, hx, ?_⟩
  have hs : s.data.toList.length = s.size := by rw [Array.length_toList]; rfl
  simp only [e0, e1, e2, e3, Rows.uptoBulk, Rows.uptoBulkAll, hs]
  omega
end Go.Proofs.Ytfncocffnfebbaa
