/- The end of a row, as a slice. -/
import Derived.Test.YtmdhlaccioaomaaG24
import Derived.Test.YtmdhlaccioaomaaG25
import Derived.Test.YtmdhlaccioaomaaG26
import Derived.Test.YtmdhlaccioaomaaG28
namespace Go.Proofs.Ytmdhlaccioaomaa
open Go.RowKit Go.Maps Rg Bo

theorem run_cut {w : World} {base : Nat} {V : Value} {P : List Al} (h : w.ownsRow base 41 12 V P.length (P.flatMap alC)) {tk : Nat} (ht : tk ≤ P.length) : ∃ a c, (∀ u, (Instr.slice 32 V (some (.int .i64 (tk : Nat))) none none).run Try.prog u = .ok (.slice a (P.length - tk) c) u) ∧ AlAt w a (P.drop tk) := by
  obtain ⟨i0, hi, hz0, hz1, hz2⟩ := info_parts infAl
  rcases h.2 with ⟨rfl, h0⟩ | ⟨g, cap, cur, rfl, hB, hg, h1, h2, h3, h4⟩
  · obtain rfl : tk = 0 := by omega
    refine ⟨none, 0, fun u => ?_, .inl (by rw [List.drop_zero]; exact List.eq_nil_of_length_eq_zero h0)⟩
    rw [h0]
    simp [Instr.slice, run_underlying Try.underlying32, Instr.sliceBounds, Instr.sliceBound, asIntOf, sizeOf, typeInfo, hi]
  · by_cases e : cap = tk
    · have e2 : tk = P.length := by omega
      refine ⟨some ⟨g, 0, none⟩, cap - tk, fun u => ?_, .inl (by rw [e2, List.drop_length])⟩
      simp [Instr.slice, run_underlying Try.underlying32, Instr.sliceBounds, Instr.sliceBound, asIntOf, sizeOf, typeInfo, hi, hz1, e]
      intro h9
      omega
    · refine ⟨some ⟨g, tk * 12, none⟩, cap - tk, fun u => ?_, .inr ⟨g, tk * 12, rfl, fun i x hx => ?_⟩⟩
      · simp [Instr.slice, run_underlying Try.underlying32, Instr.sliceBounds, Instr.sliceBound, asIntOf, sizeOf, typeInfo, hi, hz1, e, Addr.add, ht]
        exact fun h9 => h9.symm
      · rw [List.getElem?_drop] at hx
        obtain ⟨g2, c2, e2, -, -, hc, -⟩ := row_get alC_len h hx
        obtain ⟨e3, -, -⟩ := Value.slice.inj e2
        obtain rfl : g = g2 := by cases e3; rfl
        intro j v hv
        have := hc j v hv
        rwa [show (tk + i) * 12 + j = tk * 12 + i * 12 + j by omega] at this
end Go.Proofs.Ytmdhlaccioaomaa
