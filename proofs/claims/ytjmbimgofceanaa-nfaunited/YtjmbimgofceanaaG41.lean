/- NfaUnited answers true for every list of texts and every line (P7.2, P7.4: of the machines of those patterns among the first twelve that are read, and have at most 300 states, the union has one state more than they have together, fits, and meets in the line's first 60 bytes just what one of them meets; in the other order it meets the same), and leaves its arguments as they were. Conditions: the row's own reach. -/
import Derived.Test.YtjmbimgofceanaaG20
import Derived.Test.YtjmbimgofceanaaG40
namespace Go.Proofs.Ytjmbimgofceanaa
open Go.ChangeShapes Go.WideShapes Go.ChangeAt Go.RowKit Go.Deep

theorem cellsStr : Try.prog.cellsOf 9 = 1 := by kernel_rfl
set_option maxRecDepth 8000 in
/-- A LIST OF TEXTS THAT CAME IN. -/
theorem open_strs {H : Type} {enc : TypeId × Value → H} {W : World} {fuel : Nat} {v : Value} {x : DataW H × List MemPlace} (h : DataW.trod enc Try.prog W 0 (fun _ => true) true fuel 54 [v] = some x) : ∃ (a : Option Addr) (len cap : Nat) (ss : List ByteArray), v = .slice a len cap ∧ ss.length = len ∧ len ≤ cap ∧ StrAt W a ss := by
  rcases open_slice Try.underlying54 h with ⟨hcs, hx⟩ | ⟨a, len, cap, m, n', D, Pl, hcs, _, hl, hm, hmm, hx, hrow⟩
  · simp only [List.cons.injEq, and_true] at hcs
    exact ⟨none, 0, 0, [], hcs, rfl, Nat.le_refl _, Or.inl rfl⟩
  · simp only [List.cons.injEq, and_true] at hcs
    have hmc : m = cap := by simpa using hmm
    obtain ⟨F, hF⟩ := choose_lt (α := ByteArray) (n := len) (p := fun i s => W.cell? (a.add i) = some (.string s)) (fun i hi => by
      obtain ⟨cs', g1, g2⟩ := hrow i (by omega)
      rw [cellsStr, Nat.mul_one] at g1
      obtain ⟨s, e0, _, _⟩ := DataW.trod_string Try.underlying9 g2
      obtain ⟨_, hlen', hcell⟩ := World.cells?_some g1
      refine ⟨s, ?_⟩
      have c := hcell 0 (by decide)
      rw [add_add, e0] at c
      simpa using c)
    refine ⟨some a, len, cap, (List.range len).map F, hcs, by simp, hl, ?_⟩
    by_cases h0 : 0 < len
    · obtain ⟨bb, off, spot⟩ := a
      have hspot : spot = none := by
        have h1 := hF 0 h0
        simpa [Addr.add] using World.cell?_spot h1
      subst hspot
      refine Or.inr ⟨bb, off, rfl, fun j s hj => ?_⟩
      have hjl := (List.getElem?_eq_some_iff.1 hj).1
      simp only [List.length_map, List.length_range] at hjl
      have e : F j = s := by simpa [hjl] using hj
      have := hF j hjl
      rw [Go.WideShapes.add_plain, e] at this
      exact this
    · exact Or.inl (by have : len = 0 := by omega
                       simp [this])
end Go.Proofs.Ytjmbimgofceanaa
namespace Go.Proofs.Ytjmbimgofceanaa.nfaUnited
open Go.ChangeShapes Go.WideShapes Go.ChangeAt Go.RowKit
set_option maxRecDepth 8000 in
theorem contract (H : Type) (enc : TypeId × Value → H) (W : World) (base : Nat) (args : Array Value) (ds gs : List (DataW H)) (before : List MemPlace)
    (hval : ∀ (j : Nat) t v, Try.f5.params[j]? = some t → args[j]? = some v → Value.okWide Try.prog W .any base t v)
    (hW : DataW.Whole enc Try.prog Try.f5.params.toList Rows.nfaUnitedSpec.vars false W args.toList ds gs before)
    (hS : W.ShapedOpen Try.prog) :
    Calls Try.prog 5 args W fun e W' => ∃ v, e = .returned v ∧ Rows.nfaUnitedSpec.post enc Try.prog Try.f5 false true false false W args v W' := by
  have hW' := hW
  obtain ⟨p, q, hA0, hV, rfl, hfz, hnd⟩ := hW
  have hA : DataW.TrodAll enc Try.prog W 0 (fun _ => true) true Try.f5.params.toList args.toList ds p := hA0
  rw [Try.params5] at hA hval
  obtain ⟨v0, vs0, d0, ds0, p0, q0, hargs, rfl, rfl, h0, r0⟩ := trodAll_cons hA
  obtain ⟨v1, vs1, d1, ds1, p1, q1, rfl, rfl, rfl, h1, r1⟩ := trodAll_cons r0
  obtain ⟨rfl, rfl, rfl⟩ := trodAll_nil r1
  obtain rfl : args = #[v0, v1] := by cases args; simp_all
  obtain ⟨rfl, rfl⟩ := trodVars_none hV
  have k0 := h0
  have k1 := h1
  have lt0 : ∀ x ∈ p0, x.block < W.heap.size := by obtain ⟨m, hm⟩ := k0; exact DataW.trod_lt m _ _ _ hm
  have lt1 : ∀ x ∈ p1, x.block < W.heap.size := by obtain ⟨m, hm⟩ := k1; exact DataW.trod_lt m _ _ _ hm
  obtain ⟨sa, sn, sc, rfl⟩ := okWide_slice Try.underlying54 (hval 0 54 v0 rfl rfl)
  obtain ⟨fuel, hf⟩ := h0
  obtain ⟨a, len, cap, ss, hv, hl, hlc, hst⟩ := open_strs hf
  cases hv
  obtain ⟨s, rfl, rfl, rfl⟩ := open_text (hval 1 9 v1 rfl rfl) h1
  clear hA0
  refine (united_any W (gm_of hS) hst hl hlc s).mono fun e W' ⟨he, bel⟩ => ?_
  subst he
  exact ⟨_, rfl, _, _, _, [], _, [], hW', trodAll_mk1 (shut_bool Try.underlying4 _), (trodAll_cons_mk (Below.trod laidOut (by kernel_rfl) (of_decide_eq_true (by kernel_rfl)) k0 bel lt0) (trodAll_cons_mk (Below.trod laidOut (by kernel_rfl) (of_decide_eq_true (by kernel_rfl)) k1 bel lt1) trodAll_mk0)), rfl, bel.frame _, fun h => by cases h⟩
set_option maxRecDepth 100000 in
theorem lifted (os : Os) (started : os.Started) (H : Type) (enc : TypeId × Value → H) (F : Stop.Interp) :
    ReturnsInHanded {} Try.checked os 5 .any ((OpenSpec.ofChange Rows.nfaUnitedSpec).preRow enc Try.prog Try.f5 Rows.nfaUnitedRow.domain false Rows.nfaUnitedRow.laid) (((OpenSpec.ofChange Rows.nfaUnitedSpec).at F).post enc Try.prog Try.f5 false true false false) := by
  refine returnsInHanded_of_row (C := Try.checked) (s := OpenSpec.ofChange Rows.nfaUnitedSpec) own started (by kernel_rfl) Try.func5
    (witness_row_at (enc := enc) (C := Try.checked) false (World.holding Try.prog os ⟨#[], #[], []⟩)
      #[.slice none 0 0, .string ⟨#[]⟩] rfl (by kernel_rfl) (by kernel_rfl) (by kernel_rfl)
      (OpenSpec.preRow_of_cond 8 (x := ([.nil, .lit (.string [])], [], [])) (by kernel_rfl) (by kernel_rfl) (fun k hk => by cases hk) (by kernel_rfl) (laidMet_of_run' 8 (by kernel_rfl) (by kernel_rfl)))) ?_
  intro W base args ds gs before hval hW _ _ _ _ hS _
  exact contract H enc W base args ds gs before hval hW hS
theorem said : Rows.NfaUnitedSaid :=
  OpenClaim.holds_of_cond 5 Try.f5 rfl rfl rfl rfl rfl rfl rfl ⟨rfl, rfl, rfl, rfl, rfl⟩ rfl rfl rfl rfl rfl (by kernel_rfl) Try.func5 (by kernel_rfl)
    (of_decide_eq_true (by kernel_rfl)) (by unfold Func.isWrapper; first | (rw [if_pos (by decide +kernel)]; kernel_rfl) | (rw [if_neg (by decide +kernel)]; exact ⟨rfl, rfl⟩))
    (fun os started H enc _ F => by rw [OpenClaim.pre_eq_preRow]; exact lifted os started H enc F)
end Go.Proofs.Ytjmbimgofceanaa.nfaUnited
namespace Go.Proofs.Ytjmbimgofceanaa
/-- THE FIRST FORM OF NfaUnited. -/
theorem nfaUnited_said : Rows.NfaUnitedSaid := nfaUnited.said
end Go.Proofs.Ytjmbimgofceanaa
