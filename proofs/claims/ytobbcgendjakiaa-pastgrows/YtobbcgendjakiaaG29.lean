/- bytes.IndexByte of a newline, over a row of bytes. -/
import Derived.Test.YtobbcgendjakiaaG00
import Derived.Test.YtobbcgendjakiaaG28
namespace Go.Proofs.Ytobbcgendjakiaa
open Go.RowKit Sf

theorem idx_spec : ∀ l : List UInt8, (l.contains 10 = false ∧ Lib.indexByte l 10 = -1) ∨ ∃ a r, l = a ++ 10 :: r ∧ a.contains 10 = false ∧ Lib.indexByte l 10 = ((a.length : Nat) : Int)
  | [] => .inl ⟨rfl, rfl⟩
  | c :: r => by
    by_cases e : c = 10
    · subst e
      exact .inr ⟨[], r, rfl, rfl, by simp [Lib.indexByte]⟩
    · have e' : ¬ (10 : UInt8) = c := fun x => e x.symm
      rcases idx_spec r with ⟨h1, h2⟩ | ⟨a, t, h1, h2, h3⟩
      · refine .inl ⟨by simp only [List.contains_cons, h1, Bool.or_false]; simpa using e', ?_⟩
        simp [Lib.indexByte, e, h2]
      · refine .inr ⟨c :: a, t, by rw [h1]; rfl, by simp only [List.contains_cons, h2, Bool.or_false]; simpa using e', ?_⟩
        simp [Lib.indexByte, e, h3]
theorem bytesOf_uv (l : List UInt8) : Lib.bytesOf (l.map fun b => ((b.toNat : Nat) : Int)) = l := by
  induction l with
  | nil => rfl
  | cons x r ih => simp [Lib.bytesOf] at ih ⊢; exact ih
set_option maxRecDepth 20000 in
theorem idx_any {w : World} {a : Addr} {n c : Nat} {l : List UInt8} (h : LAt w (.slice (some a) n c) (uv l)) (ha : a.spot = none) : Calls Try.prog 49 #[.slice (some a) n c, .int .u8 10] w fun e w' => e = .returned (.int .i64 (Lib.indexByte l 10)) ∧ w' = w := by
  obtain ⟨b, o, sp⟩ := a
  simp only at ha
  subst ha
  obtain ⟨a', c', e, _, _, h3⟩ := h
  cases e
  have hl : (uv l).length = l.length := uv_len l
  have this := Try.bytes_IndexByte b o (uv l).length c (l.map fun b => ((b.toNat : Nat) : Int)) 10 w (by rw [hl, List.length_map]) (fun i hi => by
    rcases h3 with h3 | ⟨b', off, e2, hc⟩
    · rw [h3] at hi; simp at hi
    · cases e2
      have hi2 : i < l.length := by rw [← hl]; exact hi
      rw [hc i _ (by unfold uv; rw [List.getElem?_map, List.getElem?_eq_getElem hi2]; rfl)]
      simp [hi2])
  rw [bytesOf_uv] at this
  exact this
end Go.Proofs.Ytobbcgendjakiaa
