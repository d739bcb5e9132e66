/- Plain: what a call of the law's does to a disk. -/
import Derived.Test.YtjlfhaehdllmcaaG30
import Derived.Test.YtjlfhaehdllmcaaG24
namespace Go.Proofs.Ytjlfhaehdllmcaa
open Go.RowKit Sf

def onI (d : Dk) (a : ByteArray) (g : Ino → Ino) : Dk := match d.ino (num d a) with
  | some f => Sf.putI d (num d a) (some (g f))
  | none => d
def dropN (d : Dk) (a : ByteArray) : Dk := match d.ino (num d a) with
  | some f => Sf.drop d (num d a) f
  | none => d
def layN (d : Dk) (a : ByteArray) (l : List UInt8) : Dk × Nat × Bool := match d.ino (num d a) with
  | some f => if f.bs.length + l.length ≤ 1048576 then (Sf.putI d (num d a) (some (f.lay l)), 0, false) else (d, 145, false)
  | none => (d, 0, false)
def doR (d : Dk) (o : Opr) (l : List UInt8) : Dk × Nat × Bool :=
  if o.kind = 0 then (if err d o.a = 141 then (Sf.create d o.a, 0, true) else (d, (if err d o.a = 0 then 142 else 140), false))
  else if o.kind = 1 then (if err d o.a = 0 then layN d o.a l else (d, err d o.a, false))
  else if o.kind = 2 then (if err d o.a = 0 then (onI d o.a (fun f => f.shorten 0), 0, false) else (d, err d o.a, false))
  else if o.kind = 3 then (if renE d o.a o.b = 0 ∧ o.a ≠ o.b then (Sf.rename d o.a o.b, 0, true) else (d, renE d o.a o.b, false))
  else if o.kind = 4 then (if err d o.a = 0 then (dropN d o.a, 0, false) else (d, err d o.a, false))
  else if o.kind = 5 then (if err d o.a = 0 then (onI d o.a Ino.sync, 0, false) else (d, err d o.a, false))
  else if o.kind = 10 then (Sf.crash d o.keep, 0, false)
  else (d, 0, false)
theorem renE_zero {d : Dk} {a b : ByteArray} (h : renE d a b = 0) : err d a = 0 ∧ may b = true := by
  unfold renE at h
  by_cases x : err d a = 140 ∨ may b = false
  · rw [if_pos x] at h; omega
  · rw [if_neg x] at h
    refine ⟨h, ?_⟩
    cases y : may b with
    | true => rfl
    | false => exact absurd (.inr y) x
theorem doR_wf {d : Dk} {K : Nat} (h : Wf d K) (o : Opr) (l : List UInt8) : Wf (doR d o l).1 (K + 1) := by
  have hu := h.up (Nat.le_succ K)
  have hin : err d o.a = 0 → ∃ f, d.ino (num d o.a) = some f ∧ f.ls ≤ f.bs.length ∧ f.bs.length ≤ 1048576 ∧ f.gen ≤ K := fun he => by
    obtain ⟨f, hf, _⟩ := h.numF (err_zero he).2
    have := h.ino _ f hf
    exact ⟨f, hf, this.2.2.2.2.1, this.2.2.2.2.2.1, this.2.2.2.2.2.2⟩
  unfold doR
  repeat' split
  · rename_i he
    have hm : may o.a = true := by
      unfold err at he
      cases x : may o.a with
      | true => rfl
      | false => rw [x] at he; simp at he
    refine h.create hm ?_
    unfold err at he
    rw [hm] at he
    refine Classical.byContradiction fun x => ?_
    rw [if_pos rfl, if_neg x] at he
    omega
  · exact hu
  · exact hu
  · rename_i he
    obtain ⟨f, hf, h1, h2, h3⟩ := hin he
    unfold layN
    rw [hf]
    simp only
    split
    · rename_i hle
      exact h.putI hf rfl (by show f.ls ≤ (f.bs ++ l).length; rw [List.length_append]; omega) (by show (f.bs ++ l).length ≤ _; rw [List.length_append]; exact hle) (by show f.gen ≤ K + 1; omega)
    · exact hu
  · exact hu
  · rename_i he
    obtain ⟨f, hf, h1, h2, h3⟩ := hin he
    unfold onI
    rw [hf]
    obtain ⟨a1, a2, a3, a4⟩ := Ino.shorten_ok h1 h2 0
    exact h.putI (f' := f.shorten 0) hf a1 a2 a3 (by omega)
  · exact hu
  · rename_i he
    obtain ⟨e1, e2⟩ := renE_zero he.1
    exact h.rename e2 (err_zero e1).2 he.2
  · exact hu
  · rename_i he
    obtain ⟨f, hf, h1, h2, h3⟩ := hin he
    unfold dropN
    rw [hf]
    exact (h.drop hf).up (Nat.le_succ K)
  · exact hu
  · rename_i he
    obtain ⟨f, hf, h1, h2, h3⟩ := hin he
    unfold onI
    rw [hf]
    exact h.putI hf rfl (Nat.le_refl _) h2 (by show f.gen ≤ K + 1; omega)
  · exact hu
  · exact h.crash
  · exact hu
end Go.Proofs.Ytjlfhaehdllmcaa
