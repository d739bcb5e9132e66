/- A drawn region whose operations write slots one behind the other: each operation shown once, by a relation of its answer to the world that stands in all later worlds. -/
import Derived.Test.YtkgpmaclaahmbaaEach
namespace Go.Proofs.Ytkgpmaclaahmbaa
open Go Go.RowKit

section
variable {P : Program} {ops : Array Oper} {Q : Exit → Act → World → Prop}

theorem put_same {a : Act} {d : Nat} {v : Value} (h : d < a.tmps.size) : (a.put (some d) v).tmps[d]?.getD undef = v := by simp [Act.put, h]
theorem put_other {a : Act} {d e : Nat} {v : Value} (h : d ≠ e) : (a.put (some d) v).tmps[e]?.getD undef = a.tmps[e]?.getD undef := by simp [Act.put, Array.getElem?_setIfInBounds_ne h]
theorem below_step {w0 w w' : World} (h : Below w0.heap.size w0 w) (hb : Below w.heap.size w w') : Below w0.heap.size w0 w' := below_trans h hb h.size

/-- what an operation is to leave -/
def Leaves (R : Value → World → Prop) (o : Oper) (a : Act) (w : World) : Act → World → Prop := fun a' w' => ∃ v, a' = a.put o.dst v ∧ Below w.heap.size w w' ∧ R v w'
theorem wp_region_seq {id : Nat} {a : Act} {w0 : World} (hm : P.follows .mixedOrders = true) (base : Nat) (R : Nat → Value → World → Prop) (F0 : Act → Prop)
    (hup : ∀ i v w w', R i v w → Below w.heap.size w w' → R i v w')
    (hF0 : ∀ a i v, i < ops.size → F0 a → F0 (a.put (some (base + i)) v)) (hsz : ∀ a, F0 a → base + ops.size ≤ a.tmps.size)
    (hdst : ∀ i o, ops[i]? = some o → o.dst = some (base + i))
    (hwf : ∀ i o e, ops[i]? = some o → e ∈ o.after → Region.binds .any e = true → e.on < i)
    (hstep : ∀ i o, ops[i]? = some o → ∀ a w, F0 a → Below w0.heap.size w0 w → (∀ e ∈ o.after, Region.binds .any e = true → R e.on (a.tmps[base + e.on]?.getD undef) w) →
      (Region.wanted o (yielded ops a.tmps) = true → o.wp P a w (Leaves (R i) o a w) Q) ∧ (Region.wanted o (yielded ops a.tmps) = false → R i undef w))
    (hend : ∀ a w, F0 a → Below w0.heap.size w0 w → (∀ i, i < ops.size → R i (a.tmps[base + i]?.getD undef) w) → Q .normal a w)
    (h0 : F0 a) : (Code.region id ops true).wp P Q a w0 := by
  refine wp_region_each hm (fun a w => F0 a ∧ Below w0.heap.size w0 w) (fun i a w => R i (a.tmps[base + i]?.getD undef) w) hwf (fun i o ho a w hf hg => ?_) (fun a w hf hg => hend a w hf.1 hf.2 hg) ⟨h0, (Below.refl _ _).drew⟩
  obtain ⟨hw, hn⟩ := hstep i o ho a w hf.1 hf.2 hg
  have hi := (Array.getElem?_eq_some_iff.1 ho).1
  have hd := hdst i o ho
  have hs := hsz a hf.1
  unfold wpOp
  simp only [ho]
  split
  · rename_i hwt
    refine .inl (Oper.wp_mono (fun a' w' h => ?_) (hw hwt))
    obtain ⟨v, rfl, hb, hr⟩ := h
    rw [hd]
    refine ⟨⟨hF0 a i v hi hf.1, below_step hf.2 hb⟩, ?_, fun j hj hgj => ?_⟩
    · show R i _ _
      rw [put_same (by omega)]
      exact hr
    · show R j _ _
      rw [put_other (by omega)]
      exact hup j _ _ _ hgj hb
  · rename_i hwt
    rw [hd]
    refine ⟨⟨hF0 a i undef hi hf.1, hf.2⟩, ?_, fun j hj hgj => ?_⟩
    · show R i _ _
      rw [put_same (by omega)]
      exact hn (by simpa using hwt)
    · show R j _ _
      rw [put_other (by omega)]
      exact hgj
/-- an operation that yields a value -/
theorem ob_value {o : Oper} {a : Act} {w w' : World} {R : Value → World → Prop} {v : Value} (h : (execOp a.eval o).run P w = .ok (.value v) w') (hb : Below w.heap.size w w') (hR : R v w') : o.wp P a w (Leaves R o a w) Q := by
  unfold Oper.wp
  rw [h]
  exact ⟨v, rfl, hb, hR⟩
/-- a call by its contract -/
theorem ob_enter {o : Oper} {a : Act} {w : World} {R : Value → World → Prop} {f : FuncId} {args : Array Value} (h : (execOp a.eval o).run P w = .ok (.enter f args) w) (hc : Calls P f args w fun e w' => ∃ v, e = .returned v ∧ Below w.heap.size w w' ∧ R v w') : o.wp P a w (Leaves R o a w) Q := by
  unfold Oper.wp
  rw [h]
  refine hc.mono ?_
  rintro e w' ⟨v, rfl, hb, hR⟩
  exact ⟨v, rfl, hb, hR⟩
end
end Go.Proofs.Ytkgpmaclaahmbaa
