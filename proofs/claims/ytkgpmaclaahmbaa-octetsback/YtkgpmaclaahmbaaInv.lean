/- A drawn region within a round of a loop over an iterator (of the wide fence): each operation shown once, by an invariant that knows which operations have come up. -/
import Derived.Test.YtkgpmaclaahmbaaSlots
import Derived.RangeFuncCalls
import Derived.OrdersIn
namespace Go.Proofs.Ytkgpmaclaahmbaa
open Go Go.RowKit

section
variable {P : Program} {ops : Array Oper} {Q : Exit → Act → World → Prop}
theorem wpIn_of_wp {o : Oper} {a : Act} {w : World} {K : Act → World → Prop} {l n : Nat} (hd : ∀ c, o.op ≠ .defer c) (h : o.wp P a w K Q) : o.wpIn (Fence.wide.inRound l) n P a w K Q := by
  refine ⟨fun _ _ => trivial, ?_⟩
  rw [Oper.semAt_eq _ _ _ hd]
  unfold Oper.wp at h
  generalize (execOp a.eval o).run P w = r at h ⊢
  cases r with
  | ok x w' =>
    cases x with
    | value v => exact h
    | skip => exact h
    | defer d => exact h
    | enter f args => exact ⟨fun e => (by simp [Fence.wide, Fence.inRound] at e), CallsIn.inRound l (callsIn_wide.2 h)⟩
    | row r args => exact ⟨fun e => (by simp [Fence.wide, Fence.inRound] at e), fun c cs _ => let ⟨v, w', r, s⟩ := h c cs; ⟨v, w', r, stepsIn_wide.2 s⟩⟩
    | round l f tmps assign body => exact h.elim
    | _ => exact h
  | halt x w' => cases x <;> exact h
/-- the operations that have come up, one more -/
def more (L : Nat → Bool) (i : Nat) : Nat → Bool := fun j => if j = i then true else L j
theorem wpAnyIn_inv {l n : Nat} (Inv : (Nat → Bool) → Act → World → Prop)
    (hwf : ∀ i o e, ops[i]? = some o → e ∈ o.after → Region.binds .any e = true → e.on < i)
    (hstep : ∀ i o, ops[i]? = some o → o.guard = none ∧ (∀ c, o.op ≠ .defer c) ∧ ∀ L a w, Inv L a w → L i = false → (∀ e ∈ o.after, Region.binds .any e = true → L e.on = true) → ∀ Q, o.wp P a w (fun a' w' => Inv (more L i) a' w') Q)
    (hend : ∀ L a w, (∀ i, i < ops.size → L i = true) → Inv L a w → Q .normal a w) :
    ∀ (fuel : Nat) (listed : Array Bool) (a : Act) (w : World), listed.size = ops.size → left ops listed ≤ fuel → Inv (fun i => listed.getD i true) a w → wpAnyIn (Fence.wide.inRound l) n P .any ops Q fuel listed a w := by
  intro fuel
  induction fuel with
  | zero =>
    intro listed a w hsz hl hf
    have hall := left_zero (Nat.le_zero.1 hl)
    refine ⟨?_, hend _ a w (fun i hi => hall i hi) hf⟩
    apply List.eq_nil_iff_forall_not_mem.2
    intro i hi
    obtain ⟨h0, o, ho, _⟩ := mem_ready.1 hi
    have hlt := (Array.getElem?_eq_some_iff.1 ho).1
    rw [hall i hlt] at h0
    cases h0
  | succ fuel ih =>
    intro listed a w hsz hl hf
    refine ⟨fun h => hend _ a w (fun i hi => all_of_ready hwf hsz h i hi) hf, fun i hi => ?_⟩
    obtain ⟨h0, o, ho, hafter⟩ := mem_ready.1 hi
    have hlt := (Array.getElem?_eq_some_iff.1 ho).1
    obtain ⟨hg, hd, hs⟩ := hstep i o ho
    have hw := hs _ a w hf h0 (fun e he hb => by
      have h4 := hafter e he hb
      have h5 := hwf i o e ho he hb
      have hs : e.on < listed.size := by omega
      simp [hs] at h4 ⊢
      exact h4) Q
    unfold wpOpIn
    simp only [ho, wanted_free hg, if_true]
    refine Oper.wpIn_mono (fun a' w' h => ?_) (wpIn_of_wp hd hw)
    refine ih _ a' w' (by simpa using hsz) (by have := left_set hlt h0 hsz; omega) ?_
    have e : (fun j => (listed.setIfInBounds i true).getD j true) = more (fun j => listed.getD j true) i := by
      funext j
      unfold more
      by_cases e : j = i
      · subst e
        have hjs : j < listed.size := by omega
        simp [hjs]
      · rw [getD_set_ne true (Ne.symm e)]
        simp [e]
    rw [e]
    exact h
theorem wpIn_region_inv {id l n : Nat} {a : Act} {w : World} (hm : P.follows .mixedOrders = true) (Inv : (Nat → Bool) → Act → World → Prop)
    (hwf : ∀ i o e, ops[i]? = some o → e ∈ o.after → Region.binds .any e = true → e.on < i)
    (hstep : ∀ i o, ops[i]? = some o → o.guard = none ∧ (∀ c, o.op ≠ .defer c) ∧ ∀ L a w, Inv L a w → L i = false → (∀ e ∈ o.after, Region.binds .any e = true → L e.on = true) → ∀ Q, o.wp P a w (fun a' w' => Inv (more L i) a' w') Q)
    (hend : ∀ L a w, (∀ i, i < ops.size → L i = true) → Inv L a w → Q .normal a w)
    (h0 : ∀ L, (∀ i, i < ops.size → L i = false) → Inv L a w.drew) : (Code.region id ops true).wpIn (Fence.wide.inRound l) n P Q a w := by
  refine wpIn_region_any hm (wpAnyIn_inv Inv hwf hstep hend ops.size _ a _ (by simp) ?_ (h0 _ (fun i hi => by simp [hi])))
  unfold left
  have := List.length_filter_le (fun i => !(Array.replicate ops.size false).getD i true) (List.range ops.size)
  simpa using this
end
end Go.Proofs.Ytkgpmaclaahmbaa
