/- A region that draws its order: each operation shown once, in itself: what it leaves ('G i') stands behind all others; at the end all stand. -/
import Derived.Test.YtkgpmaclaahmbaaGen
import Derived.Orders
namespace Go.Proofs.Ytkgpmaclaahmbaa
open Go

section
variable {P : Program} {ops : Array Oper} {md : Region.Mode} {Q : Exit → Act → World → Prop}

/-- how many have not come up -/
def left (ops : Array Oper) (listed : Array Bool) : Nat := ((List.range ops.size).filter fun i => !listed.getD i true).length
theorem left_zero {listed : Array Bool} (h : left ops listed = 0) : ∀ i, i < ops.size → listed.getD i true = true := by
  intro i hi
  have h1 := List.eq_nil_of_length_eq_zero h
  rw [List.filter_eq_nil_iff] at h1
  have h2 := h1 i (List.mem_range.2 hi)
  cases h3 : listed.getD i true with
  | true => rfl
  | false => exact absurd (by rw [h3]; rfl) h2
theorem left_set {listed : Array Bool} {i : Nat} (hi : i < ops.size) (h0 : listed.getD i true = false) (hsz : listed.size = ops.size) : left ops (listed.setIfInBounds i true) < left ops listed := by
  unfold left
  have hsub : ((List.range ops.size).filter fun k => !(listed.setIfInBounds i true).getD k true) = ((List.range ops.size).filter fun k => !listed.getD k true).filter fun k => !(k == i) := by
    rw [List.filter_filter]
    apply List.filter_congr
    intro k _
    by_cases e : i = k
    · subst e
      simp [hsz, hi]
    · rw [getD_set_ne true e]
      have : ¬ k = i := fun h => e h.symm
      simp [this]
  rw [hsub]
  refine List.length_filter_lt_length_iff_exists.2 ⟨i, List.mem_filter.2 ⟨List.mem_range.2 hi, by rw [h0]; rfl⟩, by simp⟩
/-- where nothing may come up, all have -/
theorem all_of_ready {listed : Array Bool} (hwf : ∀ i o e, ops[i]? = some o → e ∈ o.after → Region.binds md e = true → e.on < i) (hsz : listed.size = ops.size) (h : Region.ready md ops listed = []) : ∀ i, i < ops.size → listed.getD i true = true := by
  intro i
  induction i using Nat.strongRecOn with
  | ind i ih =>
    intro hi
    cases h3 : listed.getD i true with
    | true => rfl
    | false =>
      have hm : i ∈ Region.ready md ops listed := mem_ready.2 ⟨h3, ops[i], Array.getElem?_eq_getElem hi, fun e he hb => by
        have hlt := hwf i _ e (Array.getElem?_eq_getElem hi) he hb
        have h4 := ih e.on hlt (by omega)
        have hs : e.on < listed.size := by omega
        simp [hs] at h4 ⊢
        exact h4⟩
      rw [h] at hm
      cases hm
/-- **EACH OPERATION ONCE.** -/
theorem wpAny_each (Fr : Act → World → Prop) (G : Nat → Act → World → Prop)
    (hwf : ∀ i o e, ops[i]? = some o → e ∈ o.after → Region.binds md e = true → e.on < i)
    (hstep : ∀ i o, ops[i]? = some o → ∀ a w, Fr a w → (∀ e ∈ o.after, Region.binds md e = true → G e.on a w) → wpOp P ops Q i (fun a' w' => Fr a' w' ∧ G i a' w' ∧ ∀ j, j ≠ i → G j a w → G j a' w') a w)
    (hend : ∀ a w, Fr a w → (∀ i, i < ops.size → G i a w) → Q .normal a w) :
    ∀ (fuel : Nat) (listed : Array Bool) (a : Act) (w : World), listed.size = ops.size → left ops listed ≤ fuel → Fr a w → (∀ i, i < ops.size → listed.getD i true = true → G i a w) → wpAny P md ops Q fuel listed a w := by
  intro fuel
  induction fuel with
  | zero =>
    intro listed a w hsz hl hf hg
    have hall := left_zero (Nat.le_zero.1 hl)
    refine ⟨?_, hend a w hf (fun i hi => hg i hi (hall i hi))⟩
    apply List.eq_nil_iff_forall_not_mem.2
    intro i hi
    obtain ⟨h0, o, ho, _⟩ := mem_ready.1 hi
    have hlt := (Array.getElem?_eq_some_iff.1 ho).1
    rw [hall i hlt] at h0
    cases h0
  | succ fuel ih =>
    intro listed a w hsz hl hf hg
    refine ⟨fun h => hend a w hf (fun i hi => hg i hi (all_of_ready hwf hsz h i hi)), fun i hi => ?_⟩
    obtain ⟨h0, o, ho, hafter⟩ := mem_ready.1 hi
    have hlt := (Array.getElem?_eq_some_iff.1 ho).1
    refine wpOp_mono (fun a' w' h => ?_) (hstep i o ho a w hf (fun e he hb => ?_))
    · obtain ⟨h1, h2, h3⟩ := h
      refine ih _ a' w' (by simpa using hsz) (by have := left_set hlt h0 hsz; omega) h1 (fun j hj hlj => ?_)
      by_cases e : j = i
      · subst e; exact h2
      · rw [getD_set_ne true (Ne.symm e)] at hlj
        exact h3 j e (hg j hj hlj)
    · have h4 := hafter e he hb
      have h5 := hwf i o e ho he hb
      refine hg e.on (by omega) ?_
      have hs : e.on < listed.size := by omega
      simp [hs] at h4 ⊢
      exact h4
theorem wp_region_each {id : Nat} {a : Act} {w : World} (hm : P.follows .mixedOrders = true) (Fr : Act → World → Prop) (G : Nat → Act → World → Prop)
    (hwf : ∀ i o e, ops[i]? = some o → e ∈ o.after → Region.binds .any e = true → e.on < i)
    (hstep : ∀ i o, ops[i]? = some o → ∀ a w, Fr a w → (∀ e ∈ o.after, Region.binds .any e = true → G e.on a w) → wpOp P ops Q i (fun a' w' => Fr a' w' ∧ G i a' w' ∧ ∀ j, j ≠ i → G j a w → G j a' w') a w)
    (hend : ∀ a w, Fr a w → (∀ i, i < ops.size → G i a w) → Q .normal a w)
    (h0 : Fr a w.drew) : (Code.region id ops true).wp P Q a w := by
  refine wp_region_any hm (wpAny_each Fr G hwf hstep hend ops.size _ a _ (by simp) ?_ h0 (fun i hi h => ?_))
  · unfold left
    have := List.length_filter_le (fun i => !(Array.replicate ops.size false).getD i true) (List.range ops.size)
    simpa using this
  · simp [hi] at h
end
end Go.Proofs.Ytkgpmaclaahmbaa
