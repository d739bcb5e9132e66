/- Laid by ext.py: what this seat takes of stages 4 and 7. -/
import Derived.Test.YtdngileimmgdnaaDoorRows
import Derived.WalkKit
import Derived.WalkLawsBesides
import Derived.WalkSpells
import Derived.OwnWalk
import Derived.Laws.BitsAllLaws
import Derived.Deep.QuietTactic
import Derived.BigQuiet
import Derived.Laws.StructEq
import Derived.Orders
import Derived.Deep.AppendLies
import Derived.WideShapes
import Derived.Deep.DeepAppendRoom
import Derived.Deep.DrawnRows
import Derived.Deep.DeepCutAuto
namespace Go.Proofs.YtdngileimmgdnaaDoor
open Go.RowKit
attribute [local go_sem ↓] Go.wp_at_zero Go.wp_at_succ
theorem ret_int {k : IntKind} {a b : Int} (h : a = b) : Ending.returned (.int k a) = .returned (.int k b) := by rw [h]
theorem ret_bool {a b : Bool} (h : a = b) : Ending.returned (.bool a) = .returned (.bool b) := by rw [h]
theorem below_trans {w w1 w2 : World} {B : Nat} (h1 : Below B w w1) (h2 : Below w1.heap.size w1 w2) (hB : B ≤ w1.heap.size) : Below B w w2 := h1.trans (h2.mono hB)
/-- a world in which all that w had stands as it stood -/
structure Later (w : World) where
  at_ : World
  below : Below w.heap.size w at_
theorem wp_region_later {P : Program} {id : Nat} {Q : Exit → Act → World → Prop} {a : Act} {w : World} {l : List Oper} (hm : P.follows .mixedOrders = true) (hB : Region.lexB .any l.toArray = true)
    (h : wpQuiet P l.toArray (fun w' => ∃ u : Later w, w' = u.at_) (fun a' => ∀ w', (∃ u : Later w, w' = u.at_) → Q .normal a' w') l a) : (Code.region id l.toArray true).wp P Q a w :=
  wp_region_quiet (C := fun w' => ∃ u : Later w, w' = u.at_) hm hB ⟨⟨w.drew, (Below.refl _ _).drew⟩, rfl⟩ (by simpa using h)
theorem calls_later {P : Program} {f : FuncId} {args : Array Value} {w : World} {u : Later w} {v : Value} (h : Calls P f args u.at_ fun e w' => e = .returned v ∧ Below u.at_.heap.size u.at_ w') :
    Calls P f args u.at_ fun e w'' => e = .returned v ∧ ∃ m : Later w, w'' = m.at_ :=
  h.mono fun _ w' ⟨he, hb⟩ => ⟨he, ⟨w', below_trans u.below hb u.below.size⟩, rfl⟩
theorem calls_later_same {P : Program} {f : FuncId} {args : Array Value} {w : World} {u : Later w} {v : Value} (h : Calls P f args u.at_ fun e w' => e = .returned v ∧ w' = u.at_) :
    Calls P f args u.at_ fun e w'' => e = .returned v ∧ ∃ m : Later w, w'' = m.at_ :=
  h.mono fun _ _ ⟨he, hb⟩ => ⟨he, u, hb⟩
section
variable {P : Program} {ops : Array Oper} {md : Region.Mode} {Q : Exit → Act → World → Prop}
/-- how many have not come up -/
def left (ops : Array Oper) (listed : Array Bool) : Nat := ((List.range ops.size).filter fun i => !listed.getD i true).length
theorem left_zero {listed : Array Bool} (h : left ops listed = 0) : ∀ i, i < ops.size → listed.getD i true = true := by
  intro i hi
  have h1 := List.eq_nil_of_length_eq_zero h
  rw [List.filter_eq_nil_iff] at h1
  have h2 := h1 i (List.mem_range.2 hi)
  cases h3 : listed.getD i true with
  | true => rfl
  | false => exact absurd (by rw [h3]; rfl) h2
theorem left_set {listed : Array Bool} {i : Nat} (hi : i < ops.size) (h0 : listed.getD i true = false) (hsz : listed.size = ops.size) : left ops (listed.setIfInBounds i true) < left ops listed := by
  unfold left
  have hsub : ((List.range ops.size).filter fun k => !(listed.setIfInBounds i true).getD k true) = ((List.range ops.size).filter fun k => !listed.getD k true).filter fun k => !(k == i) := by
    rw [List.filter_filter]
    apply List.filter_congr
    intro k _
    by_cases e : i = k
    · subst e
      simp [hsz, hi]
    · rw [getD_set_ne true e]
      have : ¬ k = i := fun h => e h.symm
      simp [this]
  rw [hsub]
  refine List.length_filter_lt_length_iff_exists.2 ⟨i, List.mem_filter.2 ⟨List.mem_range.2 hi, by rw [h0]; rfl⟩, by simp⟩
/-- where nothing may come up, all have -/
theorem all_of_ready {listed : Array Bool} (hwf : ∀ i o e, ops[i]? = some o → e ∈ o.after → Region.binds md e = true → e.on < i) (hsz : listed.size = ops.size) (h : Region.ready md ops listed = []) : ∀ i, i < ops.size → listed.getD i true = true := by
  intro i
  induction i using Nat.strongRecOn with
  | ind i ih =>
    intro hi
    cases h3 : listed.getD i true with
    | true => rfl
    | false =>
      have hm : i ∈ Region.ready md ops listed := mem_ready.2 ⟨h3, ops[i], Array.getElem?_eq_getElem hi, fun e he hb => by
        have hlt := hwf i _ e (Array.getElem?_eq_getElem hi) he hb
        have h4 := ih e.on hlt (by omega)
        have hs : e.on < listed.size := by omega
        simp [hs] at h4 ⊢
        exact h4⟩
      rw [h] at hm
      cases hm
end
section
variable {P : Program} {ops : Array Oper} {Q : Exit → Act → World → Prop}
theorem put_same {a : Act} {d : Nat} {v : Value} (h : d < a.tmps.size) : (a.put (some d) v).tmps[d]?.getD undef = v := by simp [Act.put, h]
theorem put_other {a : Act} {d e : Nat} {v : Value} (h : d ≠ e) : (a.put (some d) v).tmps[e]?.getD undef = a.tmps[e]?.getD undef := by simp [Act.put, Array.getElem?_setIfInBounds_ne h]
theorem below_step {w0 w w' : World} (h : Below w0.heap.size w0 w) (hb : Below w.heap.size w w') : Below w0.heap.size w0 w' := below_trans h hb h.size
/-- what an operation is to leave -/
def Leaves (R : Value → World → Prop) (o : Oper) (a : Act) (w : World) : Act → World → Prop := fun a' w' => ∃ v, a' = a.put o.dst v ∧ Below w.heap.size w w' ∧ R v w'
end
/-- the operations of a region of a body -/
def opsIn (id : Nat) : Code → Option (Array Oper)
  | .region i ops _ => if i = id then some ops else none
  | .seq c d => match opsIn id c with
    | some x => some x
    | none => opsIn id d
  | .cond _ c d => match opsIn id c with
    | some x => some x
    | none => opsIn id d
  | .block _ c => opsIn id c
  | .loop c => opsIn id c
  | .scope c => opsIn id c
  | .rangeFunc _ _ c d => match opsIn id c with
    | some x => some x
    | none => opsIn id d
  | _ => none
def opsOf (f : Func) (id : Nat) : Array Oper := match f.body with
  | some c => (opsIn id c).getD #[]
  | none => #[]
abbrev T (a : Act) (k : Nat) : Value := a.tmps[k]?.getD undef
def AllFrom (p : Nat → Oper → Prop) : Nat → List Oper → Prop
  | _, [] => True
  | k, o :: l => p k o ∧ AllFrom p (k + 1) l
theorem allFrom_at {p : Nat → Oper → Prop} {l : List Oper} : ∀ {k : Nat}, AllFrom p k l → ∀ i o, l[i]? = some o → p (k + i) o := by
  induction l with
  | nil => intro k _ i o h; simp at h
  | cons x l ih =>
    intro k h i o hi
    cases i with
    | zero => simp at hi; subst hi; exact h.1
    | succ i =>
      have := ih h.2 i o (by simpa using hi)
      rwa [show k + 1 + i = k + (i + 1) by omega] at this
section
variable {P : Program} {ops : Array Oper} {Q : Exit → Act → World → Prop}
/-- what is owed for one operation -/
def Duty (P : Program) (ops : Array Oper) (w0 : World) (D : Nat → Nat) (R : Nat → Value → World → Prop) (F0 : Act → Prop) (i : Nat) (o : Oper) : Prop :=
  o.dst = some (D i) ∧ (∀ e ∈ o.after, e.on < i) ∧ ∀ a w, F0 a → Below w0.heap.size w0 w → (∀ e ∈ o.after, Region.binds .any e = true → R e.on (T a (D e.on)) w) →
    (Region.wanted o (yielded ops a.tmps) = true → ∀ Q, o.wp P a w (Leaves (R i) o a w) Q) ∧ (Region.wanted o (yielded ops a.tmps) = false → R i undef w)
theorem wanted_free {o : Oper} {y : Nat → Option Bool} (h : o.guard = none) : Region.wanted o y = true := by unfold Region.wanted; rw [h]
section
variable {P : Program} {ops : Array Oper} {Q : Exit → Act → World → Prop}
/-- the operations that have come up, one more -/
def more (L : Nat → Bool) (i : Nat) : Nat → Bool := fun j => if j = i then true else L j
theorem wpAny_inv (Inv : (Nat → Bool) → Act → World → Prop)
    (hwf : ∀ i o e, ops[i]? = some o → e ∈ o.after → Region.binds .any e = true → e.on < i)
    (hstep : ∀ i o, ops[i]? = some o → o.guard = none ∧ ∀ L a w, Inv L a w → L i = false → (∀ e ∈ o.after, Region.binds .any e = true → L e.on = true) → o.wp P a w (fun a' w' => Inv (more L i) a' w') Q)
    (hend : ∀ L a w, (∀ i, i < ops.size → L i = true) → Inv L a w → Q .normal a w) :
    ∀ (fuel : Nat) (listed : Array Bool) (a : Act) (w : World), listed.size = ops.size → left ops listed ≤ fuel → Inv (fun i => listed.getD i true) a w → wpAny P .any ops Q fuel listed a w := by
  intro fuel
  induction fuel with
  | zero =>
    intro listed a w hsz hl hf
    have hall := left_zero (Nat.le_zero.1 hl)
    refine ⟨?_, hend _ a w (fun i hi => hall i hi) hf⟩
    apply List.eq_nil_iff_forall_not_mem.2
    intro i hi
    obtain ⟨h0, o, ho, _⟩ := mem_ready.1 hi
    have hlt := (Array.getElem?_eq_some_iff.1 ho).1
    rw [hall i hlt] at h0
    cases h0
  | succ fuel ih =>
    intro listed a w hsz hl hf
    refine ⟨fun h => hend _ a w (fun i hi => all_of_ready hwf hsz h i hi) hf, fun i hi => ?_⟩
    obtain ⟨h0, o, ho, hafter⟩ := mem_ready.1 hi
    have hlt := (Array.getElem?_eq_some_iff.1 ho).1
    obtain ⟨hg, hs⟩ := hstep i o ho
    have hw := hs _ a w hf h0 (fun e he hb => by
      have h4 := hafter e he hb
      have h5 := hwf i o e ho he hb
      have hs : e.on < listed.size := by omega
      simp [hs] at h4 ⊢
      exact h4)
    unfold wpOp
    simp only [ho, wanted_free hg, if_true]
    refine .inl (Oper.wp_mono (fun a' w' h => ?_) hw)
    refine ih _ a' w' (by simpa using hsz) (by have := left_set hlt h0 hsz; omega) ?_
    have e : (fun j => (listed.setIfInBounds i true).getD j true) = more (fun j => listed.getD j true) i := by
      funext j
      unfold more
      by_cases e : j = i
      · subst e
        have hjs : j < listed.size := by omega
        simp [hjs]
      · rw [getD_set_ne true (Ne.symm e)]
        simp [e]
    rw [e]
    exact h
theorem wp_region_inv {id : Nat} {a : Act} {w : World} (hm : P.follows .mixedOrders = true) (Inv : (Nat → Bool) → Act → World → Prop)
    (hwf : ∀ i o e, ops[i]? = some o → e ∈ o.after → Region.binds .any e = true → e.on < i)
    (hstep : ∀ i o, ops[i]? = some o → o.guard = none ∧ ∀ L a w, Inv L a w → L i = false → (∀ e ∈ o.after, Region.binds .any e = true → L e.on = true) → o.wp P a w (fun a' w' => Inv (more L i) a' w') Q)
    (hend : ∀ L a w, (∀ i, i < ops.size → L i = true) → Inv L a w → Q .normal a w)
    (h0 : ∀ L, (∀ i, i < ops.size → L i = false) → Inv L a w.drew) : (Code.region id ops true).wp P Q a w := by
  refine wp_region_any hm (wpAny_inv Inv hwf hstep hend ops.size _ a _ (by simp) ?_ (h0 _ (fun i hi => by simp [hi])))
  unfold left
  have := List.length_filter_le (fun i => !(Array.replicate ops.size false).getD i true) (List.range ops.size)
  simpa using this
end
section
variable {P : Program} {ops : Array Oper} {Q : Exit → Act → World → Prop}
/-- each operation ahead of n is waited for by a later one -/
def covers (ops : Array Oper) (n : Nat) : Bool := (List.range n).all fun i => (List.range (n + 1)).any fun j => decide (i < j) && match ops[j]? with
  | some o => o.after.any fun e => e.on == i && Region.binds .any e
  | none => false
theorem covers_all {n : Nat} (h : covers ops n = true) {L : Nat → Bool} (hc : ∀ i o e, ops[i]? = some o → e ∈ o.after → Region.binds .any e = true → L i = true → L e.on = true) (hn : L n = true) : ∀ i, i ≤ n → L i = true := by
  suffices hs : ∀ k i, i ≤ n → n - i ≤ k → L i = true from fun i hi => hs (n - i) i hi (Nat.le_refl _)
  intro k
  induction k with
  | zero => intro i hi hk; rw [show i = n by omega]; exact hn
  | succ k ih =>
    intro i hi hk
    by_cases e : i = n
    · rw [e]; exact hn
    · have h1 := List.all_eq_true.1 h i (List.mem_range.2 (by omega))
      obtain ⟨j, hj, h2⟩ := List.any_eq_true.1 h1
      have hj := List.mem_range.1 hj
      rw [Bool.and_eq_true] at h2
      have hij := of_decide_eq_true h2.1
      have h3 := h2.2
      cases ho : ops[j]? with
      | none => rw [ho] at h3; cases h3
      | some o =>
        rw [ho] at h3
        have h3 : (o.after.any fun e => e.on == i && Region.binds .any e) = true := h3
        rw [Array.any_eq_true'] at h3
        obtain ⟨x, hx, h4⟩ := h3
        rw [Bool.and_eq_true] at h4
        have := hc j o x ho hx h4.2 (ih j (by omega) (by omega))
        rwa [eq_of_beq h4.1] at this
theorem wp_region_last {id : Nat} {a : Act} {w0 : World} (hm : P.follows .mixedOrders = true) (n : Nat) (hn : ops.size = n + 1) (D : Nat → Nat) (R : Nat → Value → World → Prop) (F0 : Act → Prop)
    (hup : ∀ i v w w', R i v w → Below w.heap.size w w' → R i v w')
    (hF0 : ∀ a i v, i < n → F0 a → F0 (a.put (some (D i)) v)) (hsz : ∀ a i, i < n → F0 a → D i < a.tmps.size)
    (hinj : ∀ i j, i < n → j < n → D i = D j → i = j)
    (hcov : covers ops n = true)
    (hduty : AllFrom (fun i o => (i < n → o.guard = none ∧ Duty P ops w0 D R F0 i o) ∧ (n ≤ i → o.guard = none ∧ (∀ e ∈ o.after, e.on < n) ∧ ∀ a w, F0 a → Below w0.heap.size w0 w → (∀ i, i < n → R i (T a (D i)) w) → o.wp P a w (Q .normal) Q)) 0 ops.toList)
    (h0 : F0 a) : (Code.region id ops true).wp P Q a w0 := by
  have hd : ∀ i o, ops[i]? = some o → i < n → o.guard = none ∧ Duty P ops w0 D R F0 i o := fun i o ho hi => by
    have := allFrom_at hduty i o (by simpa using ho)
    rw [Nat.zero_add] at this
    exact this.1 hi
  have hlast : ∀ o, ops[n]? = some o → o.guard = none ∧ (∀ e ∈ o.after, e.on < n) ∧ ∀ a w, F0 a → Below w0.heap.size w0 w → (∀ i, i < n → R i (T a (D i)) w) → o.wp P a w (Q .normal) Q := fun o ho => by
    have := allFrom_at hduty n o (by simpa using ho)
    rw [Nat.zero_add] at this
    exact this.2 (Nat.le_refl _)
  refine wp_region_inv hm (fun L a w => (∀ i o e, ops[i]? = some o → e ∈ o.after → Region.binds .any e = true → L i = true → L e.on = true) ∧ (L n = true → Q .normal a w) ∧ (L n = false → F0 a ∧ Below w0.heap.size w0 w ∧ ∀ i, i < n → L i = true → R i (T a (D i)) w)) ?wf ?step ?fin ?zero
  case wf =>
    intro i o e ho he _
    have hi := (Array.getElem?_eq_some_iff.1 ho).1
    by_cases hl : i < n
    · exact (hd i o ho hl).2.2.1 e he
    · have : i = n := by omega
      subst this
      exact (hlast o ho).2.1 e he
  case zero =>
    intro L hL
    refine ⟨fun i o e ho _ _ h => ?_, fun h => ?_, fun _ => ⟨h0, (Below.refl _ _).drew, fun i hi h => ?_⟩⟩
    · rw [hL i (Array.getElem?_eq_some_iff.1 ho).1] at h; cases h
    · rw [hL n (by omega)] at h; cases h
    · rw [hL i (by omega)] at h; cases h
  case fin =>
    intro L a w hL hI
    exact hI.2.1 (hL n (by omega))
  case step =>
    intro i o ho
    have hi := (Array.getElem?_eq_some_iff.1 ho).1
    have hclose : ∀ L : Nat → Bool, (∀ i o e, ops[i]? = some o → e ∈ o.after → Region.binds .any e = true → L i = true → L e.on = true) → (∀ e ∈ o.after, Region.binds .any e = true → L e.on = true) → ∀ j p e, ops[j]? = some p → e ∈ p.after → Region.binds .any e = true → more L i j = true → more L i e.on = true := fun L h1 h2 j p e hp he hb hj => by
      unfold more at hj ⊢
      by_cases hji : j = i
      · subst hji
        rw [ho] at hp
        cases hp
        simp [h2 e he hb]
      · rw [if_neg hji] at hj
        simp [h1 j p e hp he hb hj]
    by_cases hl : i < n
    · obtain ⟨hg, hdst, hlt, hst⟩ := hd i o ho hl
      refine ⟨hg, fun L a w hI hLi hE => ?_⟩
      have hLn : L n = false := by
        cases h : L n with
        | false => rfl
        | true => rw [covers_all hcov hI.1 h i (by omega)] at hLi; cases hLi
      obtain ⟨hF, hB, hR⟩ := hI.2.2 hLn
      have hw := (hst a w hF hB (fun e he hb => hR e.on (Nat.lt_trans (hlt e he) hl) (hE e he hb))).1 (wanted_free hg) Q
      refine Oper.wp_mono ?_ hw
      rintro a' w' ⟨v, rfl, hb, hr⟩
      have hne : n ≠ i := by omega
      have hmn : more L i n = L n := by unfold more; rw [if_neg hne]
      refine ⟨hclose L hI.1 hE, fun h => absurd (hmn.symm.trans h) (by rw [hLn]; simp), fun _ => ?_⟩
      rw [hdst]
      refine ⟨hF0 a i v hl hF, below_step hB hb, fun j hj hmj => ?_⟩
      by_cases hji : j = i
      · subst hji
        unfold T
        rw [put_same (hsz a j hl hF)]
        exact hr
      · unfold T
        rw [put_other (fun e => hji (hinj i j hl hj e).symm)]
        have : L j = true := by unfold more at hmj; rwa [if_neg hji] at hmj
        exact hup j _ _ _ (hR j hj this) hb
    · have : i = n := by omega
      subst this
      obtain ⟨hg, hlt, hst⟩ := hlast o ho
      refine ⟨hg, fun L a w hI hLi hE => ?_⟩
      obtain ⟨hF, hB, hR⟩ := hI.2.2 hLi
      have hall := covers_all hcov (L := more L i) (hclose L hI.1 hE) (by simp [more])
      have hall' : ∀ j, j < i → L j = true := fun j hj => by
        have := hall j (by omega)
        unfold more at this
        rwa [if_neg (by omega)] at this
      refine Oper.wp_mono ?_ (hst a w hF hB (fun j hj => hR j hj (hall' j hj)))
      intro a' w' hq
      exact ⟨hclose L hI.1 hE, fun _ => hq, fun h => by simp [more] at h⟩
theorem heap_set {w : World} {A : Nat} {c : Array Value} {t : TypeId} {fz : Nat × Nat} (h : w.heap[A]? = some (.cells c t fz)) (j : Nat) (v : Value) : (w.setCell ⟨A, j, none⟩ v).heap[A]? = some (.cells (c.setIfInBounds j v) t fz) := by
  simp only [World.setCell, Array.getElem?_modify, h]
  rfl
theorem ownsRow_keep {w w' : World} {base : Nat} {e : TypeId} {size : Nat} {v : Value} {n : Nat} {xs : List Value} (h : w.ownsRow base e size v n xs) (hk : ∀ g, v.ownBlock = some g → base ≤ g → g < w.heap.size → w'.heap[g]? = w.heap[g]?) : w'.ownsRow base e size v n xs := by
  refine ⟨h.1, ?_⟩
  rcases h.2 with h2 | ⟨g, cap, cur, rfl, hBg, hg, rest⟩
  · exact Or.inl h2
  · exact Or.inr ⟨g, cap, cur, rfl, hBg, by rw [hk g rfl hBg (Array.getElem?_eq_some_iff.1 hg).1]; exact hg, rest⟩
/-- a block of an element type -/
def TyB (w : World) (t : TypeId) (b : Nat) : Prop := ∃ c z, w.heap[b]? = some (.cells c t z)
theorem TyB.same {w w' : World} {t : TypeId} {b : Nat} (h : TyB w t b) (e : w'.heap[b]? = w.heap[b]?) : TyB w' t b := by
  obtain ⟨c, z, hc⟩ := h
  exact ⟨c, z, e.trans hc⟩
theorem TyB.ne {w : World} {t u : TypeId} {b : Nat} (h : TyB w t b) (h2 : TyB w u b) : t = u := by
  obtain ⟨c, z, hc⟩ := h
  obtain ⟨c', z', hc'⟩ := h2
  rw [hc] at hc'
  simp at hc'
  exact hc'.2.1
theorem below_low {b c : Nat} {w w' : World} (h : Below b w w') (hc : c ≤ b) : Below c w w' := ⟨h.os, h.tape, h.output, h.size, fun k hk => h.block k (Nat.lt_of_lt_of_le hk hc)⟩
theorem below_two {b : Nat} {w u v : World} (h : Below b w u) (h2 : Below b u v) : Below b w v :=
  ⟨h2.os.trans h.os, h2.tape.trans h.tape, h2.output.trans h.output, Nat.le_trans h.size h2.size, fun k hk => (h2.block k hk).trans (h.block k hk)⟩
/-- A ROW OF NUMBERS OF THE CALL's OWN. -/
def RowI (w : World) (base : Nat) (V : Value) (l : List Nat) : Prop := w.ownsRow base 3 1 V l.length (l.map fun a => Value.int .i64 (a : Nat))
theorem info3 : (Tryd.prog.info? 3).map (fun i => (i.zero, i.size, i.bytes)) = some (some (.int .i64 0), 1, 8) := by kernel_rfl
theorem rowI_nil (w : World) (base : Nat) : RowI w base (.slice none 0 0) [] := World.ownsRow_nil w base 3 1
theorem RowI.ty {w : World} {base : Nat} {V : Value} {l : List Nat} (h : RowI w base V l) : ∀ b, V.ownBlock = some b → base ≤ b ∧ TyB w 3 b := by
  intro b hb
  rcases h.2 with ⟨rfl, _⟩ | ⟨g, cap, cur, rfl, hbg, hg, _⟩
  · simp [Value.ownBlock] at hb
  · simp [Value.ownBlock] at hb
    subst hb
    exact ⟨hbg, ⟨_, _, hg⟩⟩
theorem RowI.keep {w w' : World} {base : Nat} {V : Value} {l : List Nat} (h : RowI w base V l) (hk : ∀ b, base ≤ b → b < w.heap.size → TyB w 3 b → w'.heap[b]? = w.heap[b]?) : RowI w' base V l := by
  refine ⟨h.1, ?_⟩
  rcases h.2 with h6 | ⟨g, cap, cur, rfl, hBg, hg, rest⟩
  · exact Or.inl h6
  · exact Or.inr ⟨g, cap, cur, rfl, hBg, (hk g hBg (Array.getElem?_eq_some_iff.1 hg).1 ⟨_, _, hg⟩).trans hg, rest⟩
theorem RowI.form {w : World} {base : Nat} {V : Value} {l : List Nat} (h : RowI w base V l) : ∃ (a : Option Addr) (c : Nat), V = .slice a l.length c ∧ l.length ≤ c ∧ c ≤ maxLen := by
  rcases h.2 with ⟨hv, hn⟩ | ⟨g, cap, cur, hv, hbg, hg, h1, h2, h3, h4⟩
  · exact ⟨none, 0, by rw [hv, hn], by omega, by decide⟩
  · exact ⟨_, cap, hv, h1, h2⟩
theorem RowI.at {w : World} {base : Nat} {a : Option Addr} {n c : Nat} {l : List Nat} (h : RowI w base (.slice a n c) l) {j x : Nat} (hx : l[j]? = some x) : ∃ g, a = some ⟨g, 0, none⟩ ∧ w.cell? ⟨g, j, none⟩ = some (.int .i64 (x : Nat)) := by
  have hj := (List.getElem?_eq_some_iff.1 hx).1
  rcases h.2 with ⟨hv, hn⟩ | ⟨g, cap, cur, hv, hbg, hg, h1, h2, h3, h4⟩
  · omega
  · cases hv
    refine ⟨g, rfl, ?_⟩
    have e : (l.map fun a => Value.int .i64 (a : Nat))[j]? = some (.int .i64 (x : Nat)) := by rw [List.getElem?_map, hx]; rfl
    rw [← h4, List.getElem?_take_of_lt (by omega)] at e
    simp only [World.cell?, hg]
    simpa using e
theorem wpList_append_int {w : World} {ops : Array Oper} {rest : List Oper} {o : Oper} {a : Act} {Q : Exit → Act → World → Prop} (hgd : o.guard = none) (s y : Operand)
    (ho : o.op = .call { callee := .builtin .append, args := #[s, y], argTypes := #[41, 41] })
    (base : Nat) (V : Value) (l : List Nat) (hs : a.eval s = V) (hn : RowI w base V l) (ad : Addr) (cap : Nat) (x : Nat) (hy : a.eval y = .slice (some ad) 1 cap) (hc : w.cell? ad = some (.int .i64 (x : Nat))) (hl : l.length ≤ 2000000) (hb : base ≤ w.heap.size)
    (h : ∀ g cap' w', RowI w' base (.slice (some ⟨g, 0, none⟩) (l.length + 1) cap') (l ++ [x]) → w.grownBy w' V.ownBlock → wpList Tryd.prog ops Q rest (a.put o.dst (.slice (some ⟨g, 0, none⟩) (l.length + 1) cap')) w') : wpList Tryd.prog ops Q (o :: rest) a w := by
  refine wpList_plain hgd fun K hK => ?_
  obtain ⟨i0, hi, hz0, hz1, hz2⟩ := info_parts info3
  obtain ⟨g, cap', w', hr, ho2, hg, hgg, hlt⟩ := run_append_lies (P := Tryd.prog) w 41 o.type base 3 i0 _ 1 8 Tryd.underlying41 hi hz0 hz1 hz2 rfl (by decide) V l.length _ hn ad 1 cap [.int .i64 (x : Nat)] rfl
    (fun j v hj => by
      cases j with
      | zero => simp at hj; subst hj; simpa [Addr.add] using hc
      | succ j => simp at hj) (fun v hv => by simp at hv; subst hv; rfl) (by decide) (by simp only [maxLen]; omega) (by omega) hb w.heap.size rfl
  unfold Oper.wp execOp
  simp only [ho, resolve, invoke, builtin, Sem.run_bind, Sem.run_pure, Result.andThen_ok, List.map_toArray, List.map_cons, List.map_nil, hs, hy, hr]
  refine hK _ _ (h g cap' w' ?_ hg)
  unfold RowI
  rw [List.length_append, List.map_append]
  exact ho2
def UAt (X : Nat → Prop) (w : World) (a : Option Addr) (rs : List Nat) : Prop := rs = [] ∨ ∃ b off, a = some ⟨b, off, none⟩ ∧ X b ∧ ∀ j x, rs[j]? = some x → w.cell? ⟨b, off + j, none⟩ = some (.int .u32 (x : Nat))
theorem lt_of_cell {w : World} {b j : Nat} {v : Value} (h : w.cell? ⟨b, j, none⟩ = some v) : b < w.heap.size := by
  cases hg : w.heap[b]? with
  | none => simp [World.cell?, hg] at h
  | some o => exact (Array.getElem?_eq_some_iff.1 hg).1
theorem UAt.keep {X Y : Nat → Prop} {w w' : World} {a : Option Addr} {rs : List Nat} (h : UAt X w a rs) (hXY : ∀ b, X b → b < w.heap.size → Y b) (hk : ∀ b, X b → b < w.heap.size → w'.heap[b]? = w.heap[b]?) : UAt Y w' a rs := by
  rcases h with h | ⟨b, off, rfl, hX, hc⟩
  · exact Or.inl h
  · cases rs with
    | nil => exact Or.inl rfl
    | cons e es =>
      have hlt : b < w.heap.size := lt_of_cell (hc 0 _ rfl)
      exact Or.inr ⟨b, off, rfl, hXY b hX hlt, fun j v hj => (World.cell?_of_block (a := ⟨b, off + j, none⟩) (hk b hX hlt)).trans (hc j v hj)⟩
def wds (rs : List Nat) : List Value := rs.map fun x => Value.int .u32 (x : Nat)
theorem wds_length (rs : List Nat) : (wds rs).length = rs.length := List.length_map _
def RowU (w : World) (base : Nat) (V : Value) (rs : List Nat) : Prop := w.ownsRow base 27 1 V rs.length (wds rs)
theorem infoU : (Tryd.prog.info? 27).map (fun i => (i.zero, i.size, i.bytes)) = some (some (.int .u32 0), 1, 4) := by kernel_rfl
theorem rowU_nil (w : World) (base : Nat) : RowU w base (.slice none 0 0) [] := World.ownsRow_nil w base 27 1
section
variable {w w' : World} {base : Nat} {V : Value} {rs : List Nat}
theorem RowU.ty (h : RowU w base V rs) : ∀ b, V.ownBlock = some b → base ≤ b ∧ TyB w 27 b := by
  intro b hb
  rcases h.2 with ⟨rfl, _⟩ | ⟨g, cap, cur, rfl, hbg, hg, _⟩
  · simp [Value.ownBlock] at hb
  · simp [Value.ownBlock] at hb
    subst hb
    exact ⟨hbg, ⟨_, _, hg⟩⟩
theorem RowU.keep (h : RowU w base V rs) (hk : ∀ b, base ≤ b → b < w.heap.size → TyB w 27 b → w'.heap[b]? = w.heap[b]?) : RowU w' base V rs := by
  refine ⟨h.1, ?_⟩
  rcases h.2 with h6 | ⟨g, cap, cur, rfl, hBg, hg, rest⟩
  · exact Or.inl h6
  · exact Or.inr ⟨g, cap, cur, rfl, hBg, (hk g hBg (Array.getElem?_eq_some_iff.1 hg).1 ⟨_, _, hg⟩).trans hg, rest⟩
theorem RowU.later (h : RowU w base V rs) (hb : Below w.heap.size w w') : RowU w' base V rs := h.keep (fun b _ hlt _ => hb.block b hlt)
theorem RowU.set (h : RowU w base V rs) {A : Nat} {t : TypeId} (hA : TyB w t A) (ht : t ≠ 27) (j : Nat) (v : Value) : RowU (w.setCell ⟨A, j, none⟩ v) base V rs :=
  h.keep (fun b _ _ hb => Below.heap_setCell w ⟨A, j, none⟩ v b (fun e => by have e : b = A := e; subst e; exact ht (TyB.ne hA hb)))
theorem RowU.form (h : RowU w base V rs) : ∃ a c, V = .slice a rs.length c ∧ rs.length ≤ c ∧ c ≤ maxLen := by
  rcases h.2 with ⟨hv, hn⟩ | ⟨g, cap, cur, hv, hbg, hg, h1, h2, h3, h4⟩
  · exact ⟨none, 0, by rw [hv, hn], by omega, by decide⟩
  · exact ⟨_, _, hv, h1, h2⟩
end
theorem RowU.at {w : World} {base : Nat} {a : Option Addr} {n c : Nat} {rs : List Nat} (h : RowU w base (.slice a n c) rs) : n = rs.length ∧ UAt (fun b => base ≤ b) w a rs := by
  rcases h.2 with ⟨hv, hn⟩ | ⟨g, cap, cur, hv, hbg, hg, h1, h2, h3, h4⟩
  · cases hv
    exact ⟨hn.symm, Or.inl (List.length_eq_zero_iff.1 hn)⟩
  · cases hv
    refine ⟨rfl, Or.inr ⟨g, 0, rfl, hbg, fun j x hj => ?_⟩⟩
    have hlt := (List.getElem?_eq_some_iff.1 hj).1
    have e : (wds rs)[j]? = some (.int .u32 (x : Nat)) := by unfold wds; rw [List.getElem?_map, hj]; rfl
    rw [← h4, List.getElem?_take_of_lt (by omega)] at e
    simp only [World.cell?, hg, Nat.zero_add]
    simpa using e
theorem RowU.at2 {w : World} {base : Nat} {a : Option Addr} {n c : Nat} {rs : List Nat} (h : RowU w base (.slice a n c) rs) : UAt (fun b => base ≤ b ∧ TyB w 27 b) w a rs := by
  rcases h.at.2 with h1 | ⟨b, off, ha, hb, hc⟩
  · exact Or.inl h1
  · subst ha
    by_cases he : rs = []
    · exact Or.inl he
    · refine Or.inr ⟨b, off, rfl, ⟨hb, ?_⟩, hc⟩
      rcases h.2 with ⟨hv, _⟩ | ⟨g, cap, cur, hv, _, hg, _⟩
      · cases hv
      · cases hv
        exact ⟨_, _, hg⟩
theorem RowU.cell {w : World} {base g n c : Nat} {rs : List Nat} (h : RowU w base (.slice (some ⟨g, 0, none⟩) n c) rs) {i x : Nat} (hx : rs[i]? = some x) : w.cell? ⟨g, i, none⟩ = some (.int .u32 (x : Nat)) ∧ w.frozen? ⟨g, i, none⟩ = false := by
  refine ⟨?_, ?_⟩
  · rcases h.at.2 with h1 | ⟨b, off, hb, _, hc⟩
    · rw [h1] at hx; cases hx
    · rcases h.2 with ⟨hv, _⟩ | ⟨g', cap, cur, hv, hbg, hg, h1, h2, h3, h4⟩
      · cases hv
      · cases hv
        cases hb
        have := hc i x hx
        simpa using this
  · rcases h.2 with ⟨hv, _⟩ | ⟨g', cap, cur, hv, hbg, hg, _⟩
    · cases hv
    · cases hv
      simp [World.frozen?, hg]
theorem RowU.put {w : World} {base g n c : Nat} {rs : List Nat} (h : RowU w base (.slice (some ⟨g, 0, none⟩) n c) rs) (i x : Nat) : RowU (w.setCell ⟨g, i, none⟩ (.int .u32 (x : Nat))) base (.slice (some ⟨g, 0, none⟩) n c) (rs.set i x) := by
  refine ⟨by simp [wds], ?_⟩
  rcases h.2 with ⟨hv, _⟩ | ⟨g', cap, cur, hv, hbg, hg, h1, h2, h3, h4⟩
  · cases hv
  · cases hv
    refine Or.inr ⟨g, c, _, by simp, hbg, heap_set hg i _, by simpa using h1, h2, by simpa using h3, ?_⟩
    rw [Array.toList_setIfInBounds, List.take_set]
    have e : wds (rs.set i x) = (wds rs).set i (.int .u32 (x : Nat)) := by unfold wds; rw [List.map_set]
    rw [e, List.length_set, h4]
theorem madeCells_u32 (n : Nat) : (madeCells (Value.int .u32 0).cells (n * 1)).toList = wds (List.replicate n 0) := by
  apply List.ext_getElem?
  intro k
  simp [madeCells, wds, Value.cells]
  by_cases hk : k < n
  · simp [hk, Nat.mod_one]
  · simp [hk]
theorem wpList_make_u32 {w : World} {ops : Array Oper} {rest : List Oper} {o : Oper} {a : Act} {Q : Exit → Act → World → Prop} (hgd : o.guard = none) (l c : Operand)
    (ho : o.op = Op.makeSlice 24 l c) (base n : Nat) (hb : base ≤ w.heap.size) (hl : a.eval l = .int .i64 (n : Nat)) (hc : a.eval c = .int .i64 (n : Nat)) (hn : n ≤ 1000000)
    (h : ∀ w', RowU w' base (.slice (some ⟨w.heap.size, 0, none⟩) n n) (List.replicate n 0) → Below w.heap.size w w' → wpList Tryd.prog ops Q rest (a.put o.dst (.slice (some ⟨w.heap.size, 0, none⟩) n n)) w') : wpList Tryd.prog ops Q (o :: rest) a w := by
  obtain ⟨i0, hi, hz0, hz1, hz2⟩ := info_parts infoU
  refine wpList_make_full (P := Tryd.prog) w hgd l c 24 ho base 27 i0 (.int .u32 0) 1 Tryd.underlying24 hi hz0 hz1 .i64 .i64 (n : Nat) (n : Nat) n hl hc rfl rfl (by rw [hz2]; omega) (by simp only [maxLen]; omega) hb ?_
  intro w' h1 h2
  rw [madeCells_u32] at h1
  exact h w' (by unfold RowU; rw [List.length_replicate]; exact h1) ((Below.refl _ _).grown h2 (Nat.le_refl _) (fun k hk => by cases hk))
theorem UAt.nth {X : Nat → Prop} {w : World} {a : Option Addr} {rs : List Nat} (h : UAt X w a rs) {i x : Nat} (hx : rs[i]? = some x) : ∃ b off, a = some ⟨b, off, none⟩ ∧ w.cell? ⟨b, off + i, none⟩ = some (.int .u32 (x : Nat)) := by
  rcases h with h | ⟨b, off, ha, _, hc⟩
  · subst h; simp at hx
  · exact ⟨b, off, ha, hc i x hx⟩
theorem wpList_append_words {w : World} {ops : Array Oper} {rest : List Oper} {o : Oper} {a : Act} {Q : Exit → Act → World → Prop} (hgd : o.guard = none) (s y : Operand)
    (ho : o.op = .call { callee := .builtin .append, args := #[s, y], argTypes := #[24, 24] })
    (base n m : Nat) (V : Value) (rs ts : List Nat) (hs : a.eval s = V) (hlen : rs.length = n) (hn : RowU w base V rs) (b off : Nat) (cap : Nat) (hy : a.eval y = .slice (some ⟨b, off, none⟩) m cap) (hm : ts.length = m) (hm0 : 0 < m) (hc : ∀ j x, ts[j]? = some x → w.cell? ⟨b, off + j, none⟩ = some (.int .u32 (x : Nat))) (hl : n + m ≤ 35184372088832) (hb : base ≤ w.heap.size)
    (h : ∀ g cap' w', RowU w' base (.slice (some ⟨g, 0, none⟩) (n + m) cap') (rs ++ ts) → w.grownBy w' V.ownBlock → wpList Tryd.prog ops Q rest (a.put o.dst (.slice (some ⟨g, 0, none⟩) (n + m) cap')) w') : wpList Tryd.prog ops Q (o :: rest) a w := by
  refine wpList_plain hgd fun K hK => ?_
  subst hlen hm
  obtain ⟨i0, hi, hz0, hz1, hz2⟩ := info_parts infoU
  obtain ⟨g, cap', w', hr, ho2, hg, hgg, hlt⟩ := run_append_lies (P := Tryd.prog) w 24 o.type base 27 i0 _ 1 4 Tryd.underlying24 hi hz0 hz1 hz2 rfl (by decide) V rs.length _ hn ⟨b, off, none⟩ ts.length cap (wds ts) (by rw [wds_length, Nat.mul_one])
    (fun j v hj => by
      unfold wds at hj
      rw [List.getElem?_map] at hj
      cases hx : ts[j]? with
      | none => rw [hx] at hj; cases hj
      | some x =>
        rw [hx] at hj
        cases hj
        rw [Go.WideShapes.add_plain]
        exact hc j x hx) (fun v hv => by
      unfold wds at hv
      obtain ⟨x, _, rfl⟩ := List.mem_map.1 hv
      rfl) hm0 (by simp only [maxLen]; omega) (by omega) hb w.heap.size rfl
  unfold Oper.wp execOp
  simp only [ho, resolve, invoke, builtin, Sem.run_bind, Sem.run_pure, Result.andThen_ok, List.map_toArray, List.map_cons, List.map_nil, hs, hy, hr]
  refine hK _ _ (h g cap' w' ?_ hg)
  unfold RowU
  rw [List.length_append]
  have e : wds (rs ++ ts) = wds rs ++ wds ts := by simp [wds]
  rw [e]
  exact ho2
def at_ (l : List Bool) (i : Int) : Bool := (l[i.toNat]?).getD false
section
variable {P : Program} {ops : Array Oper} {Q : Exit → Act → World → Prop}
/-- each operation behind n waits for the one ahead of it -/
def linked (ops : Array Oper) (n : Nat) : Bool := (List.range ops.size).all fun j => decide (j ≤ n) || match ops[j]? with
  | some o => o.after.any fun e => e.on == j - 1 && Region.binds .any e
  | none => false
theorem linked_at {n j : Nat} {o : Oper} (h : linked ops n = true) (ho : ops[j]? = some o) (hj : n < j) : ∃ e ∈ o.after, e.on = j - 1 ∧ Region.binds .any e = true := by
  have h1 := List.all_eq_true.1 h j (List.mem_range.2 (Array.getElem?_eq_some_iff.1 ho).1)
  rw [Bool.or_eq_true] at h1
  rcases h1 with h1 | h1
  · have := of_decide_eq_true h1; omega
  · rw [ho] at h1
    have h3 : (o.after.any fun e => e.on == j - 1 && Region.binds .any e) = true := h1
    rw [Array.any_eq_true'] at h3
    obtain ⟨x, hx, h4⟩ := h3
    rw [Bool.and_eq_true] at h4
    exact ⟨x, hx, eq_of_beq h4.1, h4.2⟩
/-- it reads, and writes its slot -/
def Got (r : Value → Prop) (o : Oper) (a : Act) (w : World) : Act → World → Prop := fun a' w' => ∃ v, a' = a.put o.dst v ∧ w' = w ∧ r v
section
variable {P : Program} {ops : Array Oper} {Q : Exit → Act → World → Prop}
/-- operation lim i of the chain waits for operation i -/
def held (ops : Array Oper) (n : Nat) (lim : Nat → Nat) : Bool := (List.range n).all fun i => decide (n ≤ lim i) && decide (lim i < ops.size) && (List.range ops.size).any fun j => decide (i < j) && (decide (j = lim i) || (decide (j < n) && decide (lim j ≤ lim i))) && match ops[j]? with
  | some o => o.after.any fun e => e.on == i && Region.binds .any e
  | none => false
theorem held_at {n : Nat} {lim : Nat → Nat} (h : held ops n lim = true) {i : Nat} (hi : i < n) : n ≤ lim i ∧ lim i < ops.size ∧ ∃ j o e, i < j ∧ (j = lim i ∨ j < n ∧ lim j ≤ lim i) ∧ ops[j]? = some o ∧ e ∈ o.after ∧ e.on = i ∧ Region.binds .any e = true := by
  have h1 := List.all_eq_true.1 h i (List.mem_range.2 hi)
  rw [Bool.and_eq_true, Bool.and_eq_true] at h1
  obtain ⟨⟨h2, h3⟩, h4⟩ := h1
  refine ⟨of_decide_eq_true h2, of_decide_eq_true h3, ?_⟩
  obtain ⟨j, _, h5⟩ := List.any_eq_true.1 h4
  rw [Bool.and_eq_true, Bool.and_eq_true, Bool.or_eq_true, Bool.and_eq_true] at h5
  obtain ⟨⟨h6, h7⟩, h8⟩ := h5
  cases ho : ops[j]? with
  | none => rw [ho] at h8; cases h8
  | some o =>
    rw [ho] at h8
    have h8 : (o.after.any fun e => e.on == i && Region.binds .any e) = true := h8
    rw [Array.any_eq_true'] at h8
    obtain ⟨x, hx, h9⟩ := h8
    rw [Bool.and_eq_true] at h9
    refine ⟨j, o, x, of_decide_eq_true h6, ?_, ho, hx, eq_of_beq h9.1, h9.2⟩
    rcases h7 with h7 | ⟨h7, h7'⟩
    · exact Or.inl (of_decide_eq_true h7)
    · exact Or.inr ⟨of_decide_eq_true h7, of_decide_eq_true h7'⟩
theorem held_all {n : Nat} {lim : Nat → Nat} (h : held ops n lim = true) {L : Nat → Bool} (hcl : ∀ i o e, ops[i]? = some o → e ∈ o.after → Region.binds .any e = true → L i = true → L e.on = true) (hlow : ∀ j j', n ≤ j → j ≤ j' → j' < ops.size → L j' = true → L j = true) : ∀ (z i : Nat), i < n → n - i ≤ z → L (lim i) = true → L i = true
  | 0, i, hi, hz, _ => by omega
  | z + 1, i, hi, hz, hL => by
    obtain ⟨h1, h2, j, o, e, hij, hj, ho, he, hon, hb⟩ := held_at h hi
    have hLj : L j = true := by
      rcases hj with rfl | ⟨hjn, hjl⟩
      · exact hL
      · exact held_all h hcl hlow z j hjn (by omega) (hlow (lim j) (lim i) (held_at h hjn).1 hjl h2 hL)
    have := hcl j o e ho he hb hLj
    rwa [hon] at this
theorem wp_region_chain2 {id : Nat} {a : Act} {w0 : World} (hm : P.follows .mixedOrders = true) (n m : Nat) (hn : ops.size = m) (hnm : n ≤ m) (D : Nat → Nat) (R : Nat → Value → Prop) (S : Nat → Act → World → Prop)
    (hput : ∀ k a w i v, i < n → S k a w → S k (a.put (some (D i)) v) w)
    (hsz : ∀ k a w i, i < n → S k a w → D i < a.tmps.size)
    (hinj : ∀ i j, i < n → j < n → D i = D j → i = j)
    (hlink : linked ops n = true) (lim : Nat → Nat) (hheld : held ops n lim = true)
    (hduty : AllFrom (fun i o => o.guard = none ∧ (∀ e ∈ o.after, e.on < i) ∧
        (i < n → o.dst = some (D i) ∧ ∀ k a w, n ≤ k → k ≤ lim i → S k a w → (∀ e ∈ o.after, Region.binds .any e = true → R e.on (T a (D e.on))) → ∀ Q, o.wp P a w (Got (R i) o a w) Q) ∧
        (n ≤ i → ∀ a w, S i a w → (∀ e ∈ o.after, e.on < n → Region.binds .any e = true → R e.on (T a (D e.on))) → o.wp P a w (fun a' w' => S (i + 1) a' w' ∧ ∀ j, j < n → T a' (D j) = T a (D j)) Q)) 0 ops.toList)
    (hend : ∀ a w, S m a w → (∀ i, i < n → R i (T a (D i))) → Q .normal a w)
    (h0 : S n a w0.drew) : (Code.region id ops true).wp P Q a w0 := by
  have hd := fun i o (ho : ops[i]? = some o) => by
    have := allFrom_at hduty i o (by simpa using ho)
    rw [Nat.zero_add] at this
    exact this
  refine wp_region_inv hm (fun L a w => (∀ i o e, ops[i]? = some o → e ∈ o.after → Region.binds .any e = true → L i = true → L e.on = true) ∧ ∃ k, n ≤ k ∧ k ≤ m ∧ (∀ j, n ≤ j → j < m → (L j = true ↔ j < k)) ∧ S k a w ∧ ∀ i, i < n → L i = true → R i (T a (D i))) ?wf ?step ?fin ?zero
  case wf =>
    intro i o e ho he _
    exact (hd i o ho).2.1 e he
  case zero =>
    intro L hL
    refine ⟨fun i o e ho _ _ h => (by rw [hL i (Array.getElem?_eq_some_iff.1 ho).1] at h; cases h), n, Nat.le_refl _, hnm, fun j h1 h2 => ?_, h0, fun i hi h => ?_⟩
    · rw [hL j (by omega)]
      constructor
      · intro h; cases h
      · intro h; omega
    · rw [hL i (by omega)] at h; cases h
  case fin =>
    rintro L a w hL ⟨_, k, h1, h2, h3, hS, hR⟩
    have hk : k = m := by
      by_cases e : k = m
      · exact e
      · have := (h3 k h1 (by omega)).1 (hL k (by omega))
        omega
    subst hk
    exact hend a w hS (fun i hi => hR i hi (hL i (by omega)))
  case step =>
    intro i o ho
    have hi := (Array.getElem?_eq_some_iff.1 ho).1
    obtain ⟨hg, hlt, hp, hc⟩ := hd i o ho
    refine ⟨hg, ?_⟩
    rintro L a w ⟨hcl, k, h1, h2, h3, hS, hR⟩ hLi hE
    have hcl2 : ∀ j p e, ops[j]? = some p → e ∈ p.after → Region.binds .any e = true → more L i j = true → more L i e.on = true := fun j p e hp9 he hb hj => by
      unfold more at hj ⊢
      by_cases hji : j = i
      · subst hji
        rw [ho] at hp9
        cases hp9
        simp [hE e he hb]
      · rw [if_neg hji] at hj
        simp [hcl j p e hp9 he hb hj]
    by_cases hl : i < n
    · obtain ⟨hdst, hst⟩ := hp hl
      have hkl : k ≤ lim i := by
        by_cases hk : k ≤ lim i
        · exact hk
        · have h5 := held_all hheld hcl (fun j j' hj hj' hlt h => by
            rw [hn] at hlt
            exact (h3 j hj (by omega)).2 (by have := (h3 j' (by omega) hlt).1 h; omega)) (n - i) i hl (by omega)
          obtain ⟨q1, q2, _⟩ := held_at hheld hl
          have := h5 ((h3 (lim i) q1 (by omega)).2 (by omega))
          rw [this] at hLi
          cases hLi
      refine Oper.wp_mono ?_ (hst k a w h1 hkl hS (fun e he hb => hR e.on (by have := hlt e he; omega) (hE e he hb)) Q)
      rintro a' w' ⟨v, rfl, rfl, hr⟩
      rw [hdst]
      refine ⟨hcl2, k, h1, h2, fun j hj hj2 => ?_, hput k a w' i v hl hS, fun j hj hmj => ?_⟩
      · rw [← h3 j hj hj2]
        unfold more
        rw [if_neg (by omega)]
      · by_cases hji : j = i
        · subst hji
          unfold T
          rw [put_same (hsz k a w' j hl hS)]
          exact hr
        · unfold T
          rw [put_other (fun e => hji (hinj i j hl hj e).symm)]
          unfold more at hmj
          rw [if_neg hji] at hmj
          exact hR j hj hmj
    · have hki : k = i := by
        have ha : ¬ i < k := fun h => by rw [(h3 i (by omega) (by omega)).2 h] at hLi; cases hLi
        by_cases e : i = n
        · omega
        · obtain ⟨x, hx, hx1, hx2⟩ := linked_at hlink ho (by omega)
          have := (h3 (i - 1) (by omega) (by omega)).1 (by rw [← hx1]; exact hE x hx hx2)
          omega
      subst hki
      refine Oper.wp_mono ?_ (hc (by omega) a w hS (fun e he hlt hb => hR e.on hlt (hE e he hb)))
      rintro a' w' ⟨hS', hT'⟩
      refine ⟨hcl2, k + 1, by omega, by omega, fun j hj hj2 => ?_, hS', fun j hj hmj => ?_⟩
      · unfold more
        by_cases hjk : j = k
        · rw [if_pos hjk]
          constructor
          · intro _; omega
          · intro _; rfl
        · rw [if_neg hjk, h3 j hj hj2]
          omega
      · unfold more at hmj
        rw [if_neg (by omega)] at hmj
        rw [hT' j hj]
        exact hR j hj hmj
end
end
end
end
end Go.Proofs.YtdngileimmgdnaaDoor
