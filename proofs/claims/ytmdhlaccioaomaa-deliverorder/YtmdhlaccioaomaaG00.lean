/- Laid by ext.py: what this seat takes of stages 4 and 7. -/
import Derived.Test.YtmdhlaccioaomaaRows
import Derived.WalkKit
import Derived.WalkLawsBesides
import Derived.WalkSpells
import Derived.OwnWalk
import Derived.Laws.BitsAllLaws
import Derived.Deep.QuietTactic
import Derived.BigQuiet
import Derived.Laws.StructEq
import Derived.Orders
import Derived.Deep.AppendLies
import Derived.WideShapes
import Derived.Deep.DeepAppendRoom
import Derived.Deep.DrawnRows
import Derived.Deep.DeepCutAuto
namespace Go.Proofs.Ytmdhlaccioaomaa
open Go.RowKit
attribute [local go_sem ↓] Go.wp_at_zero Go.wp_at_succ
theorem ret_int {k : IntKind} {a b : Int} (h : a = b) : Ending.returned (.int k a) = .returned (.int k b) := by rw [h]
theorem ret_bool {a b : Bool} (h : a = b) : Ending.returned (.bool a) = .returned (.bool b) := by rw [h]
theorem below_trans {w w1 w2 : World} {B : Nat} (h1 : Below B w w1) (h2 : Below w1.heap.size w1 w2) (hB : B ≤ w1.heap.size) : Below B w w2 := h1.trans (h2.mono hB)
/-- a world in which all that w had stands as it stood -/
structure Later (w : World) where
  at_ : World
  below : Below w.heap.size w at_
theorem wp_region_later {P : Program} {id : Nat} {Q : Exit → Act → World → Prop} {a : Act} {w : World} {l : List Oper} (hm : P.follows .mixedOrders = true) (hB : Region.lexB .any l.toArray = true)
    (h : wpQuiet P l.toArray (fun w' => ∃ u : Later w, w' = u.at_) (fun a' => ∀ w', (∃ u : Later w, w' = u.at_) → Q .normal a' w') l a) : (Code.region id l.toArray true).wp P Q a w :=
  wp_region_quiet (C := fun w' => ∃ u : Later w, w' = u.at_) hm hB ⟨⟨w.drew, (Below.refl _ _).drew⟩, rfl⟩ (by simpa using h)
theorem calls_later {P : Program} {f : FuncId} {args : Array Value} {w : World} {u : Later w} {v : Value} (h : Calls P f args u.at_ fun e w' => e = .returned v ∧ Below u.at_.heap.size u.at_ w') :
    Calls P f args u.at_ fun e w'' => e = .returned v ∧ ∃ m : Later w, w'' = m.at_ :=
  h.mono fun _ w' ⟨he, hb⟩ => ⟨he, ⟨w', below_trans u.below hb u.below.size⟩, rfl⟩
theorem calls_later_same {P : Program} {f : FuncId} {args : Array Value} {w : World} {u : Later w} {v : Value} (h : Calls P f args u.at_ fun e w' => e = .returned v ∧ w' = u.at_) :
    Calls P f args u.at_ fun e w'' => e = .returned v ∧ ∃ m : Later w, w'' = m.at_ :=
  h.mono fun _ _ ⟨he, hb⟩ => ⟨he, u, hb⟩
section
variable {P : Program} {ops : Array Oper} {md : Region.Mode} {Q : Exit → Act → World → Prop}
/-- how many have not come up -/
def left (ops : Array Oper) (listed : Array Bool) : Nat := ((List.range ops.size).filter fun i => !listed.getD i true).length
theorem left_zero {listed : Array Bool} (h : left ops listed = 0) : ∀ i, i < ops.size → listed.getD i true = true := by
  intro i hi
  have h1 := List.eq_nil_of_length_eq_zero h
  rw [List.filter_eq_nil_iff] at h1
  have h2 := h1 i (List.mem_range.2 hi)
  cases h3 : listed.getD i true with
  | true => rfl
  | false => exact absurd (by rw [h3]; rfl) h2
theorem left_set {listed : Array Bool} {i : Nat} (hi : i < ops.size) (h0 : listed.getD i true = false) (hsz : listed.size = ops.size) : left ops (listed.setIfInBounds i true) < left ops listed := by
  unfold left
  have hsub : ((List.range ops.size).filter fun k => !(listed.setIfInBounds i true).getD k true) = ((List.range ops.size).filter fun k => !listed.getD k true).filter fun k => !(k == i) := by
    rw [List.filter_filter]
    apply List.filter_congr
    intro k _
    by_cases e : i = k
    · subst e
      simp [hsz, hi]
    · rw [getD_set_ne true e]
      have : ¬ k = i := fun h => e h.symm
      simp [this]
  rw [hsub]
  refine List.length_filter_lt_length_iff_exists.2 ⟨i, List.mem_filter.2 ⟨List.mem_range.2 hi, by rw [h0]; rfl⟩, by simp⟩
/-- where nothing may come up, all have -/
theorem all_of_ready {listed : Array Bool} (hwf : ∀ i o e, ops[i]? = some o → e ∈ o.after → Region.binds md e = true → e.on < i) (hsz : listed.size = ops.size) (h : Region.ready md ops listed = []) : ∀ i, i < ops.size → listed.getD i true = true := by
  intro i
  induction i using Nat.strongRecOn with
  | ind i ih =>
    intro hi
    cases h3 : listed.getD i true with
    | true => rfl
    | false =>
      have hm : i ∈ Region.ready md ops listed := mem_ready.2 ⟨h3, ops[i], Array.getElem?_eq_getElem hi, fun e he hb => by
        have hlt := hwf i _ e (Array.getElem?_eq_getElem hi) he hb
        have h4 := ih e.on hlt (by omega)
        have hs : e.on < listed.size := by omega
        simp [hs] at h4 ⊢
        exact h4⟩
      rw [h] at hm
      cases hm
/-- **EACH OPERATION ONCE.** -/
theorem wpAny_each (Fr : Act → World → Prop) (G : Nat → Act → World → Prop)
    (hwf : ∀ i o e, ops[i]? = some o → e ∈ o.after → Region.binds md e = true → e.on < i)
    (hstep : ∀ i o, ops[i]? = some o → ∀ a w, Fr a w → (∀ e ∈ o.after, Region.binds md e = true → G e.on a w) → wpOp P ops Q i (fun a' w' => Fr a' w' ∧ G i a' w' ∧ ∀ j, j ≠ i → G j a w → G j a' w') a w)
    (hend : ∀ a w, Fr a w → (∀ i, i < ops.size → G i a w) → Q .normal a w) :
    ∀ (fuel : Nat) (listed : Array Bool) (a : Act) (w : World), listed.size = ops.size → left ops listed ≤ fuel → Fr a w → (∀ i, i < ops.size → listed.getD i true = true → G i a w) → wpAny P md ops Q fuel listed a w := by
  intro fuel
  induction fuel with
  | zero =>
    intro listed a w hsz hl hf hg
    have hall := left_zero (Nat.le_zero.1 hl)
    refine ⟨?_, hend a w hf (fun i hi => hg i hi (hall i hi))⟩
    apply List.eq_nil_iff_forall_not_mem.2
    intro i hi
    obtain ⟨h0, o, ho, _⟩ := mem_ready.1 hi
    have hlt := (Array.getElem?_eq_some_iff.1 ho).1
    rw [hall i hlt] at h0
    cases h0
  | succ fuel ih =>
    intro listed a w hsz hl hf hg
    refine ⟨fun h => hend a w hf (fun i hi => hg i hi (all_of_ready hwf hsz h i hi)), fun i hi => ?_⟩
    obtain ⟨h0, o, ho, hafter⟩ := mem_ready.1 hi
    have hlt := (Array.getElem?_eq_some_iff.1 ho).1
    refine wpOp_mono (fun a' w' h => ?_) (hstep i o ho a w hf (fun e he hb => ?_))
    · obtain ⟨h1, h2, h3⟩ := h
      refine ih _ a' w' (by simpa using hsz) (by have := left_set hlt h0 hsz; omega) h1 (fun j hj hlj => ?_)
      by_cases e : j = i
      · subst e; exact h2
      · rw [getD_set_ne true (Ne.symm e)] at hlj
        exact h3 j e (hg j hj hlj)
    · have h4 := hafter e he hb
      have h5 := hwf i o e ho he hb
      refine hg e.on (by omega) ?_
      have hs : e.on < listed.size := by omega
      simp [hs] at h4 ⊢
      exact h4
theorem wp_region_each {id : Nat} {a : Act} {w : World} (hm : P.follows .mixedOrders = true) (Fr : Act → World → Prop) (G : Nat → Act → World → Prop)
    (hwf : ∀ i o e, ops[i]? = some o → e ∈ o.after → Region.binds .any e = true → e.on < i)
    (hstep : ∀ i o, ops[i]? = some o → ∀ a w, Fr a w → (∀ e ∈ o.after, Region.binds .any e = true → G e.on a w) → wpOp P ops Q i (fun a' w' => Fr a' w' ∧ G i a' w' ∧ ∀ j, j ≠ i → G j a w → G j a' w') a w)
    (hend : ∀ a w, Fr a w → (∀ i, i < ops.size → G i a w) → Q .normal a w)
    (h0 : Fr a w.drew) : (Code.region id ops true).wp P Q a w := by
  refine wp_region_any hm (wpAny_each Fr G hwf hstep hend ops.size _ a _ (by simp) ?_ h0 (fun i hi h => ?_))
  · unfold left
    have := List.length_filter_le (fun i => !(Array.replicate ops.size false).getD i true) (List.range ops.size)
    simpa using this
  · simp [hi] at h
end
section
variable {P : Program} {ops : Array Oper} {Q : Exit → Act → World → Prop}
theorem put_same {a : Act} {d : Nat} {v : Value} (h : d < a.tmps.size) : (a.put (some d) v).tmps[d]?.getD undef = v := by simp [Act.put, h]
theorem put_other {a : Act} {d e : Nat} {v : Value} (h : d ≠ e) : (a.put (some d) v).tmps[e]?.getD undef = a.tmps[e]?.getD undef := by simp [Act.put, Array.getElem?_setIfInBounds_ne h]
theorem below_step {w0 w w' : World} (h : Below w0.heap.size w0 w) (hb : Below w.heap.size w w') : Below w0.heap.size w0 w' := below_trans h hb h.size
/-- what an operation is to leave -/
def Leaves (R : Value → World → Prop) (o : Oper) (a : Act) (w : World) : Act → World → Prop := fun a' w' => ∃ v, a' = a.put o.dst v ∧ Below w.heap.size w w' ∧ R v w'
/-- an operation that yields a value -/
theorem ob_value {o : Oper} {a : Act} {w w' : World} {R : Value → World → Prop} {v : Value} (h : (execOp a.eval o).run P w = .ok (.value v) w') (hb : Below w.heap.size w w') (hR : R v w') : o.wp P a w (Leaves R o a w) Q := by
  unfold Oper.wp
  rw [h]
  exact ⟨v, rfl, hb, hR⟩
/-- a call by its contract -/
theorem ob_enter {o : Oper} {a : Act} {w : World} {R : Value → World → Prop} {f : FuncId} {args : Array Value} (h : (execOp a.eval o).run P w = .ok (.enter f args) w) (hc : Calls P f args w fun e w' => ∃ v, e = .returned v ∧ Below w.heap.size w w' ∧ R v w') : o.wp P a w (Leaves R o a w) Q := by
  unfold Oper.wp
  rw [h]
  refine hc.mono ?_
  rintro e w' ⟨v, rfl, hb, hR⟩
  exact ⟨v, rfl, hb, hR⟩
end
/-- the operations of a region of a body -/
def opsIn (id : Nat) : Code → Option (Array Oper)
  | .region i ops _ => if i = id then some ops else none
  | .seq c d => match opsIn id c with
    | some x => some x
    | none => opsIn id d
  | .cond _ c d => match opsIn id c with
    | some x => some x
    | none => opsIn id d
  | .block _ c => opsIn id c
  | .loop c => opsIn id c
  | .scope c => opsIn id c
  | .rangeFunc _ _ c d => match opsIn id c with
    | some x => some x
    | none => opsIn id d
  | _ => none
def opsOf (f : Func) (id : Nat) : Array Oper := match f.body with
  | some c => (opsIn id c).getD #[]
  | none => #[]
abbrev T (a : Act) (k : Nat) : Value := a.tmps[k]?.getD undef
def AllFrom (p : Nat → Oper → Prop) : Nat → List Oper → Prop
  | _, [] => True
  | k, o :: l => p k o ∧ AllFrom p (k + 1) l
theorem allFrom_at {p : Nat → Oper → Prop} {l : List Oper} : ∀ {k : Nat}, AllFrom p k l → ∀ i o, l[i]? = some o → p (k + i) o := by
  induction l with
  | nil => intro k _ i o h; simp at h
  | cons x l ih =>
    intro k h i o hi
    cases i with
    | zero => simp at hi; subst hi; exact h.1
    | succ i =>
      have := ih h.2 i o (by simpa using hi)
      rwa [show k + 1 + i = k + (i + 1) by omega] at this
section
variable {P : Program} {ops : Array Oper} {Q : Exit → Act → World → Prop}
/-- what is owed for one operation -/
def Duty (P : Program) (ops : Array Oper) (w0 : World) (D : Nat → Nat) (R : Nat → Value → World → Prop) (F0 : Act → Prop) (i : Nat) (o : Oper) : Prop :=
  o.dst = some (D i) ∧ (∀ e ∈ o.after, e.on < i) ∧ ∀ a w, F0 a → Below w0.heap.size w0 w → (∀ e ∈ o.after, Region.binds .any e = true → R e.on (T a (D e.on)) w) →
    (Region.wanted o (yielded ops a.tmps) = true → ∀ Q, o.wp P a w (Leaves (R i) o a w) Q) ∧ (Region.wanted o (yielded ops a.tmps) = false → R i undef w)
theorem wp_region_slots {id : Nat} {a : Act} {w0 : World} (hm : P.follows .mixedOrders = true) (D : Nat → Nat) (R : Nat → Value → World → Prop) (F0 : Act → Prop)
    (hup : ∀ i v w w', R i v w → Below w.heap.size w w' → R i v w')
    (hF0 : ∀ a i v, i < ops.size → F0 a → F0 (a.put (some (D i)) v)) (hsz : ∀ a i, i < ops.size → F0 a → D i < a.tmps.size)
    (hinj : ∀ i j, i < ops.size → j < ops.size → D i = D j → i = j)
    (hduty : AllFrom (Duty P ops w0 D R F0) 0 ops.toList)
    (hend : ∀ a w, F0 a → Below w0.heap.size w0 w → (∀ i, i < ops.size → R i (T a (D i)) w) → Q .normal a w)
    (h0 : F0 a) : (Code.region id ops true).wp P Q a w0 := by
  have hd : ∀ i o, ops[i]? = some o → Duty P ops w0 D R F0 i o := fun i o ho => by
    have := allFrom_at hduty i o (by simpa using ho)
    rwa [Nat.zero_add] at this
  refine wp_region_each hm (fun a w => F0 a ∧ Below w0.heap.size w0 w) (fun i a w => i < ops.size → R i (T a (D i)) w) (fun i o e ho he _ => (hd i o ho).2.1 e he) (fun i o ho a w hf hg => ?_) (fun a w hf hg => hend a w hf.1 hf.2 (fun i hi => hg i hi hi)) ⟨h0, (Below.refl _ _).drew⟩
  obtain ⟨hdst, hlt, hst⟩ := hd i o ho
  have hi := (Array.getElem?_eq_some_iff.1 ho).1
  obtain ⟨hw, hn⟩ := hst a w hf.1 hf.2 (fun e he hb => hg e he hb (Nat.lt_trans (hlt e he) hi))
  have hs := hsz a i hi hf.1
  unfold wpOp
  simp only [ho]
  split
  · rename_i hwt
    refine .inl (Oper.wp_mono (fun a' w' h => ?_) (hw hwt Q))
    obtain ⟨v, rfl, hb, hr⟩ := h
    rw [hdst]
    refine ⟨⟨hF0 a i v hi hf.1, below_step hf.2 hb⟩, fun _ => ?_, fun j hj hgj hjs => ?_⟩
    · show R i _ _
      unfold T
      rw [put_same hs]
      exact hr
    · show R j _ _
      unfold T
      rw [put_other (fun e => hj (hinj i j hi hjs e).symm)]
      exact hup j _ _ _ (hgj hjs) hb
  · rename_i hwt
    rw [hdst]
    refine ⟨⟨hF0 a i undef hi hf.1, hf.2⟩, fun _ => ?_, fun j hj hgj hjs => ?_⟩
    · show R i _ _
      unfold T
      rw [put_same hs]
      exact hn (by simpa using hwt)
    · show R j _ _
      unfold T
      rw [put_other (fun e => hj (hinj i j hi hjs e).symm)]
      exact hgj hjs
theorem T_lt {a : Act} {k : Nat} {b : Bool} (h : T a k = .bool b) : a.tmps[k]? = some (.bool b) := by
  unfold T at h
  cases e : a.tmps[k]? with
  | none => rw [e] at h; exact absurd h (by simp [undef])
  | some v => rw [e] at h; simp at h; rw [h]
theorem wanted_free {o : Oper} {y : Nat → Option Bool} (h : o.guard = none) : Region.wanted o y = true := by unfold Region.wanted; rw [h]
theorem wanted_met {o : Oper} {a : Act} {j d : Nat} {b : Bool} (h : o.guard = some (j, b)) (hd : (ops[j]?).bind (·.dst) = some d) (hT : T a d = .bool b) : Region.wanted o (yielded ops a.tmps) = true := by
  unfold Region.wanted
  rw [h]
  simp [yielded, hd, T_lt hT]
variable {w0 : World} {D : Nat → Nat} {R : Nat → Value → World → Prop} {F0 : Act → Prop} {i : Nat} {o : Oper}
theorem duty_free (hd : o.dst = some (D i)) (ha : ∀ e ∈ o.after, e.on < i) (hg : o.guard = none)
    (h : ∀ a w, F0 a → Below w0.heap.size w0 w → (∀ e ∈ o.after, Region.binds .any e = true → R e.on (T a (D e.on)) w) → ∀ Q, o.wp P a w (Leaves (R i) o a w) Q) : Duty P ops w0 D R F0 i o :=
  ⟨hd, ha, fun a w hF hB hE => ⟨fun _ => h a w hF hB hE, fun hw => by rw [wanted_free hg] at hw; cases hw⟩⟩
theorem duty_met {j : Nat} {b : Bool} (hd : o.dst = some (D i)) (ha : ∀ e ∈ o.after, e.on < i) (hg : o.guard = some (j, b)) (hj : (ops[j]?).bind (·.dst) = some (D j)) (he : ⟨j, .guard⟩ ∈ o.after) (hR : ∀ v w, R j v w → v = .bool b)
    (h : ∀ a w, F0 a → Below w0.heap.size w0 w → (∀ e ∈ o.after, Region.binds .any e = true → R e.on (T a (D e.on)) w) → ∀ Q, o.wp P a w (Leaves (R i) o a w) Q) : Duty P ops w0 D R F0 i o :=
  ⟨hd, ha, fun a w hF hB hE => ⟨fun _ => h a w hF hB hE, fun hw => by rw [wanted_met hg hj (hR _ _ (hE _ he rfl))] at hw; cases hw⟩⟩
variable {a : Act} {w : World} {r : Value → World → Prop}
/-- a function with a body -/
def Enters (f : Nat) : Prop := ∀ (args : Array Value) (w : World), (callFunc f args).run Try.prog w = .ok (.enter f args) w
theorem ob_call1 {p f : Nat} {ts : Array TypeId} (ho : o.op = .call { callee := .value (.func f), args := #[.tmp p], argTypes := ts }) (hf : Enters f) {v : Value} (hx : T a p = v) (hc : Calls Try.prog f #[v] w fun e w' => ∃ v, e = .returned v ∧ Below w.heap.size w w' ∧ r v w') : o.wp Try.prog a w (Leaves r o a w) Q := by
  obtain ⟨dst, op, type, pos, after, guard⟩ := o
  simp only at ho
  subst ho
  refine ob_enter (args := #[v]) ?_ hc
  simp [Act.eval, hx, go_sem]
  exact hf _ _
theorem ob_call2 {p q f : Nat} {ts : Array TypeId} (ho : o.op = .call { callee := .value (.func f), args := #[.tmp p, .tmp q], argTypes := ts }) (hf : Enters f) {v u : Value} (hx : T a p = v) (hy : T a q = u) (hc : Calls Try.prog f #[v, u] w fun e w' => ∃ v, e = .returned v ∧ Below w.heap.size w w' ∧ r v w') : o.wp Try.prog a w (Leaves r o a w) Q := by
  obtain ⟨dst, op, type, pos, after, guard⟩ := o
  simp only at ho
  subst ho
  refine ob_enter (args := #[v, u]) ?_ hc
  simp [Act.eval, hx, hy, go_sem]
  exact hf _ _
theorem ob_move {p : Nat} {v : Value} (ho : o.op = .move (.tmp p)) (hx : T a p = v) (hr : r v w) : o.wp Try.prog a w (Leaves r o a w) Q := by
  obtain ⟨dst, op, type, pos, after, guard⟩ := o
  simp only at ho
  subst ho
  refine ob_value (v := v) (w' := w) ?_ (Below.refl _ _) hr
  simp [execOp, Act.eval, hx, go_sem]
theorem ob_assign {p : Nat} {v : Value} (ho : o.op = .assign (.tmp p)) (hx : T a p = v) (hr : r v w) : o.wp Try.prog a w (Leaves r o a w) Q := by
  obtain ⟨dst, op, type, pos, after, guard⟩ := o
  simp only at ho
  subst ho
  refine ob_value (v := v) (w' := w) ?_ (Below.refl _ _) hr
  simp [execOp, Act.eval, hx, go_sem]
theorem ob_pick_or {p q : Nat} {x : Value} {v : Value} (ho : o.op = .pick (.tmp p) (.const x) (.tmp q)) (hx : T a p = .bool false) (hy : T a q = v) (hr : r v w) : o.wp Try.prog a w (Leaves r o a w) Q := by
  obtain ⟨dst, op, type, pos, after, guard⟩ := o
  simp only at ho
  subst ho
  refine ob_value (v := v) (w' := w) ?_ (Below.refl _ _) hr
  simp [execOp, Act.eval, hx, hy, go_sem]
theorem ob_pick_and {p q : Nat} {x : Value} {v : Value} (ho : o.op = .pick (.tmp p) (.tmp q) (.const x)) (hx : T a p = .bool true) (hy : T a q = v) (hr : r v w) : o.wp Try.prog a w (Leaves r o a w) Q := by
  obtain ⟨dst, op, type, pos, after, guard⟩ := o
  simp only at ho
  subst ho
  refine ob_value (v := v) (w' := w) ?_ (Below.refl _ _) hr
  simp [execOp, Act.eval, hx, hy, go_sem]
end
section
variable {P : Program} {ops : Array Oper} {Q : Exit → Act → World → Prop}
/-- the operations that have come up, one more -/
def more (L : Nat → Bool) (i : Nat) : Nat → Bool := fun j => if j = i then true else L j
theorem wpAny_inv (Inv : (Nat → Bool) → Act → World → Prop)
    (hwf : ∀ i o e, ops[i]? = some o → e ∈ o.after → Region.binds .any e = true → e.on < i)
    (hstep : ∀ i o, ops[i]? = some o → o.guard = none ∧ ∀ L a w, Inv L a w → L i = false → (∀ e ∈ o.after, Region.binds .any e = true → L e.on = true) → o.wp P a w (fun a' w' => Inv (more L i) a' w') Q)
    (hend : ∀ L a w, (∀ i, i < ops.size → L i = true) → Inv L a w → Q .normal a w) :
    ∀ (fuel : Nat) (listed : Array Bool) (a : Act) (w : World), listed.size = ops.size → left ops listed ≤ fuel → Inv (fun i => listed.getD i true) a w → wpAny P .any ops Q fuel listed a w := by
  intro fuel
  induction fuel with
  | zero =>
    intro listed a w hsz hl hf
    have hall := left_zero (Nat.le_zero.1 hl)
    refine ⟨?_, hend _ a w (fun i hi => hall i hi) hf⟩
    apply List.eq_nil_iff_forall_not_mem.2
    intro i hi
    obtain ⟨h0, o, ho, _⟩ := mem_ready.1 hi
    have hlt := (Array.getElem?_eq_some_iff.1 ho).1
    rw [hall i hlt] at h0
    cases h0
  | succ fuel ih =>
    intro listed a w hsz hl hf
    refine ⟨fun h => hend _ a w (fun i hi => all_of_ready hwf hsz h i hi) hf, fun i hi => ?_⟩
    obtain ⟨h0, o, ho, hafter⟩ := mem_ready.1 hi
    have hlt := (Array.getElem?_eq_some_iff.1 ho).1
    obtain ⟨hg, hs⟩ := hstep i o ho
    have hw := hs _ a w hf h0 (fun e he hb => by
      have h4 := hafter e he hb
      have h5 := hwf i o e ho he hb
      have hs : e.on < listed.size := by omega
      simp [hs] at h4 ⊢
      exact h4)
    unfold wpOp
    simp only [ho, wanted_free hg, if_true]
    refine .inl (Oper.wp_mono (fun a' w' h => ?_) hw)
    refine ih _ a' w' (by simpa using hsz) (by have := left_set hlt h0 hsz; omega) ?_
    have e : (fun j => (listed.setIfInBounds i true).getD j true) = more (fun j => listed.getD j true) i := by
      funext j
      unfold more
      by_cases e : j = i
      · subst e
        have hjs : j < listed.size := by omega
        simp [hjs]
      · rw [getD_set_ne true (Ne.symm e)]
        simp [e]
    rw [e]
    exact h
theorem wp_region_inv {id : Nat} {a : Act} {w : World} (hm : P.follows .mixedOrders = true) (Inv : (Nat → Bool) → Act → World → Prop)
    (hwf : ∀ i o e, ops[i]? = some o → e ∈ o.after → Region.binds .any e = true → e.on < i)
    (hstep : ∀ i o, ops[i]? = some o → o.guard = none ∧ ∀ L a w, Inv L a w → L i = false → (∀ e ∈ o.after, Region.binds .any e = true → L e.on = true) → o.wp P a w (fun a' w' => Inv (more L i) a' w') Q)
    (hend : ∀ L a w, (∀ i, i < ops.size → L i = true) → Inv L a w → Q .normal a w)
    (h0 : ∀ L, (∀ i, i < ops.size → L i = false) → Inv L a w.drew) : (Code.region id ops true).wp P Q a w := by
  refine wp_region_any hm (wpAny_inv Inv hwf hstep hend ops.size _ a _ (by simp) ?_ (h0 _ (fun i hi => by simp [hi])))
  unfold left
  have := List.length_filter_le (fun i => !(Array.replicate ops.size false).getD i true) (List.range ops.size)
  simpa using this
end
section
variable {P : Program} {ops : Array Oper} {Q : Exit → Act → World → Prop}
/-- each operation ahead of n is waited for by a later one -/
def covers (ops : Array Oper) (n : Nat) : Bool := (List.range n).all fun i => (List.range (n + 1)).any fun j => decide (i < j) && match ops[j]? with
  | some o => o.after.any fun e => e.on == i && Region.binds .any e
  | none => false
theorem covers_all {n : Nat} (h : covers ops n = true) {L : Nat → Bool} (hc : ∀ i o e, ops[i]? = some o → e ∈ o.after → Region.binds .any e = true → L i = true → L e.on = true) (hn : L n = true) : ∀ i, i ≤ n → L i = true := by
  suffices hs : ∀ k i, i ≤ n → n - i ≤ k → L i = true from fun i hi => hs (n - i) i hi (Nat.le_refl _)
  intro k
  induction k with
  | zero => intro i hi hk; rw [show i = n by omega]; exact hn
  | succ k ih =>
    intro i hi hk
    by_cases e : i = n
    · rw [e]; exact hn
    · have h1 := List.all_eq_true.1 h i (List.mem_range.2 (by omega))
      obtain ⟨j, hj, h2⟩ := List.any_eq_true.1 h1
      have hj := List.mem_range.1 hj
      rw [Bool.and_eq_true] at h2
      have hij := of_decide_eq_true h2.1
      have h3 := h2.2
      cases ho : ops[j]? with
      | none => rw [ho] at h3; cases h3
      | some o =>
        rw [ho] at h3
        have h3 : (o.after.any fun e => e.on == i && Region.binds .any e) = true := h3
        rw [Array.any_eq_true'] at h3
        obtain ⟨x, hx, h4⟩ := h3
        rw [Bool.and_eq_true] at h4
        have := hc j o x ho hx h4.2 (ih j (by omega) (by omega))
        rwa [eq_of_beq h4.1] at this
theorem wp_region_last {id : Nat} {a : Act} {w0 : World} (hm : P.follows .mixedOrders = true) (n : Nat) (hn : ops.size = n + 1) (D : Nat → Nat) (R : Nat → Value → World → Prop) (F0 : Act → Prop)
    (hup : ∀ i v w w', R i v w → Below w.heap.size w w' → R i v w')
    (hF0 : ∀ a i v, i < n → F0 a → F0 (a.put (some (D i)) v)) (hsz : ∀ a i, i < n → F0 a → D i < a.tmps.size)
    (hinj : ∀ i j, i < n → j < n → D i = D j → i = j)
    (hcov : covers ops n = true)
    (hduty : AllFrom (fun i o => (i < n → o.guard = none ∧ Duty P ops w0 D R F0 i o) ∧ (n ≤ i → o.guard = none ∧ (∀ e ∈ o.after, e.on < n) ∧ ∀ a w, F0 a → Below w0.heap.size w0 w → (∀ i, i < n → R i (T a (D i)) w) → o.wp P a w (Q .normal) Q)) 0 ops.toList)
    (h0 : F0 a) : (Code.region id ops true).wp P Q a w0 := by
  have hd : ∀ i o, ops[i]? = some o → i < n → o.guard = none ∧ Duty P ops w0 D R F0 i o := fun i o ho hi => by
    have := allFrom_at hduty i o (by simpa using ho)
    rw [Nat.zero_add] at this
    exact this.1 hi
  have hlast : ∀ o, ops[n]? = some o → o.guard = none ∧ (∀ e ∈ o.after, e.on < n) ∧ ∀ a w, F0 a → Below w0.heap.size w0 w → (∀ i, i < n → R i (T a (D i)) w) → o.wp P a w (Q .normal) Q := fun o ho => by
    have := allFrom_at hduty n o (by simpa using ho)
    rw [Nat.zero_add] at this
    exact this.2 (Nat.le_refl _)
  refine wp_region_inv hm (fun L a w => (∀ i o e, ops[i]? = some o → e ∈ o.after → Region.binds .any e = true → L i = true → L e.on = true) ∧ (L n = true → Q .normal a w) ∧ (L n = false → F0 a ∧ Below w0.heap.size w0 w ∧ ∀ i, i < n → L i = true → R i (T a (D i)) w)) ?wf ?step ?fin ?zero
  case wf =>
    intro i o e ho he _
    have hi := (Array.getElem?_eq_some_iff.1 ho).1
    by_cases hl : i < n
    · exact (hd i o ho hl).2.2.1 e he
    · have : i = n := by omega
      subst this
      exact (hlast o ho).2.1 e he
  case zero =>
    intro L hL
    refine ⟨fun i o e ho _ _ h => ?_, fun h => ?_, fun _ => ⟨h0, (Below.refl _ _).drew, fun i hi h => ?_⟩⟩
    · rw [hL i (Array.getElem?_eq_some_iff.1 ho).1] at h; cases h
    · rw [hL n (by omega)] at h; cases h
    · rw [hL i (by omega)] at h; cases h
  case fin =>
    intro L a w hL hI
    exact hI.2.1 (hL n (by omega))
  case step =>
    intro i o ho
    have hi := (Array.getElem?_eq_some_iff.1 ho).1
    have hclose : ∀ L : Nat → Bool, (∀ i o e, ops[i]? = some o → e ∈ o.after → Region.binds .any e = true → L i = true → L e.on = true) → (∀ e ∈ o.after, Region.binds .any e = true → L e.on = true) → ∀ j p e, ops[j]? = some p → e ∈ p.after → Region.binds .any e = true → more L i j = true → more L i e.on = true := fun L h1 h2 j p e hp he hb hj => by
      unfold more at hj ⊢
      by_cases hji : j = i
      · subst hji
        rw [ho] at hp
        cases hp
        simp [h2 e he hb]
      · rw [if_neg hji] at hj
        simp [h1 j p e hp he hb hj]
    by_cases hl : i < n
    · obtain ⟨hg, hdst, hlt, hst⟩ := hd i o ho hl
      refine ⟨hg, fun L a w hI hLi hE => ?_⟩
      have hLn : L n = false := by
        cases h : L n with
        | false => rfl
        | true => rw [covers_all hcov hI.1 h i (by omega)] at hLi; cases hLi
      obtain ⟨hF, hB, hR⟩ := hI.2.2 hLn
      have hw := (hst a w hF hB (fun e he hb => hR e.on (Nat.lt_trans (hlt e he) hl) (hE e he hb))).1 (wanted_free hg) Q
      refine Oper.wp_mono ?_ hw
      rintro a' w' ⟨v, rfl, hb, hr⟩
      have hne : n ≠ i := by omega
      have hmn : more L i n = L n := by unfold more; rw [if_neg hne]
      refine ⟨hclose L hI.1 hE, fun h => absurd (hmn.symm.trans h) (by rw [hLn]; simp), fun _ => ?_⟩
      rw [hdst]
      refine ⟨hF0 a i v hl hF, below_step hB hb, fun j hj hmj => ?_⟩
      by_cases hji : j = i
      · subst hji
        unfold T
        rw [put_same (hsz a j hl hF)]
        exact hr
      · unfold T
        rw [put_other (fun e => hji (hinj i j hl hj e).symm)]
        have : L j = true := by unfold more at hmj; rwa [if_neg hji] at hmj
        exact hup j _ _ _ (hR j hj this) hb
    · have : i = n := by omega
      subst this
      obtain ⟨hg, hlt, hst⟩ := hlast o ho
      refine ⟨hg, fun L a w hI hLi hE => ?_⟩
      obtain ⟨hF, hB, hR⟩ := hI.2.2 hLi
      have hall := covers_all hcov (L := more L i) (hclose L hI.1 hE) (by simp [more])
      have hall' : ∀ j, j < i → L j = true := fun j hj => by
        have := hall j (by omega)
        unfold more at this
        rwa [if_neg (by omega)] at this
      refine Oper.wp_mono ?_ (hst a w hF hB (fun j hj => hR j hj (hall' j hj)))
      intro a' w' hq
      exact ⟨hclose L hI.1 hE, fun _ => hq, fun h => by simp [more] at h⟩
theorem heap_set {w : World} {A : Nat} {c : Array Value} {t : TypeId} {fz : Nat × Nat} (h : w.heap[A]? = some (.cells c t fz)) (j : Nat) (v : Value) : (w.setCell ⟨A, j, none⟩ v).heap[A]? = some (.cells (c.setIfInBounds j v) t fz) := by
  simp only [World.setCell, Array.getElem?_modify, h]
  rfl
theorem ownsRow_keep {w w' : World} {base : Nat} {e : TypeId} {size : Nat} {v : Value} {n : Nat} {xs : List Value} (h : w.ownsRow base e size v n xs) (hk : ∀ g, v.ownBlock = some g → base ≤ g → g < w.heap.size → w'.heap[g]? = w.heap[g]?) : w'.ownsRow base e size v n xs := by
  refine ⟨h.1, ?_⟩
  rcases h.2 with h2 | ⟨g, cap, cur, rfl, hBg, hg, rest⟩
  · exact Or.inl h2
  · exact Or.inr ⟨g, cap, cur, rfl, hBg, by rw [hk g rfl hBg (Array.getElem?_eq_some_iff.1 hg).1]; exact hg, rest⟩
/-- a block of an element type -/
def TyB (w : World) (t : TypeId) (b : Nat) : Prop := ∃ c z, w.heap[b]? = some (.cells c t z)
theorem TyB.same {w w' : World} {t : TypeId} {b : Nat} (h : TyB w t b) (e : w'.heap[b]? = w.heap[b]?) : TyB w' t b := by
  obtain ⟨c, z, hc⟩ := h
  exact ⟨c, z, e.trans hc⟩
theorem TyB.ne {w : World} {t u : TypeId} {b : Nat} (h : TyB w t b) (h2 : TyB w u b) : t = u := by
  obtain ⟨c, z, hc⟩ := h
  obtain ⟨c', z', hc'⟩ := h2
  rw [hc] at hc'
  simp at hc'
  exact hc'.2.1
/-- THE FRAME OF THE READER's METHODS: all stands but the reader's block and, from a place on, blocks of numbers. -/
structure Fr (b0 B : Nat) (w w' : World) : Prop where
  os : w'.os = w.os
  tape : w'.tape = w.tape
  output : w'.output = w.output
  size : w.heap.size ≤ w'.heap.size
  block : ∀ k, k < w.heap.size → k ≠ B → (b0 ≤ k → ¬ TyB w 3 k) → w'.heap[k]? = w.heap[k]?
section
variable {b0 B : Nat} {w u w' : World}
theorem Fr.refl (b0 B : Nat) (w : World) : Fr b0 B w w := ⟨rfl, rfl, rfl, Nat.le_refl _, fun _ _ _ _ => rfl⟩
theorem Fr.trans (h : Fr b0 B w u) (h2 : Fr b0 B u w') : Fr b0 B w w' :=
  ⟨h2.os.trans h.os, h2.tape.trans h.tape, h2.output.trans h.output, Nat.le_trans h.size h2.size, fun k hk hne ht => by
    have e := h.block k hk hne ht
    exact (h2.block k (Nat.lt_of_lt_of_le hk h.size) hne (fun hb ht3 => ht hb (ht3.same e.symm))).trans e⟩
theorem Fr.below (h : Fr b0 B w w') (hB : b0 ≤ B) (hb : b0 ≤ w.heap.size) : Below b0 w w' :=
  ⟨h.os, h.tape, h.output, h.size, fun k hk => h.block k (by omega) (by omega) (fun h2 => by omega)⟩
end
end
end Go.Proofs.Ytmdhlaccioaomaa
