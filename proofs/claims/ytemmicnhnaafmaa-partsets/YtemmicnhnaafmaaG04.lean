/- A drawn region whose operations write slots of their own: each operation shown once; its answer stands in all later worlds. -/
import Derived.Test.YtemmicnhnaafmaaG03
import Derived.RangeFuncCalls
import Derived.OrdersIn
namespace Go.Proofs.Ytemmicnhnaafmaa
open Go Go.RowKit

/-- the operations of a region of a body -/
def opsIn (id : Nat) : Code → Option (Array Oper)
  | .region i ops _ => if i = id then some ops else none
  | .seq c d => match opsIn id c with
    | some x => some x
    | none => opsIn id d
  | .cond _ c d => match opsIn id c with
    | some x => some x
    | none => opsIn id d
  | .block _ c => opsIn id c
  | .loop c => opsIn id c
  | .scope c => opsIn id c
  | .rangeFunc _ _ c d => match opsIn id c with
    | some x => some x
    | none => opsIn id d
  | _ => none
def opsOf (f : Func) (id : Nat) : Array Oper := match f.body with
  | some c => (opsIn id c).getD #[]
  | none => #[]
abbrev T (a : Act) (k : Nat) : Value := a.tmps[k]?.getD undef
def AllFrom (p : Nat → Oper → Prop) : Nat → List Oper → Prop
  | _, [] => True
  | k, o :: l => p k o ∧ AllFrom p (k + 1) l
theorem allFrom_at {p : Nat → Oper → Prop} {l : List Oper} : ∀ {k : Nat}, AllFrom p k l → ∀ i o, l[i]? = some o → p (k + i) o := by
  induction l with
  | nil => intro k _ i o h; simp at h
  | cons x l ih =>
    intro k h i o hi
    cases i with
    | zero => simp at hi; subst hi; exact h.1
    | succ i =>
      have := ih h.2 i o (by simpa using hi)
      rwa [show k + 1 + i = k + (i + 1) by omega] at this

section
variable {P : Program} {ops : Array Oper} {Q : Exit → Act → World → Prop}
/-- what is owed for one operation -/
def Duty (P : Program) (ops : Array Oper) (w0 : World) (D : Nat → Nat) (R : Nat → Value → World → Prop) (F0 : Act → Prop) (i : Nat) (o : Oper) : Prop :=
  o.dst = some (D i) ∧ (∀ e ∈ o.after, e.on < i) ∧ ∀ a w, F0 a → Below w0.heap.size w0 w → (∀ e ∈ o.after, Region.binds .any e = true → R e.on (T a (D e.on)) w) →
    (Region.wanted o (yielded ops a.tmps) = true → ∀ Q, o.wp P a w (Leaves (R i) o a w) Q) ∧ (Region.wanted o (yielded ops a.tmps) = false → R i undef w)
theorem wp_region_slots {id : Nat} {a : Act} {w0 : World} (hm : P.follows .mixedOrders = true) (D : Nat → Nat) (R : Nat → Value → World → Prop) (F0 : Act → Prop)
    (hup : ∀ i v w w', R i v w → Below w.heap.size w w' → R i v w')
    (hF0 : ∀ a i v, i < ops.size → F0 a → F0 (a.put (some (D i)) v)) (hsz : ∀ a i, i < ops.size → F0 a → D i < a.tmps.size)
    (hinj : ∀ i j, i < ops.size → j < ops.size → D i = D j → i = j)
    (hduty : AllFrom (Duty P ops w0 D R F0) 0 ops.toList)
    (hend : ∀ a w, F0 a → Below w0.heap.size w0 w → (∀ i, i < ops.size → R i (T a (D i)) w) → Q .normal a w)
    (h0 : F0 a) : (Code.region id ops true).wp P Q a w0 := by
  have hd : ∀ i o, ops[i]? = some o → Duty P ops w0 D R F0 i o := fun i o ho => by
    have := allFrom_at hduty i o (by simpa using ho)
    rwa [Nat.zero_add] at this
  refine wp_region_each hm (fun a w => F0 a ∧ Below w0.heap.size w0 w) (fun i a w => i < ops.size → R i (T a (D i)) w) (fun i o e ho he _ => (hd i o ho).2.1 e he) (fun i o ho a w hf hg => ?_) (fun a w hf hg => hend a w hf.1 hf.2 (fun i hi => hg i hi hi)) ⟨h0, (Below.refl _ _).drew⟩
  obtain ⟨hdst, hlt, hst⟩ := hd i o ho
  have hi := (Array.getElem?_eq_some_iff.1 ho).1
  obtain ⟨hw, hn⟩ := hst a w hf.1 hf.2 (fun e he hb => hg e he hb (Nat.lt_trans (hlt e he) hi))
  have hs := hsz a i hi hf.1
  unfold wpOp
  simp only [ho]
  split
  · rename_i hwt
    refine .inl (Oper.wp_mono (fun a' w' h => ?_) (hw hwt Q))
    obtain ⟨v, rfl, hb, hr⟩ := h
    rw [hdst]
    refine ⟨⟨hF0 a i v hi hf.1, below_step hf.2 hb⟩, fun _ => ?_, fun j hj hgj hjs => ?_⟩
    · show R i _ _
      unfold T
      rw [put_same hs]
      exact hr
    · show R j _ _
      unfold T
      rw [put_other (fun e => hj (hinj i j hi hjs e).symm)]
      exact hup j _ _ _ (hgj hjs) hb
  · rename_i hwt
    rw [hdst]
    refine ⟨⟨hF0 a i undef hi hf.1, hf.2⟩, fun _ => ?_, fun j hj hgj hjs => ?_⟩
    · show R i _ _
      unfold T
      rw [put_same hs]
      exact hn (by simpa using hwt)
    · show R j _ _
      unfold T
      rw [put_other (fun e => hj (hinj i j hi hjs e).symm)]
      exact hgj hjs
theorem T_lt {a : Act} {k : Nat} {b : Bool} (h : T a k = .bool b) : a.tmps[k]? = some (.bool b) := by
  unfold T at h
  cases e : a.tmps[k]? with
  | none => rw [e] at h; exact absurd h (by simp [undef])
  | some v => rw [e] at h; simp at h; rw [h]
theorem wanted_free {o : Oper} {y : Nat → Option Bool} (h : o.guard = none) : Region.wanted o y = true := by unfold Region.wanted; rw [h]
theorem wanted_met {o : Oper} {a : Act} {j d : Nat} {b : Bool} (h : o.guard = some (j, b)) (hd : (ops[j]?).bind (·.dst) = some d) (hT : T a d = .bool b) : Region.wanted o (yielded ops a.tmps) = true := by
  unfold Region.wanted
  rw [h]
  simp [yielded, hd, T_lt hT]
variable {w0 : World} {D : Nat → Nat} {R : Nat → Value → World → Prop} {F0 : Act → Prop} {i : Nat} {o : Oper}
theorem duty_free (hd : o.dst = some (D i)) (ha : ∀ e ∈ o.after, e.on < i) (hg : o.guard = none)
    (h : ∀ a w, F0 a → Below w0.heap.size w0 w → (∀ e ∈ o.after, Region.binds .any e = true → R e.on (T a (D e.on)) w) → ∀ Q, o.wp P a w (Leaves (R i) o a w) Q) : Duty P ops w0 D R F0 i o :=
  ⟨hd, ha, fun a w hF hB hE => ⟨fun _ => h a w hF hB hE, fun hw => by rw [wanted_free hg] at hw; cases hw⟩⟩
theorem duty_met {j : Nat} {b : Bool} (hd : o.dst = some (D i)) (ha : ∀ e ∈ o.after, e.on < i) (hg : o.guard = some (j, b)) (hj : (ops[j]?).bind (·.dst) = some (D j)) (he : ⟨j, .guard⟩ ∈ o.after) (hR : ∀ v w, R j v w → v = .bool b)
    (h : ∀ a w, F0 a → Below w0.heap.size w0 w → (∀ e ∈ o.after, Region.binds .any e = true → R e.on (T a (D e.on)) w) → ∀ Q, o.wp P a w (Leaves (R i) o a w) Q) : Duty P ops w0 D R F0 i o :=
  ⟨hd, ha, fun a w hF hB hE => ⟨fun _ => h a w hF hB hE, fun hw => by rw [wanted_met hg hj (hR _ _ (hE _ he rfl))] at hw; cases hw⟩⟩

/-! ### one operation -/
variable {a : Act} {w : World} {r : Value → World → Prop}
attribute [local go_sem] Oper.semAt_some
theorem ob_load4 {A p : Nat} {s : Oct.S} (ho : o.op = .load 31 (.tmp p)) (hp : T a p = .pointer (some ⟨A, 0, none⟩)) (hs : SB w A s) (hr : r (setV s) w) : o.wp Try.prog a w (Leaves r o a w) Q := by
  obtain ⟨dst, op, type, pos, after, guard⟩ := o
  simp only at ho
  subst ho
  obtain ⟨c0, c1, c2, c3⟩ := hs.cells
  refine ob_value (v := setV s) (w' := w) ?_ (Below.refl _ _) hr
  simp [execOp, Act.eval, hp, go_sem, c0, c1, c2, c3, setV]
theorem ob_slice2 {p q : Nat} {s t : Oct.S} (ho : o.op = .buildSlice 27 2 #[(0, .tmp p), (1, .tmp q)]) (hty : o.type = 27) (hp : T a p = setV s) (hq : T a q = setV t) (hr : ∀ g w', SL w' g [s, t] → r (.slice (some ⟨g, 0, none⟩) 2 2) w') : o.wp Try.prog a w (Leaves r o a w) Q := by
  obtain ⟨dst, op, type, pos, after, guard⟩ := o
  simp only at ho hty
  subst ho hty
  refine ob_value (w' := w.alloc _) ?_ ((Below.refl _ _).alloc (Nat.le_refl _) _) (hr _ _ (sl2_new w s t _ rfl))
  unfold setV at hp hq
  simp [execOp, Act.eval, hp, hq, go_sem]
theorem ob_slice3 {p q u : Nat} {s t x : Oct.S} (ho : o.op = .buildSlice 27 3 #[(0, .tmp p), (1, .tmp q), (2, .tmp u)]) (hty : o.type = 27) (hp : T a p = setV s) (hq : T a q = setV t) (hu : T a u = setV x) (hr : ∀ g w', SL w' g [s, t, x] → r (.slice (some ⟨g, 0, none⟩) 3 3) w') : o.wp Try.prog a w (Leaves r o a w) Q := by
  obtain ⟨dst, op, type, pos, after, guard⟩ := o
  simp only at ho hty
  subst ho hty
  refine ob_value (w' := w.alloc _) ?_ ((Below.refl _ _).alloc (Nat.le_refl _) _) (hr _ _ (sl3_new w s t x _ rfl))
  unfold setV at hp hq hu
  simp [execOp, Act.eval, hp, hq, hu, go_sem]
/-- a function with a body -/
def Enters (f : Nat) : Prop := ∀ (args : Array Value) (w : World), (callFunc f args).run Try.prog w = .ok (.enter f args) w
theorem ob_call1 {p f : Nat} {ts : Array TypeId} (ho : o.op = .call { callee := .value (.func f), args := #[.tmp p], argTypes := ts }) (hf : Enters f) {v : Value} (hx : T a p = v) (hc : Calls Try.prog f #[v] w fun e w' => ∃ v, e = .returned v ∧ Below w.heap.size w w' ∧ r v w') : o.wp Try.prog a w (Leaves r o a w) Q := by
  obtain ⟨dst, op, type, pos, after, guard⟩ := o
  simp only at ho
  subst ho
  refine ob_enter (args := #[v]) ?_ hc
  simp [Act.eval, hx, go_sem]
  exact hf _ _
theorem ob_call1c {f : Nat} {ts : Array TypeId} {v : Value} (ho : o.op = .call { callee := .value (.func f), args := #[.const v], argTypes := ts }) (hf : Enters f) (hc : Calls Try.prog f #[v] w fun e w' => ∃ v, e = .returned v ∧ Below w.heap.size w w' ∧ r v w') : o.wp Try.prog a w (Leaves r o a w) Q := by
  obtain ⟨dst, op, type, pos, after, guard⟩ := o
  simp only at ho
  subst ho
  refine ob_enter (args := #[v]) ?_ hc
  simp [Act.eval, go_sem]
  exact hf _ _
theorem ob_call2 {p q f : Nat} {ts : Array TypeId} (ho : o.op = .call { callee := .value (.func f), args := #[.tmp p, .tmp q], argTypes := ts }) (hf : Enters f) {v u : Value} (hx : T a p = v) (hy : T a q = u) (hc : Calls Try.prog f #[v, u] w fun e w' => ∃ v, e = .returned v ∧ Below w.heap.size w w' ∧ r v w') : o.wp Try.prog a w (Leaves r o a w) Q := by
  obtain ⟨dst, op, type, pos, after, guard⟩ := o
  simp only at ho
  subst ho
  refine ob_enter (args := #[v, u]) ?_ hc
  simp [Act.eval, hx, hy, go_sem]
  exact hf _ _
theorem ob_call2c {p f : Nat} {ts : Array TypeId} {v u : Value} (ho : o.op = .call { callee := .value (.func f), args := #[.tmp p, .const u], argTypes := ts }) (hf : Enters f) (hx : T a p = v) (hc : Calls Try.prog f #[v, u] w fun e w' => ∃ v, e = .returned v ∧ Below w.heap.size w w' ∧ r v w') : o.wp Try.prog a w (Leaves r o a w) Q := by
  obtain ⟨dst, op, type, pos, after, guard⟩ := o
  simp only at ho
  subst ho
  refine ob_enter (args := #[v, u]) ?_ hc
  simp [Act.eval, hx, go_sem]
  exact hf _ _
theorem ob_neq4 {p q : Nat} {s t : Oct.S} (ho : o.op = .binOp .neq 31 (.tmp p) (.tmp q) 24) (hx : T a p = setV s) (hy : T a q = setV t) (he : ∀ b, b < 256 → s b = t b) (hr : r (.bool false) w) : o.wp Try.prog a w (Leaves r o a w) Q := by
  obtain ⟨dst, op, type, pos, after, guard⟩ := o
  simp only at ho
  subst ho
  rw [setV_congr he] at hx
  refine ob_value (v := .bool false) (w' := w) ?_ (Below.refl _ _) hr
  unfold setV at hx hy
  have eq := eq4_same
  simp [execOp, Act.eval, hx, hy, go_sem, eq]
theorem ob_eql4 {p q : Nat} {s t : Oct.S} (ho : o.op = .binOp .eql 31 (.tmp p) (.tmp q) 24) (hx : T a p = setV s) (hy : T a q = setV t) (he : ∀ b, b < 256 → s b = t b) (hr : r (.bool true) w) : o.wp Try.prog a w (Leaves r o a w) Q := by
  obtain ⟨dst, op, type, pos, after, guard⟩ := o
  simp only at ho
  subst ho
  rw [setV_congr he] at hx
  refine ob_value (v := .bool true) (w' := w) ?_ (Below.refl _ _) hr
  unfold setV at hx hy
  have eq := eq4_same
  simp [execOp, Act.eval, hx, hy, go_sem, eq]
theorem ob_move {p : Nat} {v : Value} (ho : o.op = .move (.tmp p)) (hx : T a p = v) (hr : r v w) : o.wp Try.prog a w (Leaves r o a w) Q := by
  obtain ⟨dst, op, type, pos, after, guard⟩ := o
  simp only at ho
  subst ho
  refine ob_value (v := v) (w' := w) ?_ (Below.refl _ _) hr
  simp [execOp, Act.eval, hx, go_sem]
theorem ob_assign {p : Nat} {v : Value} (ho : o.op = .assign (.tmp p)) (hx : T a p = v) (hr : r v w) : o.wp Try.prog a w (Leaves r o a w) Q := by
  obtain ⟨dst, op, type, pos, after, guard⟩ := o
  simp only at ho
  subst ho
  refine ob_value (v := v) (w' := w) ?_ (Below.refl _ _) hr
  simp [execOp, Act.eval, hx, go_sem]
theorem ob_pick_or {p q : Nat} {x : Value} {v : Value} (ho : o.op = .pick (.tmp p) (.const x) (.tmp q)) (hx : T a p = .bool false) (hy : T a q = v) (hr : r v w) : o.wp Try.prog a w (Leaves r o a w) Q := by
  obtain ⟨dst, op, type, pos, after, guard⟩ := o
  simp only at ho
  subst ho
  refine ob_value (v := v) (w' := w) ?_ (Below.refl _ _) hr
  simp [execOp, Act.eval, hx, hy, go_sem]
theorem ob_pick_and {p q : Nat} {x : Value} {v : Value} (ho : o.op = .pick (.tmp p) (.tmp q) (.const x)) (hx : T a p = .bool true) (hy : T a q = v) (hr : r v w) : o.wp Try.prog a w (Leaves r o a w) Q := by
  obtain ⟨dst, op, type, pos, after, guard⟩ := o
  simp only at ho
  subst ho
  refine ob_value (v := v) (w' := w) ?_ (Below.refl _ _) hr
  simp [execOp, Act.eval, hx, hy, go_sem]
theorem ob_add {p q : Nat} {m n : Nat} (ho : o.op = .binOp .add 3 (.tmp p) (.tmp q) 3) (hx : T a p = .int .i64 (m : Nat)) (hy : T a q = .int .i64 (n : Nat)) (hm : m ≤ 256) (hn : n ≤ 256) (hr : r (.int .i64 ((m : Int) + (n : Int))) w) : o.wp Try.prog a w (Leaves r o a w) Q := by
  obtain ⟨dst, op, type, pos, after, guard⟩ := o
  simp only at ho
  subst ho
  refine ob_value (v := .int .i64 ((m : Int) + (n : Int))) (w' := w) ?_ (Below.refl _ _) hr
  simp [execOp, Act.eval, hx, hy, go_sem]
  simp [IntKind.wrap, IntKind.signed, IntKind.bits]
  omega
theorem ob_eqli {p q : Nat} {m : Int} (ho : o.op = .binOp .eql 3 (.tmp p) (.tmp q) 3) (hx : T a p = .int .i64 m) (hy : T a q = .int .i64 m) (hr : r (.bool true) w) : o.wp Try.prog a w (Leaves r o a w) Q := by
  obtain ⟨dst, op, type, pos, after, guard⟩ := o
  simp only at ho
  subst ho
  refine ob_value (v := .bool true) (w' := w) ?_ (Below.refl _ _) hr
  simp [execOp, Act.eval, hx, hy, go_sem]
theorem enters12 : Enters 17 := fun args w => by simp [go_sem]
theorem enters19 : Enters 16 := fun args w => by simp [go_sem]
theorem enters11 : Enters 14 := fun args w => by simp [go_sem]
theorem enters14 : Enters 18 := fun args w => by simp [go_sem]
end
end Go.Proofs.Ytemmicnhnaafmaa

/- A drawn region within a round of a loop over an iterator (of the wide fence): each operation shown once, by an invariant that knows which operations have come up. -/
namespace Go.Proofs.Ytemmicnhnaafmaa
open Go Go.RowKit

section
variable {P : Program} {ops : Array Oper} {Q : Exit → Act → World → Prop}
theorem wpIn_of_wp {o : Oper} {a : Act} {w : World} {K : Act → World → Prop} {l n : Nat} (hd : ∀ c, o.op ≠ .defer c) (h : o.wp P a w K Q) : o.wpIn (Fence.wide.inRound l) n P a w K Q := by
  refine ⟨fun _ _ => trivial, ?_⟩
  rw [Oper.semAt_eq _ _ _ hd]
  unfold Oper.wp at h
  generalize (execOp a.eval o).run P w = r at h ⊢
  cases r with
  | ok x w' =>
    cases x with
    | value v => exact h
    | skip => exact h
    | defer d => exact h
    | enter f args => exact ⟨fun e => (by simp [Fence.wide, Fence.inRound] at e), CallsIn.inRound l (callsIn_wide.2 h)⟩
    | row r args => exact ⟨fun e => (by simp [Fence.wide, Fence.inRound] at e), fun c cs _ => let ⟨v, w', r, s⟩ := h c cs; ⟨v, w', r, stepsIn_wide.2 s⟩⟩
    | round l f tmps assign body => exact h.elim
    | _ => exact h
  | halt x w' => cases x <;> exact h
/-- the operations that have come up, one more -/
def more (L : Nat → Bool) (i : Nat) : Nat → Bool := fun j => if j = i then true else L j
theorem wpAnyIn_inv {l n : Nat} (Inv : (Nat → Bool) → Act → World → Prop)
    (hwf : ∀ i o e, ops[i]? = some o → e ∈ o.after → Region.binds .any e = true → e.on < i)
    (hstep : ∀ i o, ops[i]? = some o → o.guard = none ∧ (∀ c, o.op ≠ .defer c) ∧ ∀ L a w, Inv L a w → L i = false → (∀ e ∈ o.after, Region.binds .any e = true → L e.on = true) → ∀ Q, o.wp P a w (fun a' w' => Inv (more L i) a' w') Q)
    (hend : ∀ L a w, (∀ i, i < ops.size → L i = true) → Inv L a w → Q .normal a w) :
    ∀ (fuel : Nat) (listed : Array Bool) (a : Act) (w : World), listed.size = ops.size → left ops listed ≤ fuel → Inv (fun i => listed.getD i true) a w → wpAnyIn (Fence.wide.inRound l) n P .any ops Q fuel listed a w := by
  intro fuel
  induction fuel with
  | zero =>
    intro listed a w hsz hl hf
    have hall := left_zero (Nat.le_zero.1 hl)
    refine ⟨?_, hend _ a w (fun i hi => hall i hi) hf⟩
    apply List.eq_nil_iff_forall_not_mem.2
    intro i hi
    obtain ⟨h0, o, ho, _⟩ := mem_ready.1 hi
    have hlt := (Array.getElem?_eq_some_iff.1 ho).1
    rw [hall i hlt] at h0
    cases h0
  | succ fuel ih =>
    intro listed a w hsz hl hf
    refine ⟨fun h => hend _ a w (fun i hi => all_of_ready hwf hsz h i hi) hf, fun i hi => ?_⟩
    obtain ⟨h0, o, ho, hafter⟩ := mem_ready.1 hi
    have hlt := (Array.getElem?_eq_some_iff.1 ho).1
    obtain ⟨hg, hd, hs⟩ := hstep i o ho
    have hw := hs _ a w hf h0 (fun e he hb => by
      have h4 := hafter e he hb
      have h5 := hwf i o e ho he hb
      have hs : e.on < listed.size := by omega
      simp [hs] at h4 ⊢
      exact h4) Q
    unfold wpOpIn
    simp only [ho, wanted_free hg, if_true]
    refine Oper.wpIn_mono (fun a' w' h => ?_) (wpIn_of_wp hd hw)
    refine ih _ a' w' (by simpa using hsz) (by have := left_set hlt h0 hsz; omega) ?_
    have e : (fun j => (listed.setIfInBounds i true).getD j true) = more (fun j => listed.getD j true) i := by
      funext j
      unfold more
      by_cases e : j = i
      · subst e
        have hjs : j < listed.size := by omega
        simp [hjs]
      · rw [getD_set_ne true (Ne.symm e)]
        simp [e]
    rw [e]
    exact h
theorem wpIn_region_inv {id l n : Nat} {a : Act} {w : World} (hm : P.follows .mixedOrders = true) (Inv : (Nat → Bool) → Act → World → Prop)
    (hwf : ∀ i o e, ops[i]? = some o → e ∈ o.after → Region.binds .any e = true → e.on < i)
    (hstep : ∀ i o, ops[i]? = some o → o.guard = none ∧ (∀ c, o.op ≠ .defer c) ∧ ∀ L a w, Inv L a w → L i = false → (∀ e ∈ o.after, Region.binds .any e = true → L e.on = true) → ∀ Q, o.wp P a w (fun a' w' => Inv (more L i) a' w') Q)
    (hend : ∀ L a w, (∀ i, i < ops.size → L i = true) → Inv L a w → Q .normal a w)
    (h0 : ∀ L, (∀ i, i < ops.size → L i = false) → Inv L a w.drew) : (Code.region id ops true).wpIn (Fence.wide.inRound l) n P Q a w := by
  refine wpIn_region_any hm (wpAnyIn_inv Inv hwf hstep hend ops.size _ a _ (by simp) ?_ (h0 _ (fun i hi => by simp [hi])))
  unfold left
  have := List.length_filter_le (fun i => !(Array.replicate ops.size false).getD i true) (List.range ops.size)
  simpa using this
end
end Go.Proofs.Ytemmicnhnaafmaa
