
import Derived.Test.YtmjnobdlgbojoaaGreatDoorG00
import Derived.Orders
import Derived.Deep.RegionHeld3
import Derived.Deep.DrawnRows
import Derived.Deep.DeepCutAuto
import Derived.Shelf.Small.Strs
import Derived.Shelf.Strings.Search1
import Derived.Shelf.Strings.Search2
import Derived.Shelf.Strings.Cut
import Derived.Shelf.LaysM
import Derived.Shelf.Strings.Shaped
import Derived.Shelf.Strings.Prefix
import Derived.Test.YtmjnobdlgbojoaaGreatDoorProg
namespace Go.Proofs.YtmjnobdlgbojoaaGreatDoor
open Go.RowKit
def cells4 (s : Oct.S) : List Value := [.int .u64 (Oct.word s 0 : Nat), .int .u64 (Oct.word s 1 : Nat), .int .u64 (Oct.word s 2 : Nat), .int .u64 (Oct.word s 3 : Nat)]
def flat (l : List Oct.S) : List Value := l.flatMap cells4
theorem flat_at (l : List Oct.S) (k j : Nat) (s : Oct.S) (hk : l[k]? = some s) (hj : j < 4) : (flat l)[k * 4 + j]? = (cells4 s)[j]? := by
  induction l generalizing k with
  | nil => simp at hk
  | cons x r ih =>
    simp only [flat, List.flatMap_cons] at ih ⊢
    cases k with
    | zero =>
      simp at hk
      subst hk
      rw [List.getElem?_append_left (by simp [cells4]; omega)]
      simp
    | succ k =>
      simp at hk
      rw [List.getElem?_append_right (by simp [cells4]; omega), ← ih k hk]
      congr 1
      simp [cells4]
      omega
structure SL (w : World) (g : Nat) (l : List Oct.S) : Prop where
  block : w.heap[g]? = some (.cells (flat l).toArray 28 (0, 0))
theorem SL.at {w : World} {g : Nat} {l : List Oct.S} (h : SL w g l) : SetsAt w (some ⟨g, 0, none⟩) l := by
  refine Or.inr ⟨g, 0, rfl, fun k s hk => ?_⟩
  have h := h.block
  have h0 := flat_at l k 0 s hk (by decide)
  have h1 := flat_at l k 1 s hk (by decide)
  have h2 := flat_at l k 2 s hk (by decide)
  have h3 := flat_at l k 3 s hk (by decide)
  simp only [Nat.add_zero] at h0
  refine ⟨?_, ?_, ?_, ?_⟩ <;> simp [World.cell?, h, h0, h1, h2, h3, cells4]
theorem sl2_new (w : World) (s t : Oct.S) (g : Nat) (hg : g = w.heap.size) : SL (w.alloc (.cells #[.int .u64 (Oct.word s 0 : Nat), .int .u64 (Oct.word s 1 : Nat), .int .u64 (Oct.word s 2 : Nat), .int .u64 (Oct.word s 3 : Nat), .int .u64 (Oct.word t 0 : Nat), .int .u64 (Oct.word t 1 : Nat), .int .u64 (Oct.word t 2 : Nat), .int .u64 (Oct.word t 3 : Nat)] 28)) g [s, t] := by
  subst hg
  exact ⟨heap_alloc_new w _⟩
theorem join2_gen {w : World} {g : Nat} {s t : Oct.S} (h : SL w g [s, t]) : Calls Tryz.prog 95 #[.slice (some ⟨g, 0, none⟩) 2 2] w fun e w' => e = .returned (.agg #[.int .u64 (Oct.word (Oct.join s t) 0 : Nat), .int .u64 (Oct.word (Oct.join s t) 1 : Nat), .int .u64 (Oct.word (Oct.join s t) 2 : Nat), .int .u64 (Oct.word (Oct.join s t) 3 : Nat)]) ∧ Below w.heap.size w w' := by
  refine (join_any _ 2 2 [s, t] w rfl (by simp [maxLen]) h.at).mono ?_
  rintro e w' ⟨rfl, hb⟩
  exact ⟨by rw [setV_congr (s := Oct.joins [s, t]) (t := Oct.join s t) (fun b _ => by simp [Oct.joins, Oct.join])]; rfl, hb⟩
theorem not_gen (s : Oct.S) (w : World) : Calls Tryz.prog 96 #[.agg #[.int .u64 (Oct.word s 0 : Nat), .int .u64 (Oct.word s 1 : Nat), .int .u64 (Oct.word s 2 : Nat), .int .u64 (Oct.word s 3 : Nat)]] w fun e w' => e = .returned (.agg #[.int .u64 (Oct.word (Oct.inv s) 0 : Nat), .int .u64 (Oct.word (Oct.inv s) 1 : Nat), .int .u64 (Oct.word (Oct.inv s) 2 : Nat), .int .u64 (Oct.word (Oct.inv s) 3 : Nat)]) ∧ Below w.heap.size w w' := not_any s w
theorem has_gen (s : Oct.S) (b : Nat) (w : World) (hb : b < 256) : Calls Tryz.prog 32 #[.agg #[.int .u64 (Oct.word s 0 : Nat), .int .u64 (Oct.word s 1 : Nat), .int .u64 (Oct.word s 2 : Nat), .int .u64 (Oct.word s 3 : Nat)], .int .u8 b] w fun e w' => e = .returned (.bool (s b)) ∧ Below w.heap.size w w' := has_any s b w hb
end Go.Proofs.YtmjnobdlgbojoaaGreatDoor


namespace Go.Proofs.YtmjnobdlgbojoaaGreatDoor
open Go.RowKit
structure Later (w : World) where
  at_ : World
  below : Below w.heap.size w at_
theorem wp_region_later {P : Program} {id : Nat} {Q : Exit → Act → World → Prop} {a : Act} {w : World} {l : List Oper} (hm : P.follows .mixedOrders = true) (hB : Region.lexB .any l.toArray = true)
    (h : wpQuiet P l.toArray (fun w' => ∃ u : Later w, w' = u.at_) (fun a' => ∀ w', (∃ u : Later w, w' = u.at_) → Q .normal a' w') l a) : (Code.region id l.toArray true).wp P Q a w :=
  wp_region_quiet (C := fun w' => ∃ u : Later w, w' = u.at_) hm hB ⟨⟨w.drew, (Below.refl _ _).drew⟩, rfl⟩ (by simpa using h)
theorem calls_later {P : Program} {f : FuncId} {args : Array Value} {w : World} {u : Later w} {v : Value} (h : Calls P f args u.at_ fun e w' => e = .returned v ∧ Below u.at_.heap.size u.at_ w') :
    Calls P f args u.at_ fun e w'' => e = .returned v ∧ ∃ m : Later w, w'' = m.at_ :=
  h.mono fun _ w' ⟨he, hb⟩ => ⟨he, ⟨w', below_trans u.below hb u.below.size⟩, rfl⟩
theorem calls_later_same {P : Program} {f : FuncId} {args : Array Value} {w : World} {u : Later w} {v : Value} (h : Calls P f args u.at_ fun e w' => e = .returned v ∧ w' = u.at_) :
    Calls P f args u.at_ fun e w'' => e = .returned v ∧ ∃ m : Later w, w'' = m.at_ :=
  h.mono fun _ _ ⟨he, hb⟩ => ⟨he, u, hb⟩
end Go.Proofs.YtmjnobdlgbojoaaGreatDoor


namespace Go.Proofs.YtmjnobdlgbojoaaGreatDoor
open Go
section
variable {P : Program} {ops : Array Oper} {md : Region.Mode} {Q : Exit → Act → World → Prop}
def left (ops : Array Oper) (listed : Array Bool) : Nat := ((List.range ops.size).filter fun i => !listed.getD i true).length
theorem left_zero {listed : Array Bool} (h : left ops listed = 0) : ∀ i, i < ops.size → listed.getD i true = true := by
  intro i hi
  have h1 := List.eq_nil_of_length_eq_zero h
  rw [List.filter_eq_nil_iff] at h1
  have h2 := h1 i (List.mem_range.2 hi)
  cases h3 : listed.getD i true with
  | true => rfl
  | false => exact absurd (by rw [h3]; rfl) h2
theorem left_set {listed : Array Bool} {i : Nat} (hi : i < ops.size) (h0 : listed.getD i true = false) (hsz : listed.size = ops.size) : left ops (listed.setIfInBounds i true) < left ops listed := by
  unfold left
  have hsub : ((List.range ops.size).filter fun k => !(listed.setIfInBounds i true).getD k true) = ((List.range ops.size).filter fun k => !listed.getD k true).filter fun k => !(k == i) := by
    rw [List.filter_filter]
    apply List.filter_congr
    intro k _
    by_cases e : i = k
    · subst e
      simp [hsz, hi]
    · rw [getD_set_ne true e]
      have : ¬ k = i := fun h => e h.symm
      simp [this]
  rw [hsub]
  refine List.length_filter_lt_length_iff_exists.2 ⟨i, List.mem_filter.2 ⟨List.mem_range.2 hi, by rw [h0]; rfl⟩, by simp⟩
theorem all_of_ready {listed : Array Bool} (hwf : ∀ i o e, ops[i]? = some o → e ∈ o.after → Region.binds md e = true → e.on < i) (hsz : listed.size = ops.size) (h : Region.ready md ops listed = []) : ∀ i, i < ops.size → listed.getD i true = true := by
  intro i
  induction i using Nat.strongRecOn with
  | ind i ih =>
    intro hi
    cases h3 : listed.getD i true with
    | true => rfl
    | false =>
      have hm : i ∈ Region.ready md ops listed := mem_ready.2 ⟨h3, ops[i], Array.getElem?_eq_getElem hi, fun e he hb => by
        have hlt := hwf i _ e (Array.getElem?_eq_getElem hi) he hb
        have h4 := ih e.on hlt (by omega)
        have hs : e.on < listed.size := by omega
        simp [hs] at h4 ⊢
        exact h4⟩
      rw [h] at hm
      cases hm
end
end Go.Proofs.YtmjnobdlgbojoaaGreatDoor


namespace Go.Proofs.YtmjnobdlgbojoaaGreatDoor
open Go Go.RowKit
section
variable {P : Program} {ops : Array Oper} {Q : Exit → Act → World → Prop}
theorem put_same {a : Act} {d : Nat} {v : Value} (h : d < a.tmps.size) : (a.put (some d) v).tmps[d]?.getD undef = v := by simp [Act.put, h]
theorem put_other {a : Act} {d e : Nat} {v : Value} (h : d ≠ e) : (a.put (some d) v).tmps[e]?.getD undef = a.tmps[e]?.getD undef := by simp [Act.put, Array.getElem?_setIfInBounds_ne h]
theorem below_step {w0 w w' : World} (h : Below w0.heap.size w0 w) (hb : Below w.heap.size w w') : Below w0.heap.size w0 w' := below_trans h hb h.size
def Leaves (R : Value → World → Prop) (o : Oper) (a : Act) (w : World) : Act → World → Prop := fun a' w' => ∃ v, a' = a.put o.dst v ∧ Below w.heap.size w w' ∧ R v w'
theorem ob_value {o : Oper} {a : Act} {w w' : World} {R : Value → World → Prop} {v : Value} (h : (execOp a.eval o).run P w = .ok (.value v) w') (hb : Below w.heap.size w w') (hR : R v w') : o.wp P a w (Leaves R o a w) Q := by
  unfold Oper.wp
  rw [h]
  exact ⟨v, rfl, hb, hR⟩
theorem ob_enter {o : Oper} {a : Act} {w : World} {R : Value → World → Prop} {f : FuncId} {args : Array Value} (h : (execOp a.eval o).run P w = .ok (.enter f args) w) (hc : Calls P f args w fun e w' => ∃ v, e = .returned v ∧ Below w.heap.size w w' ∧ R v w') : o.wp P a w (Leaves R o a w) Q := by
  unfold Oper.wp
  rw [h]
  refine hc.mono ?_
  rintro e w' ⟨v, rfl, hb, hR⟩
  exact ⟨v, rfl, hb, hR⟩
end
end Go.Proofs.YtmjnobdlgbojoaaGreatDoor


namespace Go.Proofs.YtmjnobdlgbojoaaGreatDoor
open Go Go.RowKit
def opsIn (id : Nat) : Code → Option (Array Oper)
  | .region i ops _ => if i = id then some ops else none
  | .seq c d => match opsIn id c with
    | some x => some x
    | none => opsIn id d
  | .cond _ c d => match opsIn id c with
    | some x => some x
    | none => opsIn id d
  | .block _ c => opsIn id c
  | .loop c => opsIn id c
  | .scope c => opsIn id c
  | .rangeFunc _ _ c d => match opsIn id c with
    | some x => some x
    | none => opsIn id d
  | _ => none
def opsOf (f : Func) (id : Nat) : Array Oper := match f.body with
  | some c => (opsIn id c).getD #[]
  | none => #[]
abbrev T (a : Act) (k : Nat) : Value := a.tmps[k]?.getD undef
def AllFrom (p : Nat → Oper → Prop) : Nat → List Oper → Prop
  | _, [] => True
  | k, o :: l => p k o ∧ AllFrom p (k + 1) l
theorem allFrom_at {p : Nat → Oper → Prop} {l : List Oper} : ∀ {k : Nat}, AllFrom p k l → ∀ i o, l[i]? = some o → p (k + i) o := by
  induction l with
  | nil => intro k _ i o h; simp at h
  | cons x l ih =>
    intro k h i o hi
    cases i with
    | zero => simp at hi; subst hi; exact h.1
    | succ i =>
      have := ih h.2 i o (by simpa using hi)
      rwa [show k + 1 + i = k + (i + 1) by omega] at this
section
variable {P : Program} {ops : Array Oper} {Q : Exit → Act → World → Prop}
def Duty (P : Program) (ops : Array Oper) (w0 : World) (D : Nat → Nat) (R : Nat → Value → World → Prop) (F0 : Act → Prop) (i : Nat) (o : Oper) : Prop :=
  o.dst = some (D i) ∧ (∀ e ∈ o.after, e.on < i) ∧ ∀ a w, F0 a → Below w0.heap.size w0 w → (∀ e ∈ o.after, Region.binds .any e = true → R e.on (T a (D e.on)) w) →
    (Region.wanted o (yielded ops a.tmps) = true → ∀ Q, o.wp P a w (Leaves (R i) o a w) Q) ∧ (Region.wanted o (yielded ops a.tmps) = false → R i undef w)
theorem wanted_free {o : Oper} {y : Nat → Option Bool} (h : o.guard = none) : Region.wanted o y = true := by unfold Region.wanted; rw [h]
variable {w0 : World} {D : Nat → Nat} {R : Nat → Value → World → Prop} {F0 : Act → Prop} {i : Nat} {o : Oper}
theorem duty_free (hd : o.dst = some (D i)) (ha : ∀ e ∈ o.after, e.on < i) (hg : o.guard = none)
    (h : ∀ a w, F0 a → Below w0.heap.size w0 w → (∀ e ∈ o.after, Region.binds .any e = true → R e.on (T a (D e.on)) w) → ∀ Q, o.wp P a w (Leaves (R i) o a w) Q) : Duty P ops w0 D R F0 i o :=
  ⟨hd, ha, fun a w hF hB hE => ⟨fun _ => h a w hF hB hE, fun hw => by rw [wanted_free hg] at hw; cases hw⟩⟩
variable {a : Act} {w : World} {r : Value → World → Prop}
attribute [local go_sem] Oper.semAt_some
theorem ob_load4 {A p : Nat} {s : Oct.S} (ho : o.op = .load 28 (.tmp p)) (hp : T a p = .pointer (some ⟨A, 0, none⟩)) (hs : SB w A s) (hr : r (setV s) w) : o.wp Tryz.prog a w (Leaves r o a w) Q := by
  obtain ⟨dst, op, type, pos, after, guard⟩ := o
  simp only at ho
  subst ho
  obtain ⟨c0, c1, c2, c3⟩ := hs.cells
  refine ob_value (v := setV s) (w' := w) ?_ (Below.refl _ _) hr
  simp [execOp, Act.eval, hp, go_sem, c0, c1, c2, c3, setV]
set_option maxRecDepth 10000 in
theorem ob_slice2 {p q : Nat} {s t : Oct.S} (ho : o.op = .buildSlice 143 2 #[(0, .tmp p), (1, .tmp q)]) (hty : o.type = 143) (hp : T a p = setV s) (hq : T a q = setV t) (hr : ∀ g w', SL w' g [s, t] → r (.slice (some ⟨g, 0, none⟩) 2 2) w') : o.wp Tryz.prog a w (Leaves r o a w) Q := by
  obtain ⟨dst, op, type, pos, after, guard⟩ := o
  simp only at ho hty
  subst ho hty
  refine ob_value (w' := w.alloc _) ?_ ((Below.refl _ _).alloc (Nat.le_refl _) _) (hr _ _ (sl2_new w s t _ rfl))
  unfold setV at hp hq
  simp [execOp, Act.eval, hp, hq, go_sem]
def Enters (f : Nat) : Prop := ∀ (args : Array Value) (w : World), (callFunc f args).run Tryz.prog w = .ok (.enter f args) w
set_option maxRecDepth 20000 in
theorem ob_call1 {p f : Nat} {ts : Array TypeId} (ho : o.op = .call { callee := .value (.func f), args := #[.tmp p], argTypes := ts }) (hf : Enters f) {v : Value} (hx : T a p = v) (hc : Calls Tryz.prog f #[v] w fun e w' => ∃ v, e = .returned v ∧ Below w.heap.size w w' ∧ r v w') : o.wp Tryz.prog a w (Leaves r o a w) Q := by
  obtain ⟨dst, op, type, pos, after, guard⟩ := o
  simp only at ho
  subst ho
  refine ob_enter (args := #[v]) ?_ hc
  simp [Act.eval, hx, go_sem]
  exact hf _ _
set_option maxRecDepth 20000 in
theorem ob_call2 {p q f : Nat} {ts : Array TypeId} (ho : o.op = .call { callee := .value (.func f), args := #[.tmp p, .tmp q], argTypes := ts }) (hf : Enters f) {v u : Value} (hx : T a p = v) (hy : T a q = u) (hc : Calls Tryz.prog f #[v, u] w fun e w' => ∃ v, e = .returned v ∧ Below w.heap.size w w' ∧ r v w') : o.wp Tryz.prog a w (Leaves r o a w) Q := by
  obtain ⟨dst, op, type, pos, after, guard⟩ := o
  simp only at ho
  subst ho
  refine ob_enter (args := #[v, u]) ?_ hc
  simp [Act.eval, hx, hy, go_sem]
  exact hf _ _
theorem ob_move {p : Nat} {v : Value} (ho : o.op = .move (.tmp p)) (hx : T a p = v) (hr : r v w) : o.wp Tryz.prog a w (Leaves r o a w) Q := by
  obtain ⟨dst, op, type, pos, after, guard⟩ := o
  simp only at ho
  subst ho
  refine ob_value (v := v) (w' := w) ?_ (Below.refl _ _) hr
  simp [execOp, Act.eval, hx, go_sem]
theorem enters70 : Enters 95 := fun args w => by simp [go_sem]
theorem enters72 : Enters 97 := fun args w => by simp [go_sem]
end
end Go.Proofs.YtmjnobdlgbojoaaGreatDoor


namespace Go.Proofs.YtmjnobdlgbojoaaGreatDoor
open Go Go.RowKit
section
variable {P : Program} {ops : Array Oper} {Q : Exit → Act → World → Prop}
def more (L : Nat → Bool) (i : Nat) : Nat → Bool := fun j => if j = i then true else L j
theorem wpAny_inv (Inv : (Nat → Bool) → Act → World → Prop)
    (hwf : ∀ i o e, ops[i]? = some o → e ∈ o.after → Region.binds .any e = true → e.on < i)
    (hstep : ∀ i o, ops[i]? = some o → o.guard = none ∧ ∀ L a w, Inv L a w → L i = false → (∀ e ∈ o.after, Region.binds .any e = true → L e.on = true) → o.wp P a w (fun a' w' => Inv (more L i) a' w') Q)
    (hend : ∀ L a w, (∀ i, i < ops.size → L i = true) → Inv L a w → Q .normal a w) :
    ∀ (fuel : Nat) (listed : Array Bool) (a : Act) (w : World), listed.size = ops.size → left ops listed ≤ fuel → Inv (fun i => listed.getD i true) a w → wpAny P .any ops Q fuel listed a w := by
  intro fuel
  induction fuel with
  | zero =>
    intro listed a w hsz hl hf
    have hall := left_zero (Nat.le_zero.1 hl)
    refine ⟨?_, hend _ a w (fun i hi => hall i hi) hf⟩
    apply List.eq_nil_iff_forall_not_mem.2
    intro i hi
    obtain ⟨h0, o, ho, _⟩ := mem_ready.1 hi
    have hlt := (Array.getElem?_eq_some_iff.1 ho).1
    rw [hall i hlt] at h0
    cases h0
  | succ fuel ih =>
    intro listed a w hsz hl hf
    refine ⟨fun h => hend _ a w (fun i hi => all_of_ready hwf hsz h i hi) hf, fun i hi => ?_⟩
    obtain ⟨h0, o, ho, hafter⟩ := mem_ready.1 hi
    have hlt := (Array.getElem?_eq_some_iff.1 ho).1
    obtain ⟨hg, hs⟩ := hstep i o ho
    have hw := hs _ a w hf h0 (fun e he hb => by
      have h4 := hafter e he hb
      have h5 := hwf i o e ho he hb
      have hs : e.on < listed.size := by omega
      simp [hs] at h4 ⊢
      exact h4)
    unfold wpOp
    simp only [ho, wanted_free hg, if_true]
    refine .inl (Oper.wp_mono (fun a' w' h => ?_) hw)
    refine ih _ a' w' (by simpa using hsz) (by have := left_set hlt h0 hsz; omega) ?_
    have e : (fun j => (listed.setIfInBounds i true).getD j true) = more (fun j => listed.getD j true) i := by
      funext j
      unfold more
      by_cases e : j = i
      · subst e
        have hjs : j < listed.size := by omega
        simp [hjs]
      · rw [getD_set_ne true (Ne.symm e)]
        simp [e]
    rw [e]
    exact h
theorem wp_region_inv {id : Nat} {a : Act} {w : World} (hm : P.follows .mixedOrders = true) (Inv : (Nat → Bool) → Act → World → Prop)
    (hwf : ∀ i o e, ops[i]? = some o → e ∈ o.after → Region.binds .any e = true → e.on < i)
    (hstep : ∀ i o, ops[i]? = some o → o.guard = none ∧ ∀ L a w, Inv L a w → L i = false → (∀ e ∈ o.after, Region.binds .any e = true → L e.on = true) → o.wp P a w (fun a' w' => Inv (more L i) a' w') Q)
    (hend : ∀ L a w, (∀ i, i < ops.size → L i = true) → Inv L a w → Q .normal a w)
    (h0 : ∀ L, (∀ i, i < ops.size → L i = false) → Inv L a w.drew) : (Code.region id ops true).wp P Q a w := by
  refine wp_region_any hm (wpAny_inv Inv hwf hstep hend ops.size _ a _ (by simp) ?_ (h0 _ (fun i hi => by simp [hi])))
  unfold left
  have := List.length_filter_le (fun i => !(Array.replicate ops.size false).getD i true) (List.range ops.size)
  simpa using this
end
end Go.Proofs.YtmjnobdlgbojoaaGreatDoor


namespace Go.Proofs.YtmjnobdlgbojoaaGreatDoor
open Go Go.RowKit
section
variable {P : Program} {ops : Array Oper} {Q : Exit → Act → World → Prop}
def covers (ops : Array Oper) (n : Nat) : Bool := (List.range n).all fun i => (List.range (n + 1)).any fun j => decide (i < j) && match ops[j]? with
  | some o => o.after.any fun e => e.on == i && Region.binds .any e
  | none => false
theorem covers_all {n : Nat} (h : covers ops n = true) {L : Nat → Bool} (hc : ∀ i o e, ops[i]? = some o → e ∈ o.after → Region.binds .any e = true → L i = true → L e.on = true) (hn : L n = true) : ∀ i, i ≤ n → L i = true := by
  suffices hs : ∀ k i, i ≤ n → n - i ≤ k → L i = true from fun i hi => hs (n - i) i hi (Nat.le_refl _)
  intro k
  induction k with
  | zero => intro i hi hk; rw [show i = n by omega]; exact hn
  | succ k ih =>
    intro i hi hk
    by_cases e : i = n
    · rw [e]; exact hn
    · have h1 := List.all_eq_true.1 h i (List.mem_range.2 (by omega))
      obtain ⟨j, hj, h2⟩ := List.any_eq_true.1 h1
      have hj := List.mem_range.1 hj
      rw [Bool.and_eq_true] at h2
      have hij := of_decide_eq_true h2.1
      have h3 := h2.2
      cases ho : ops[j]? with
      | none => rw [ho] at h3; cases h3
      | some o =>
        rw [ho] at h3
        have h3 : (o.after.any fun e => e.on == i && Region.binds .any e) = true := h3
        rw [Array.any_eq_true'] at h3
        obtain ⟨x, hx, h4⟩ := h3
        rw [Bool.and_eq_true] at h4
        have := hc j o x ho hx h4.2 (ih j (by omega) (by omega))
        rwa [eq_of_beq h4.1] at this
theorem wp_region_last {id : Nat} {a : Act} {w0 : World} (hm : P.follows .mixedOrders = true) (n : Nat) (hn : ops.size = n + 1) (D : Nat → Nat) (R : Nat → Value → World → Prop) (F0 : Act → Prop)
    (hup : ∀ i v w w', R i v w → Below w.heap.size w w' → R i v w')
    (hF0 : ∀ a i v, i < n → F0 a → F0 (a.put (some (D i)) v)) (hsz : ∀ a i, i < n → F0 a → D i < a.tmps.size)
    (hinj : ∀ i j, i < n → j < n → D i = D j → i = j)
    (hcov : covers ops n = true)
    (hduty : AllFrom (fun i o => (i < n → o.guard = none ∧ Duty P ops w0 D R F0 i o) ∧ (n ≤ i → o.guard = none ∧ (∀ e ∈ o.after, e.on < n) ∧ ∀ a w, F0 a → Below w0.heap.size w0 w → (∀ i, i < n → R i (T a (D i)) w) → o.wp P a w (Q .normal) Q)) 0 ops.toList)
    (h0 : F0 a) : (Code.region id ops true).wp P Q a w0 := by
  have hd : ∀ i o, ops[i]? = some o → i < n → o.guard = none ∧ Duty P ops w0 D R F0 i o := fun i o ho hi => by
    have := allFrom_at hduty i o (by simpa using ho)
    rw [Nat.zero_add] at this
    exact this.1 hi
  have hlast : ∀ o, ops[n]? = some o → o.guard = none ∧ (∀ e ∈ o.after, e.on < n) ∧ ∀ a w, F0 a → Below w0.heap.size w0 w → (∀ i, i < n → R i (T a (D i)) w) → o.wp P a w (Q .normal) Q := fun o ho => by
    have := allFrom_at hduty n o (by simpa using ho)
    rw [Nat.zero_add] at this
    exact this.2 (Nat.le_refl _)
  refine wp_region_inv hm (fun L a w => (∀ i o e, ops[i]? = some o → e ∈ o.after → Region.binds .any e = true → L i = true → L e.on = true) ∧ (L n = true → Q .normal a w) ∧ (L n = false → F0 a ∧ Below w0.heap.size w0 w ∧ ∀ i, i < n → L i = true → R i (T a (D i)) w)) ?wf ?step ?fin ?zero
  case wf =>
    intro i o e ho he _
    have hi := (Array.getElem?_eq_some_iff.1 ho).1
    by_cases hl : i < n
    · exact (hd i o ho hl).2.2.1 e he
    · have : i = n := by omega
      subst this
      exact (hlast o ho).2.1 e he
  case zero =>
    intro L hL
    refine ⟨fun i o e ho _ _ h => ?_, fun h => ?_, fun _ => ⟨h0, (Below.refl _ _).drew, fun i hi h => ?_⟩⟩
    · rw [hL i (Array.getElem?_eq_some_iff.1 ho).1] at h; cases h
    · rw [hL n (by omega)] at h; cases h
    · rw [hL i (by omega)] at h; cases h
  case fin =>
    intro L a w hL hI
    exact hI.2.1 (hL n (by omega))
  case step =>
    intro i o ho
    have hi := (Array.getElem?_eq_some_iff.1 ho).1
    have hclose : ∀ L : Nat → Bool, (∀ i o e, ops[i]? = some o → e ∈ o.after → Region.binds .any e = true → L i = true → L e.on = true) → (∀ e ∈ o.after, Region.binds .any e = true → L e.on = true) → ∀ j p e, ops[j]? = some p → e ∈ p.after → Region.binds .any e = true → more L i j = true → more L i e.on = true := fun L h1 h2 j p e hp he hb hj => by
      unfold more at hj ⊢
      by_cases hji : j = i
      · subst hji
        rw [ho] at hp
        cases hp
        simp [h2 e he hb]
      · rw [if_neg hji] at hj
        simp [h1 j p e hp he hb hj]
    by_cases hl : i < n
    · obtain ⟨hg, hdst, hlt, hst⟩ := hd i o ho hl
      refine ⟨hg, fun L a w hI hLi hE => ?_⟩
      have hLn : L n = false := by
        cases h : L n with
        | false => rfl
        | true => rw [covers_all hcov hI.1 h i (by omega)] at hLi; cases hLi
      obtain ⟨hF, hB, hR⟩ := hI.2.2 hLn
      have hw := (hst a w hF hB (fun e he hb => hR e.on (Nat.lt_trans (hlt e he) hl) (hE e he hb))).1 (wanted_free hg) Q
      refine Oper.wp_mono ?_ hw
      rintro a' w' ⟨v, rfl, hb, hr⟩
      have hne : n ≠ i := by omega
      have hmn : more L i n = L n := by unfold more; rw [if_neg hne]
      refine ⟨hclose L hI.1 hE, fun h => absurd (hmn.symm.trans h) (by rw [hLn]; simp), fun _ => ?_⟩
      rw [hdst]
      refine ⟨hF0 a i v hl hF, below_step hB hb, fun j hj hmj => ?_⟩
      by_cases hji : j = i
      · subst hji
        unfold T
        rw [put_same (hsz a j hl hF)]
        exact hr
      · unfold T
        rw [put_other (fun e => hji (hinj i j hl hj e).symm)]
        have : L j = true := by unfold more at hmj; rwa [if_neg hji] at hmj
        exact hup j _ _ _ (hR j hj this) hb
    · have : i = n := by omega
      subst this
      obtain ⟨hg, hlt, hst⟩ := hlast o ho
      refine ⟨hg, fun L a w hI hLi hE => ?_⟩
      obtain ⟨hF, hB, hR⟩ := hI.2.2 hLi
      have hall := covers_all hcov (L := more L i) (hclose L hI.1 hE) (by simp [more])
      have hall' : ∀ j, j < i → L j = true := fun j hj => by
        have := hall j (by omega)
        unfold more at this
        rwa [if_neg (by omega)] at this
      refine Oper.wp_mono ?_ (hst a w hF hB (fun j hj => hR j hj (hall' j hj)))
      intro a' w' hq
      exact ⟨hclose L hI.1 hE, fun _ => hq, fun h => by simp [more] at h⟩
variable {w0 : World} {D : Nat → Nat} {R : Nat → Value → World → Prop} {F0 : Act → Prop} {i : Nat} {o : Oper} {a : Act} {w : World} {r : Value → World → Prop}
attribute [local go_sem] Oper.semAt_some
theorem ob_nil {p : Nat} {ad : Addr} (ho : o.op = .nilCheck (.tmp p)) (hx : T a p = .pointer (some ad)) (hr : r (.pointer (some ad)) w) : o.wp Tryz.prog a w (Leaves r o a w) Q := by
  obtain ⟨dst, op, type, pos, after, guard⟩ := o
  simp only at ho
  subst ho
  refine ob_value (v := .pointer (some ad)) (w' := w) ?_ (Below.refl _ _) hr
  simp [execOp, Act.eval, hx, go_sem]
set_option maxRecDepth 10000 in
theorem ob_text {p B : Nat} (ho : o.op = .fieldAddr 91 (.tmp p) 0) (hx : T a p = .pointer (some ⟨B, 0, none⟩)) (hr : r (.pointer (some ⟨B, 0, none⟩)) w) : o.wp Tryz.prog a w (Leaves r o a w) Q := by
  obtain ⟨dst, op, type, pos, after, guard⟩ := o
  simp only at ho
  subst ho
  refine ob_value (v := .pointer (some ⟨B, 0, none⟩)) (w' := w) ?_ (Below.refl _ _) hr
  simp [execOp, Act.eval, hx, go_sem]
set_option maxRecDepth 10000 in
theorem ob_at {p B : Nat} (ho : o.op = .fieldAddr 91 (.tmp p) 1) (hx : T a p = .pointer (some ⟨B, 0, none⟩)) (hr : r (.pointer (some ⟨B, 1, none⟩)) w) : o.wp Tryz.prog a w (Leaves r o a w) Q := by
  obtain ⟨dst, op, type, pos, after, guard⟩ := o
  simp only at ho
  subst ho
  refine ob_value (v := .pointer (some ⟨B, 1, none⟩)) (w' := w) ?_ (Below.refl _ _) hr
  simp [execOp, Act.eval, hx, go_sem]
theorem ob_load9 {p : Nat} {ad : Addr} {v : ByteArray} (ho : o.op = .load 9 (.tmp p)) (hx : T a p = .pointer (some ad)) (hc : w.cell? ad = some (.string v)) (hr : r (.string v) w) : o.wp Tryz.prog a w (Leaves r o a w) Q := by
  obtain ⟨dst, op, type, pos, after, guard⟩ := o
  simp only at ho
  subst ho
  refine ob_value (v := .string v) (w' := w) ?_ (Below.refl _ _) hr
  simp [execOp, Act.eval, hx, go_sem, hc]
theorem ob_load3 {p : Nat} {ad : Addr} {v : Int} (ho : o.op = .load 3 (.tmp p)) (hx : T a p = .pointer (some ad)) (hc : w.cell? ad = some (.int .i64 v)) (hr : r (.int .i64 v) w) : o.wp Tryz.prog a w (Leaves r o a w) Q := by
  obtain ⟨dst, op, type, pos, after, guard⟩ := o
  simp only at ho
  subst ho
  refine ob_value (v := .int .i64 v) (w' := w) ?_ (Below.refl _ _) hr
  simp [execOp, Act.eval, hx, go_sem, hc]
theorem ob_index9 {p q : Nat} {s : ByteArray} {k : Nat} (ho : o.op = .index 9 (.tmp p) (.tmp q)) (hx : T a p = .string s) (hy : T a q = .int .i64 (k : Nat)) (hk : k < s.size) (hr : r (.int .u8 (s[k].toNat : Nat)) w) : o.wp Tryz.prog a w (Leaves r o a w) Q := by
  obtain ⟨dst, op, type, pos, after, guard⟩ := o
  simp only at ho
  subst ho
  have hk' : (k : Int) < (s.size : Int) := by omega
  refine ob_value (v := .int .u8 (s[k].toNat : Nat)) (w' := w) ?_ (Below.refl _ _) hr
  simp [execOp, Act.eval, hx, hy, go_sem, hk']
set_option maxRecDepth 10000 in
theorem ob_slice1b {p b : Nat} (ho : o.op = .buildSlice 69 1 #[(0, .tmp p)]) (hty : o.type = 69) (hp : T a p = .int .u8 (b : Nat)) (hr : ∀ g w', BytesAt w' (some ⟨g, 0, none⟩) [b] → r (.slice (some ⟨g, 0, none⟩) 1 1) w') : o.wp Tryz.prog a w (Leaves r o a w) Q := by
  obtain ⟨dst, op, type, pos, after, guard⟩ := o
  simp only at ho hty
  subst ho hty
  refine ob_value (w' := w.alloc (.cells ([b].map (fun b : Nat => Value.int .u8 (b : Nat))).toArray 5)) ?_ ((Below.refl _ _).alloc (Nat.le_refl _) _) (hr _ _ (bytesAt_new w [b] 5 (0, 0)))
  simp [execOp, Act.eval, hp, go_sem]
theorem enters66 : Enters 92 := fun args w => by simp [go_sem]
end
end Go.Proofs.YtmjnobdlgbojoaaGreatDoor


namespace Go.Proofs.YtmjnobdlgbojoaaGreatDoor
open Go.RowKit
attribute [local go_sem ↓] Go.wp_at_zero Go.wp_at_succ
theorem sl4_new (w : World) (s t r q : Oct.S) (g : Nat) (hg : g = w.heap.size) : SL (w.alloc (.cells #[.int .u64 (Oct.word s 0 : Nat), .int .u64 (Oct.word s 1 : Nat), .int .u64 (Oct.word s 2 : Nat), .int .u64 (Oct.word s 3 : Nat), .int .u64 (Oct.word t 0 : Nat), .int .u64 (Oct.word t 1 : Nat), .int .u64 (Oct.word t 2 : Nat), .int .u64 (Oct.word t 3 : Nat), .int .u64 (Oct.word r 0 : Nat), .int .u64 (Oct.word r 1 : Nat), .int .u64 (Oct.word r 2 : Nat), .int .u64 (Oct.word r 3 : Nat), .int .u64 (Oct.word q 0 : Nat), .int .u64 (Oct.word q 1 : Nat), .int .u64 (Oct.word q 2 : Nat), .int .u64 (Oct.word q 3 : Nat)] 28)) g [s, t, r, q] := by
  subst hg
  exact ⟨heap_alloc_new w _⟩
theorem span_gen (f t : Nat) (w : World) (hf : f < 256) (ht : t < 256) : Calls Tryz.prog 107 #[.int .u8 f, .int .u8 t] w fun e w' => e = .returned (.agg #[.int .u64 (Oct.word (Oct.span f t) 0 : Nat), .int .u64 (Oct.word (Oct.span f t) 1 : Nat), .int .u64 (Oct.word (Oct.span f t) 2 : Nat), .int .u64 (Oct.word (Oct.span f t) 3 : Nat)]) ∧ Below w.heap.size w w' := span_any f t w hf ht
theorem join4_gen {w : World} {g : Nat} {s t r q x : Oct.S} (h : SL w g [s, t, r, q]) (hx : ∀ b, b < 256 → Oct.joins [s, t, r, q] b = x b) : Calls Tryz.prog 95 #[.slice (some ⟨g, 0, none⟩) 4 4] w fun e w' => e = .returned (.agg #[.int .u64 (Oct.word x 0 : Nat), .int .u64 (Oct.word x 1 : Nat), .int .u64 (Oct.word x 2 : Nat), .int .u64 (Oct.word x 3 : Nat)]) ∧ Below w.heap.size w w' := by
  refine (join_any _ 4 4 [s, t, r, q] w rfl (by simp [maxLen]) h.at).mono ?_
  rintro e w' ⟨rfl, hb⟩
  exact ⟨by rw [setV_congr hx]; rfl, hb⟩
def upper : Oct.S := Oct.span 65 90
def lower : Oct.S := Oct.span 97 122
def digit : Oct.S := Oct.span 48 57
def graph : Oct.S := Oct.span 33 126
def print : Oct.S := Oct.span 32 126
def alpha : Oct.S := fun c => upper c || lower c
def alnum : Oct.S := fun c => upper c || lower c || digit c
def xdigit : Oct.S := fun c => digit c || Oct.span 65 70 c || Oct.span 97 102 c
def blank : Oct.S := fun c => c == 9 || c == 32
def space : Oct.S := fun c => Oct.span 9 13 c || c == 32
def cntrl : Oct.S := fun c => decide (c < 32) || c == 127
def punct : Oct.S := fun c => graph c && !(upper c) && !(lower c) && !(digit c)
set_option maxHeartbeats 1000000 in
theorem marks_any (w : World) : Calls Tryz.prog 109 #[] w fun e w' => e = .returned (.agg #[.int .u64 (Oct.word punct 0 : Nat), .int .u64 (Oct.word punct 1 : Nat), .int .u64 (Oct.word punct 2 : Nat), .int .u64 (Oct.word punct 3 : Nat)]) ∧ Below w.heap.size w w' := by
  have H0 : Hid (SB (w.alloc (.cells #[.int .u64 0, .int .u64 0, .int .u64 0, .int .u64 0] 28)) w.heap.size Oct.none) := sb_zero w
  have HB : Hid (Below w.heap.size w (w.alloc (.cells #[.int .u64 0, .int .u64 0, .int .u64 0, .int .u64 0] 28))) := (Below.refl _ _).alloc (Nat.le_refl _) _
  go_enter Tryz.func109, Tryz.ntmps109
  go_wp2_with fail
  refine (span_gen 33 47 _ (by decide) (by decide)).mono ?_
  rintro e w1 ⟨rfl, k1⟩
  have H1 : Hid (SB w1 w.heap.size Oct.none) := H0.out.later k1
  have B1 : Hid (Below w.heap.size w w1) := below_trans HB.out k1 HB.out.size
  clear k1 H0 HB
  go_wp2_with fail
  refine (span_gen 58 64 _ (by decide) (by decide)).mono ?_
  rintro e w2 ⟨rfl, k2⟩
  have H2 : Hid (SB w2 w.heap.size Oct.none) := H1.out.later k2
  have B2 : Hid (Below w.heap.size w w2) := below_trans B1.out k2 B1.out.size
  clear k2 H1 B1
  go_wp2_with fail
  refine (span_gen 91 96 _ (by decide) (by decide)).mono ?_
  rintro e w3 ⟨rfl, k3⟩
  have H3 : Hid (SB w3 w.heap.size Oct.none) := H2.out.later k3
  have B3 : Hid (Below w.heap.size w w3) := below_trans B2.out k3 B2.out.size
  clear k3 H2 B2
  go_wp2_with fail
  refine (span_gen 123 126 _ (by decide) (by decide)).mono ?_
  rintro e w4 ⟨rfl, k4⟩
  have H4 : Hid (SB w4 w.heap.size Oct.none) := H3.out.later k4
  have B4 : Hid (Below w.heap.size w w4) := below_trans B3.out k4 B3.out.size
  clear k4 H3 B3
  go_wp2_with fail
  refine (join4_gen (x := punct) (sl4_new w4 _ _ _ _ _ rfl) ?hx).mono ?_
  case hx =>
    intro b _
    rw [Bool.eq_iff_iff]
    simp [Oct.joins, Oct.span, punct, graph, upper, lower, digit]
    omega
  rintro e w5 ⟨rfl, k5⟩
  have H5 : Hid (SB w5 w.heap.size Oct.none) := (H4.out.later ((Below.refl _ _).alloc (Nat.le_refl _) _)).later k5
  have B5 : Hid (Below w.heap.size w w5) := below_trans (B4.out.alloc B4.out.size _) k5 (by have := B4.out.size; simp; omega)
  clear k5 H4 B4
  obtain ⟨c0, c1, c2, c3⟩ := H5.out.cells
  have f0 := H5.out.frozen 0
  have f1 := H5.out.frozen 1
  have f2 := H5.out.frozen 2
  have f3 := H5.out.frozen 3
  go_wp2
  exact post_set Tryz.f109 0 rfl rfl rfl (H5.out.put4 punct) ⟨rfl, below_put4 B5.out (Nat.le_refl _) punct⟩
theorem post_set2 (f : Func) (hf : f.results = #[.cell 2 28, .tmp 3]) {Q : Ending → World → Prop} {a : Act} {w : World} {R : Nat} {s : Oct.S} {x : Value} (hd : a.defers = []) (ha : a.tmps[2]?.getD undef = .pointer (some ⟨R, 0, none⟩)) (hx : a.tmps[3]?.getD undef = x) (hR : SB w R s) (hQ : Q (.returned (.tuple #[setV s, x])) w) : bodyPost Tryz.prog f Q .ret a w := by
  obtain ⟨c0, c1, c2, c3⟩ := hR.cells
  exact bodyPost_ret (by simp only [results, hf]; simp [ha, hx, go_sem, c0, c1, c2, c3, setV]) hd hQ
theorem St.ret2 {w u : World} {R V : Nat} {s : Oct.S} (h : St w u R V s) (f : Func) (hf : f.results = #[.cell 2 28, .tmp 3]) {a : Act} {x : Value} (hd : a.defers = []) (ha : a.tmps[2]?.getD undef = .pointer (some ⟨R, 0, none⟩)) (hx : a.tmps[3]?.getD undef = x) (hR : w.heap.size ≤ R) (q t : Oct.S) (e : ∀ b, b < 256 → q b = t b) :
    bodyPost Tryz.prog f (fun e w' => e = .returned (.tuple #[setV t, x]) ∧ Below w.heap.size w w') .ret a (put4 u R q) :=
  post_set2 f hf hd ha hx (h.1.put4 q) ⟨by rw [setV_congr e], below_put4 h.2.2 hR q⟩
theorem wp_cut4 {c : Code} {Q : Exit → Act → World → Prop} {a : Act} {w : World} (d0 d1 d2 d3 : Nat) (J : World → Prop)
    (h1 : c.wp Tryz.prog (fun x a' w' => x = .normal ∧ (∃ v0 v1 v2 v3, a' = (((a.put (some d0) v0).put (some d1) v1).put (some d2) v2).put (some d3) v3) ∧ J w') a w)
    (h2 : ∀ v0 v1 v2 v3 w', J w' → ∀ a', a' = (((a.put (some d0) v0).put (some d1) v1).put (some d2) v2).put (some d3) v3 → Q .normal a' w') : c.wp Tryz.prog Q a w :=
  Code.wp_mono (fun e a' w' h => by obtain ⟨rfl, ⟨v0, v1, v2, v3, rfl⟩, hJ⟩ := h; exact h2 v0 v1 v2 v3 w' hJ _ rfl) h1
theorem wp_cut5 {c : Code} {Q : Exit → Act → World → Prop} {a : Act} {w : World} (d0 d1 d2 d3 d4 : Nat) (J : World → Prop)
    (h1 : c.wp Tryz.prog (fun x a' w' => x = .normal ∧ (∃ v0 v1 v2 v3 v4, a' = ((((a.put (some d0) v0).put (some d1) v1).put (some d2) v2).put (some d3) v3).put (some d4) v4) ∧ J w') a w)
    (h2 : ∀ v0 v1 v2 v3 v4 w', J w' → ∀ a', a' = ((((a.put (some d0) v0).put (some d1) v1).put (some d2) v2).put (some d3) v3).put (some d4) v4 → Q .normal a' w') : c.wp Tryz.prog Q a w :=
  Code.wp_mono (fun e a' w' h => by obtain ⟨rfl, ⟨v0, v1, v2, v3, v4, rfl⟩, hJ⟩ := h; exact h2 v0 v1 v2 v3 v4 w' hJ _ rfl) h1
theorem of_gen {w : World} {a : Option Addr} (bs : List Nat) (n : Nat) (hn : n = bs.length) (hl : n ≤ 100) (h : BytesAt w a bs) (hb : ∀ b ∈ bs, b < 256) : Calls Tryz.prog 92 #[.slice a n n] w fun e w' => e = .returned (.agg #[.int .u64 (Oct.word (Oct.has bs) 0 : Nat), .int .u64 (Oct.word (Oct.has bs) 1 : Nat), .int .u64 (Oct.word (Oct.has bs) 2 : Nat), .int .u64 (Oct.word (Oct.has bs) 3 : Nat)]) ∧ Below w.heap.size w w' :=
  of_any a n n bs w hn (by simp [maxLen]; omega) h hb
end Go.Proofs.YtmjnobdlgbojoaaGreatDoor


namespace Go.Proofs
open Go.Shelf
def Tryz.lays137_ren : Go.Shelf.Ren := ⟨fun | 137 => 17 | 217 => 38 | 266 => 61 | n => n, fun | 9 => 9 | 5 => 5 | 3 => 3 | n => n, fun | n => n⟩
theorem Tryz.lays137 : Go.Proofs.Lays.n137 Tryz.prog Tryz.lays137_ren := {
  mixed := by kernel_rfl
  f137 := Tryz.func17.trans (congrArg some (by kernel_rfl))
  f217 := Tryz.func38.trans (congrArg some (by kernel_rfl))
  f266 := Tryz.func61.trans (congrArg some (by kernel_rfl))
  t3 := Tryz.underlying3
  a3 := Tryz.isAgg3
  z3 := Tryz.sizeOf3
  v3 := Tryz.zeroValue3
  t5 := Tryz.underlying5
  a5 := Tryz.isAgg5
  z5 := Tryz.sizeOf5
  v5 := Tryz.zeroValue5
  t9 := Tryz.underlying9
  a9 := Tryz.isAgg9
  z9 := Tryz.sizeOf9
  v9 := Tryz.zeroValue9 }
open Go.RowKit in
theorem Tryz.strings_IndexByte (s : ByteArray) (c : Int) (w : World) :
    Calls Tryz.prog 17 #[.string s, .int .u8 c] w fun e w' => e = .returned (.int .i64 (Lib.indexByte s.data.toList c.toNat.toUInt8)) ∧ w' = w := Any.strings_IndexByte Tryz.lays137 s c w
open Go.RowKit Go.Lib in
open Go.RowKit Go.Lib in
open Go.RowKit Go.Lib in
open Go.RowKit Go.Lib in
def Tryz.lays219_ren : Go.Shelf.Ren := ⟨fun | 219 => 110 | 217 => 38 | 225 => 111 | 224 => 112 | 267 => 113 | 266 => 61 | 314 => 114 | n => n, fun | 9 => 9 | 3 => 3 | 4 => 4 | 5 => 5 | 46 => 124 | 146 => 150 | 51 => 44 | n => n, fun | 1 => 1 | n => n⟩
open Go.RowKit Go.Lib in
open Go.RowKit Go.Lib in
open Go.RowKit Go.Lib in
def Tryz.lays145_ren : Go.Shelf.Ren := ⟨fun | 145 => 105 | 220 => 108 | 219 => 110 | 217 => 38 | 225 => 111 | 224 => 112 | 267 => 113 | 266 => 61 | 314 => 114 | n => n, fun | 9 => 9 | 4 => 4 | 59 => 144 | 3 => 3 | 5 => 5 | 46 => 124 | 146 => 150 | 51 => 44 | n => n, fun | 1 => 1 | n => n⟩
theorem Tryz.lays145 : Go.Proofs.Lays.n145 Tryz.prog Tryz.lays145_ren := {
  mixed := by kernel_rfl
  f145 := Tryz.func105.trans (congrArg some (by kernel_rfl))
  f217 := Tryz.func38.trans (congrArg some (by kernel_rfl))
  f219 := Tryz.func110.trans (congrArg some (by kernel_rfl))
  f220 := Tryz.func108.trans (congrArg some (by kernel_rfl))
  f224 := Tryz.func112.trans (congrArg some (by kernel_rfl))
  f225 := Tryz.func111.trans (congrArg some (by kernel_rfl))
  f266 := Tryz.func61.trans (congrArg some (by kernel_rfl))
  f267 := Tryz.func113.trans (congrArg some (by kernel_rfl))
  f314 := Tryz.func114.trans (congrArg some (by kernel_rfl))
  t3 := Tryz.underlying3
  a3 := Tryz.isAgg3
  z3 := Tryz.sizeOf3
  v3 := Tryz.zeroValue3
  t4 := Tryz.underlying4
  a4 := Tryz.isAgg4
  z4 := Tryz.sizeOf4
  v4 := Tryz.zeroValue4
  t5 := Tryz.underlying5
  a5 := Tryz.isAgg5
  z5 := Tryz.sizeOf5
  v5 := Tryz.zeroValue5
  t9 := Tryz.underlying9
  a9 := Tryz.isAgg9
  z9 := Tryz.sizeOf9
  v9 := Tryz.zeroValue9
  t46 := Tryz.underlying124
  a46 := Tryz.isAgg124
  z46 := Tryz.sizeOf124
  v46 := Tryz.zeroValue124
  t51 := Tryz.underlying44
  a51 := Tryz.isAgg44
  z51 := Tryz.sizeOf44
  v51 := Tryz.zeroValue44
  t59 := Tryz.underlying144
  a59 := Tryz.isAgg144
  z59 := Tryz.sizeOf144
  v59 := Tryz.zeroValue144
  t146 := Tryz.underlying150
  a146 := Tryz.isAgg150
  z146 := Tryz.sizeOf150
  v146 := Tryz.zeroValue150
  g1 := by kernel_rfl }
open Go.RowKit Go.Lib in
theorem Tryz.strings_Cut (s sep : ByteArray) (m : Int) (w : World) (hs : s.size < 4294967281) (hm : w.cell? ⟨1, 0, none⟩ = some (.int .i64 m)) :
    Calls Tryz.prog 105 #[.string s, .string sep] w fun e w' => e = .returned (.tuple #[.string ⟨(Lib.cut s.data.toList sep.data.toList).1.toArray⟩, .string ⟨(Lib.cut s.data.toList sep.data.toList).2.1.toArray⟩, .bool (Lib.cut s.data.toList sep.data.toList).2.2]) ∧ ∃ n, w' = w.drewN n := Any.strings_Cut Tryz.lays145 s sep m w hs hm
open Go.RowKit Go.Lib in
open Go.RowKit Go.Lib in
open Go.RowKit Go.Lib in
def Tryz.lays206_ren : Go.Shelf.Ren := ⟨fun | 206 => 104 | n => n, fun | 9 => 9 | 4 => 4 | 3 => 3 | n => n, fun | n => n⟩
open Go.RowKit Go.Lib in
def Tryz.lays99_ren : Go.Shelf.Ren := ⟨fun | 99 => 99 | 206 => 104 | n => n, fun | 9 => 9 | 4 => 4 | 3 => 3 | n => n, fun | n => n⟩
theorem Tryz.lays99 : Go.Proofs.Lays.n99 Tryz.prog Tryz.lays99_ren := {
  mixed := by kernel_rfl
  f99 := Tryz.func99.trans (congrArg some (by kernel_rfl))
  f206 := Tryz.func104.trans (congrArg some (by kernel_rfl))
  t3 := Tryz.underlying3
  a3 := Tryz.isAgg3
  z3 := Tryz.sizeOf3
  v3 := Tryz.zeroValue3
  t4 := Tryz.underlying4
  a4 := Tryz.isAgg4
  z4 := Tryz.sizeOf4
  v4 := Tryz.zeroValue4
  t9 := Tryz.underlying9
  a9 := Tryz.isAgg9
  z9 := Tryz.sizeOf9
  v9 := Tryz.zeroValue9 }
open Go.RowKit Go.Lib in
theorem Tryz.strings_HasPrefix (s p : ByteArray) (w : World) :
    Calls Tryz.prog 99 #[.string s, .string p] w fun e w' => e = .returned (.bool (Lib.hasPrefix s.data.toList p.data.toList)) ∧ w' = w := Any.strings_HasPrefix Tryz.lays99 s p w
end Go.Proofs
