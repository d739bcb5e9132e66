/- Laid by ext.py: what this seat takes of stages 4 and 7. -/
import Derived.Test.YtmjnobdlgbojoaaDoorG00
import Derived.Test.YtmjnobdlgbojoaaDoorRows
import Derived.WalkKit
import Derived.WalkLawsBesides
import Derived.WalkSpells
import Derived.OwnWalk
import Derived.Laws.BitsAllLaws
import Derived.Deep.QuietTactic
import Derived.BigQuiet
import Derived.Laws.StructEq
import Derived.Orders
import Derived.Deep.AppendLies
import Derived.WideShapes
import Derived.Deep.DeepAppendRoom
import Derived.Deep.DrawnRows
import Derived.Deep.DeepCutAuto
namespace Go.Proofs.YtmjnobdlgbojoaaDoor
open Go.RowKit
attribute [local go_sem ↓] Go.wp_at_zero Go.wp_at_succ
theorem ret_int {k : IntKind} {a b : Int} (h : a = b) : Ending.returned (.int k a) = .returned (.int k b) := by rw [h]
theorem ret_bool {a b : Bool} (h : a = b) : Ending.returned (.bool a) = .returned (.bool b) := by rw [h]
theorem below_trans {w w1 w2 : World} {B : Nat} (h1 : Below B w w1) (h2 : Below w1.heap.size w1 w2) (hB : B ≤ w1.heap.size) : Below B w w2 := h1.trans (h2.mono hB)
/-- a set as a value -/
def setV (s : Oct.S) : Value := .agg #[.int .u64 (Oct.word s 0 : Nat), .int .u64 (Oct.word s 1 : Nat), .int .u64 (Oct.word s 2 : Nat), .int .u64 (Oct.word s 3 : Nat)]
theorem setV_congr {s t : Oct.S} (h : ∀ b, b < 256 → s b = t b) : setV s = setV t := by
  unfold setV
  rw [Oct.word_congr (s := s) (t := t) (i := 0) (fun k hk => h _ (by omega)), Oct.word_congr (s := s) (t := t) (i := 1) (fun k hk => h _ (by omega)), Oct.word_congr (s := s) (t := t) (i := 2) (fun k hk => h _ (by omega)), Oct.word_congr (s := s) (t := t) (i := 3) (fun k hk => h _ (by omega))]
theorem has_bit (s : Oct.S) (b i : Nat) (h : b / 64 = i) : (bits .and .u64 ((Oct.word s i : Nat) / 2 ^ (b % 64)) 1 == 1) = s b := by
  have hw := Oct.word_has s b
  rw [h] at hw
  have e : ((Oct.word s i : Nat) : Int) / 2 ^ (b % 64) = ((Oct.word s i / 2 ^ (b % 64) : Nat) : Int) := by simp
  have hl : Oct.word s i / 2 ^ (b % 64) < 18446744073709551616 := Nat.lt_of_le_of_lt (Nat.div_le_self _ _) (Oct.word_lt s i)
  rw [e, show (1 : Int) = ((1 : Nat) : Int) from rfl, u64_and_nat _ _ hl (by decide), nat_mask1, hw]
  cases s b <;> simp
theorem quo4 {b : Nat} (hb : b < 256) : (b / 64 = 0 ∧ (b : Int) / 64 = 0) ∨ (b / 64 = 1 ∧ (b : Int) / 64 = 1) ∨ (b / 64 = 2 ∧ (b : Int) / 64 = 2) ∨ (b / 64 = 3 ∧ (b : Int) / 64 = 3) := by omega
theorem has_any (s : Oct.S) (b : Nat) (w : World) (hb : b < 256) : Calls Tryd.prog 35 #[setV s, .int .u8 b] w fun e w' => e = .returned (.bool (s b)) ∧ Below w.heap.size w w' := by
  unfold setV
  rcases quo4 hb with ⟨hn, hq⟩ | ⟨hn, hq⟩ | ⟨hn, hq⟩ | ⟨hn, hq⟩
  all_goals
    have HN : Hid (b / 64 = _) := hn
    clear hn
    go_enter Tryd.func35, Tryd.ntmps35
    go_wp2
    go_ret
    exact ⟨ret_bool (has_bit s b _ HN.out), (Below.refl _ _).alloc (Nat.le_refl _) _⟩
/-- a set's block -/
def SB (w : World) (A : Nat) (s : Oct.S) : Prop := w.heap[A]? = some (.cells #[.int .u64 (Oct.word s 0 : Nat), .int .u64 (Oct.word s 1 : Nat), .int .u64 (Oct.word s 2 : Nat), .int .u64 (Oct.word s 3 : Nat)] 32 (0, 0))
theorem SB.later {w w' : World} {A : Nat} {s : Oct.S} (h : SB w A s) (hb : Below w.heap.size w w') : SB w' A s := (hb.block A (Array.getElem?_eq_some_iff.1 h).1).trans h
theorem SB.lt {w : World} {A : Nat} {s : Oct.S} (h : SB w A s) : A < w.heap.size := (Array.getElem?_eq_some_iff.1 h).1
theorem SB.cells {w : World} {A : Nat} {s : Oct.S} (h : SB w A s) : w.cell? ⟨A, 0, none⟩ = some (.int .u64 (Oct.word s 0 : Nat)) ∧ w.cell? ⟨A, 1, none⟩ = some (.int .u64 (Oct.word s 1 : Nat)) ∧ w.cell? ⟨A, 2, none⟩ = some (.int .u64 (Oct.word s 2 : Nat)) ∧ w.cell? ⟨A, 3, none⟩ = some (.int .u64 (Oct.word s 3 : Nat)) := by
  unfold SB at h
  refine ⟨?_, ?_, ?_, ?_⟩ <;> simp [World.cell?, h]
theorem SB.frozen {w : World} {A : Nat} {s : Oct.S} (h : SB w A s) (j : Nat) : w.frozen? ⟨A, j, none⟩ = false := by
  unfold SB at h
  simp [World.frozen?, h]
theorem SB.other {w : World} {s : Oct.S} {A B : Nat} (h : SB w A s) (hne : A ≠ B) (j : Nat) (v : Value) : SB (w.setCell ⟨B, j, none⟩ v) A s := by
  unfold SB at h ⊢
  rw [Below.heap_setCell w ⟨B, j, none⟩ v A hne]
  exact h
theorem sb_new (w : World) (s : Oct.S) : SB (w.alloc (.cells #[.int .u64 (Oct.word s 0 : Nat), .int .u64 (Oct.word s 1 : Nat), .int .u64 (Oct.word s 2 : Nat), .int .u64 (Oct.word s 3 : Nat)] 32)) w.heap.size s := heap_alloc_new w _
theorem sb_zero (w : World) : SB (w.alloc (.cells #[.int .u64 0, .int .u64 0, .int .u64 0, .int .u64 0] 32)) w.heap.size Oct.none := by
  have h := sb_new w Oct.none
  rw [show Oct.none = fun _ => false from rfl, Oct.word_none, Oct.word_none, Oct.word_none, Oct.word_none] at h
  exact h
/-- a set stored over a set's block, as the walk leaves it -/
def put4 (w : World) (A : Nat) (s : Oct.S) : World := (((w.setCell ⟨A, 0, none⟩ (.int .u64 (Oct.word s 0 : Nat))).setCell ⟨A, 1, none⟩ (.int .u64 (Oct.word s 1 : Nat))).setCell ⟨A, 2, none⟩ (.int .u64 (Oct.word s 2 : Nat))).setCell ⟨A, 3, none⟩ (.int .u64 (Oct.word s 3 : Nat))
theorem SB.put4 {w : World} {A : Nat} {s : Oct.S} (h : SB w A s) (t : Oct.S) : SB (put4 w A t) A t := by
  unfold SB at h ⊢
  unfold YtmjnobdlgbojoaaDoor.put4
  simp only [World.setCell, Array.getElem?_modify, h]
  rfl
theorem SB.put4_other {w : World} {A B : Nat} {s : Oct.S} (h : SB w A s) (hne : A ≠ B) (t : Oct.S) : SB (YtmjnobdlgbojoaaDoor.put4 w B t) A s :=
  (((h.other hne _ _).other hne _ _).other hne _ _).other hne _ _
/-- one word of a set's block written -/
theorem SB.set {w : World} {A : Nat} {s t : Oct.S} (h : SB w A s) (j : Nat) (hj : j < 4) (x : Int) (hx : x = (Oct.word t j : Nat)) (ho : ∀ i, i < 4 → i ≠ j → Oct.word s i = Oct.word t i) : SB (w.setCell ⟨A, j, none⟩ (.int .u64 x)) A t := by
  unfold SB at h ⊢
  simp only [World.setCell, Array.getElem?_modify, h]
  have h4 : j = 0 ∨ j = 1 ∨ j = 2 ∨ j = 3 := by omega
  rcases h4 with rfl | rfl | rfl | rfl
  · rw [hx, ho 1 (by decide) (by decide), ho 2 (by decide) (by decide), ho 3 (by decide) (by decide)]; rfl
  · rw [hx, ho 0 (by decide) (by decide), ho 2 (by decide) (by decide), ho 3 (by decide) (by decide)]; rfl
  · rw [hx, ho 0 (by decide) (by decide), ho 1 (by decide) (by decide), ho 3 (by decide) (by decide)]; rfl
  · rw [hx, ho 0 (by decide) (by decide), ho 1 (by decide) (by decide), ho 2 (by decide) (by decide)]; rfl
theorem info30 : (Tryd.prog.info? 30).map (fun i => (i.zero, i.size, i.bytes)) = some (some (.int .u64 0), 1, 8) := by kernel_rfl
theorem has_gen (s : Oct.S) (b : Nat) (w : World) (hb : b < 256) : Calls Tryd.prog 35 #[.agg #[.int .u64 (Oct.word s 0 : Nat), .int .u64 (Oct.word s 1 : Nat), .int .u64 (Oct.word s 2 : Nat), .int .u64 (Oct.word s 3 : Nat)], .int .u8 b] w fun e w' => e = .returned (.bool (s b)) ∧ Below w.heap.size w w' := has_any s b w hb
/-- a set's block in all later worlds -/
theorem SB.held {w : World} {A : Nat} {s : Oct.S} (h : SB w A s) : ∀ u, Below w.heap.size w u → u.cell? ⟨A, 0, none⟩ = some (.int .u64 (Oct.word s 0 : Nat)) ∧ u.cell? ⟨A, 1, none⟩ = some (.int .u64 (Oct.word s 1 : Nat)) ∧ u.cell? ⟨A, 2, none⟩ = some (.int .u64 (Oct.word s 2 : Nat)) ∧ u.cell? ⟨A, 3, none⟩ = some (.int .u64 (Oct.word s 3 : Nat)) :=
  fun _ hu => (h.later hu).cells
/-- a world in which all that w had stands as it stood -/
structure Later (w : World) where
  at_ : World
  below : Below w.heap.size w at_
theorem wp_region_later {P : Program} {id : Nat} {Q : Exit → Act → World → Prop} {a : Act} {w : World} {l : List Oper} (hm : P.follows .mixedOrders = true) (hB : Region.lexB .any l.toArray = true)
    (h : wpQuiet P l.toArray (fun w' => ∃ u : Later w, w' = u.at_) (fun a' => ∀ w', (∃ u : Later w, w' = u.at_) → Q .normal a' w') l a) : (Code.region id l.toArray true).wp P Q a w :=
  wp_region_quiet (C := fun w' => ∃ u : Later w, w' = u.at_) hm hB ⟨⟨w.drew, (Below.refl _ _).drew⟩, rfl⟩ (by simpa using h)
theorem calls_later {P : Program} {f : FuncId} {args : Array Value} {w : World} {u : Later w} {v : Value} (h : Calls P f args u.at_ fun e w' => e = .returned v ∧ Below u.at_.heap.size u.at_ w') :
    Calls P f args u.at_ fun e w'' => e = .returned v ∧ ∃ m : Later w, w'' = m.at_ :=
  h.mono fun _ w' ⟨he, hb⟩ => ⟨he, ⟨w', below_trans u.below hb u.below.size⟩, rfl⟩
theorem calls_later_same {P : Program} {f : FuncId} {args : Array Value} {w : World} {u : Later w} {v : Value} (h : Calls P f args u.at_ fun e w' => e = .returned v ∧ w' = u.at_) :
    Calls P f args u.at_ fun e w'' => e = .returned v ∧ ∃ m : Later w, w'' = m.at_ :=
  h.mono fun _ _ ⟨he, hb⟩ => ⟨he, u, hb⟩
section
variable {P : Program} {ops : Array Oper} {md : Region.Mode} {Q : Exit → Act → World → Prop}
/-- how many have not come up -/
def left (ops : Array Oper) (listed : Array Bool) : Nat := ((List.range ops.size).filter fun i => !listed.getD i true).length
theorem left_zero {listed : Array Bool} (h : left ops listed = 0) : ∀ i, i < ops.size → listed.getD i true = true := by
  intro i hi
  have h1 := List.eq_nil_of_length_eq_zero h
  rw [List.filter_eq_nil_iff] at h1
  have h2 := h1 i (List.mem_range.2 hi)
  cases h3 : listed.getD i true with
  | true => rfl
  | false => exact absurd (by rw [h3]; rfl) h2
theorem left_set {listed : Array Bool} {i : Nat} (hi : i < ops.size) (h0 : listed.getD i true = false) (hsz : listed.size = ops.size) : left ops (listed.setIfInBounds i true) < left ops listed := by
  unfold left
  have hsub : ((List.range ops.size).filter fun k => !(listed.setIfInBounds i true).getD k true) = ((List.range ops.size).filter fun k => !listed.getD k true).filter fun k => !(k == i) := by
    rw [List.filter_filter]
    apply List.filter_congr
    intro k _
    by_cases e : i = k
    · subst e
      simp [hsz, hi]
    · rw [getD_set_ne true e]
      have : ¬ k = i := fun h => e h.symm
      simp [this]
  rw [hsub]
  refine List.length_filter_lt_length_iff_exists.2 ⟨i, List.mem_filter.2 ⟨List.mem_range.2 hi, by rw [h0]; rfl⟩, by simp⟩
/-- where nothing may come up, all have -/
theorem all_of_ready {listed : Array Bool} (hwf : ∀ i o e, ops[i]? = some o → e ∈ o.after → Region.binds md e = true → e.on < i) (hsz : listed.size = ops.size) (h : Region.ready md ops listed = []) : ∀ i, i < ops.size → listed.getD i true = true := by
  intro i
  induction i using Nat.strongRecOn with
  | ind i ih =>
    intro hi
    cases h3 : listed.getD i true with
    | true => rfl
    | false =>
      have hm : i ∈ Region.ready md ops listed := mem_ready.2 ⟨h3, ops[i], Array.getElem?_eq_getElem hi, fun e he hb => by
        have hlt := hwf i _ e (Array.getElem?_eq_getElem hi) he hb
        have h4 := ih e.on hlt (by omega)
        have hs : e.on < listed.size := by omega
        simp [hs] at h4 ⊢
        exact h4⟩
      rw [h] at hm
      cases hm
end
section
variable {P : Program} {ops : Array Oper} {Q : Exit → Act → World → Prop}
theorem put_same {a : Act} {d : Nat} {v : Value} (h : d < a.tmps.size) : (a.put (some d) v).tmps[d]?.getD undef = v := by simp [Act.put, h]
theorem put_other {a : Act} {d e : Nat} {v : Value} (h : d ≠ e) : (a.put (some d) v).tmps[e]?.getD undef = a.tmps[e]?.getD undef := by simp [Act.put, Array.getElem?_setIfInBounds_ne h]
theorem below_step {w0 w w' : World} (h : Below w0.heap.size w0 w) (hb : Below w.heap.size w w') : Below w0.heap.size w0 w' := below_trans h hb h.size
/-- what an operation is to leave -/
def Leaves (R : Value → World → Prop) (o : Oper) (a : Act) (w : World) : Act → World → Prop := fun a' w' => ∃ v, a' = a.put o.dst v ∧ Below w.heap.size w w' ∧ R v w'
end
abbrev T (a : Act) (k : Nat) : Value := a.tmps[k]?.getD undef
def AllFrom (p : Nat → Oper → Prop) : Nat → List Oper → Prop
  | _, [] => True
  | k, o :: l => p k o ∧ AllFrom p (k + 1) l
theorem allFrom_at {p : Nat → Oper → Prop} {l : List Oper} : ∀ {k : Nat}, AllFrom p k l → ∀ i o, l[i]? = some o → p (k + i) o := by
  induction l with
  | nil => intro k _ i o h; simp at h
  | cons x l ih =>
    intro k h i o hi
    cases i with
    | zero => simp at hi; subst hi; exact h.1
    | succ i =>
      have := ih h.2 i o (by simpa using hi)
      rwa [show k + 1 + i = k + (i + 1) by omega] at this
section
variable {P : Program} {ops : Array Oper} {Q : Exit → Act → World → Prop}
/-- what is owed for one operation -/
def Duty (P : Program) (ops : Array Oper) (w0 : World) (D : Nat → Nat) (R : Nat → Value → World → Prop) (F0 : Act → Prop) (i : Nat) (o : Oper) : Prop :=
  o.dst = some (D i) ∧ (∀ e ∈ o.after, e.on < i) ∧ ∀ a w, F0 a → Below w0.heap.size w0 w → (∀ e ∈ o.after, Region.binds .any e = true → R e.on (T a (D e.on)) w) →
    (Region.wanted o (yielded ops a.tmps) = true → ∀ Q, o.wp P a w (Leaves (R i) o a w) Q) ∧ (Region.wanted o (yielded ops a.tmps) = false → R i undef w)
theorem wanted_free {o : Oper} {y : Nat → Option Bool} (h : o.guard = none) : Region.wanted o y = true := by unfold Region.wanted; rw [h]
section
variable {P : Program} {ops : Array Oper} {Q : Exit → Act → World → Prop}
/-- the operations that have come up, one more -/
def more (L : Nat → Bool) (i : Nat) : Nat → Bool := fun j => if j = i then true else L j
theorem wpAny_inv (Inv : (Nat → Bool) → Act → World → Prop)
    (hwf : ∀ i o e, ops[i]? = some o → e ∈ o.after → Region.binds .any e = true → e.on < i)
    (hstep : ∀ i o, ops[i]? = some o → o.guard = none ∧ ∀ L a w, Inv L a w → L i = false → (∀ e ∈ o.after, Region.binds .any e = true → L e.on = true) → o.wp P a w (fun a' w' => Inv (more L i) a' w') Q)
    (hend : ∀ L a w, (∀ i, i < ops.size → L i = true) → Inv L a w → Q .normal a w) :
    ∀ (fuel : Nat) (listed : Array Bool) (a : Act) (w : World), listed.size = ops.size → left ops listed ≤ fuel → Inv (fun i => listed.getD i true) a w → wpAny P .any ops Q fuel listed a w := by
  intro fuel
  induction fuel with
  | zero =>
    intro listed a w hsz hl hf
    have hall := left_zero (Nat.le_zero.1 hl)
    refine ⟨?_, hend _ a w (fun i hi => hall i hi) hf⟩
    apply List.eq_nil_iff_forall_not_mem.2
    intro i hi
    obtain ⟨h0, o, ho, _⟩ := mem_ready.1 hi
    have hlt := (Array.getElem?_eq_some_iff.1 ho).1
    rw [hall i hlt] at h0
    cases h0
  | succ fuel ih =>
    intro listed a w hsz hl hf
    refine ⟨fun h => hend _ a w (fun i hi => all_of_ready hwf hsz h i hi) hf, fun i hi => ?_⟩
    obtain ⟨h0, o, ho, hafter⟩ := mem_ready.1 hi
    have hlt := (Array.getElem?_eq_some_iff.1 ho).1
    obtain ⟨hg, hs⟩ := hstep i o ho
    have hw := hs _ a w hf h0 (fun e he hb => by
      have h4 := hafter e he hb
      have h5 := hwf i o e ho he hb
      have hs : e.on < listed.size := by omega
      simp [hs] at h4 ⊢
      exact h4)
    unfold wpOp
    simp only [ho, wanted_free hg, if_true]
    refine .inl (Oper.wp_mono (fun a' w' h => ?_) hw)
    refine ih _ a' w' (by simpa using hsz) (by have := left_set hlt h0 hsz; omega) ?_
    have e : (fun j => (listed.setIfInBounds i true).getD j true) = more (fun j => listed.getD j true) i := by
      funext j
      unfold more
      by_cases e : j = i
      · subst e
        have hjs : j < listed.size := by omega
        simp [hjs]
      · rw [getD_set_ne true (Ne.symm e)]
        simp [e]
    rw [e]
    exact h
theorem wp_region_inv {id : Nat} {a : Act} {w : World} (hm : P.follows .mixedOrders = true) (Inv : (Nat → Bool) → Act → World → Prop)
    (hwf : ∀ i o e, ops[i]? = some o → e ∈ o.after → Region.binds .any e = true → e.on < i)
    (hstep : ∀ i o, ops[i]? = some o → o.guard = none ∧ ∀ L a w, Inv L a w → L i = false → (∀ e ∈ o.after, Region.binds .any e = true → L e.on = true) → o.wp P a w (fun a' w' => Inv (more L i) a' w') Q)
    (hend : ∀ L a w, (∀ i, i < ops.size → L i = true) → Inv L a w → Q .normal a w)
    (h0 : ∀ L, (∀ i, i < ops.size → L i = false) → Inv L a w.drew) : (Code.region id ops true).wp P Q a w := by
  refine wp_region_any hm (wpAny_inv Inv hwf hstep hend ops.size _ a _ (by simp) ?_ (h0 _ (fun i hi => by simp [hi])))
  unfold left
  have := List.length_filter_le (fun i => !(Array.replicate ops.size false).getD i true) (List.range ops.size)
  simpa using this
end
section
variable {P : Program} {ops : Array Oper} {Q : Exit → Act → World → Prop}
/-- each operation ahead of n is waited for by a later one -/
def covers (ops : Array Oper) (n : Nat) : Bool := (List.range n).all fun i => (List.range (n + 1)).any fun j => decide (i < j) && match ops[j]? with
  | some o => o.after.any fun e => e.on == i && Region.binds .any e
  | none => false
theorem covers_all {n : Nat} (h : covers ops n = true) {L : Nat → Bool} (hc : ∀ i o e, ops[i]? = some o → e ∈ o.after → Region.binds .any e = true → L i = true → L e.on = true) (hn : L n = true) : ∀ i, i ≤ n → L i = true := by
  suffices hs : ∀ k i, i ≤ n → n - i ≤ k → L i = true from fun i hi => hs (n - i) i hi (Nat.le_refl _)
  intro k
  induction k with
  | zero => intro i hi hk; rw [show i = n by omega]; exact hn
  | succ k ih =>
    intro i hi hk
    by_cases e : i = n
    · rw [e]; exact hn
    · have h1 := List.all_eq_true.1 h i (List.mem_range.2 (by omega))
      obtain ⟨j, hj, h2⟩ := List.any_eq_true.1 h1
      have hj := List.mem_range.1 hj
      rw [Bool.and_eq_true] at h2
      have hij := of_decide_eq_true h2.1
      have h3 := h2.2
      cases ho : ops[j]? with
      | none => rw [ho] at h3; cases h3
      | some o =>
        rw [ho] at h3
        have h3 : (o.after.any fun e => e.on == i && Region.binds .any e) = true := h3
        rw [Array.any_eq_true'] at h3
        obtain ⟨x, hx, h4⟩ := h3
        rw [Bool.and_eq_true] at h4
        have := hc j o x ho hx h4.2 (ih j (by omega) (by omega))
        rwa [eq_of_beq h4.1] at this
theorem wp_region_last {id : Nat} {a : Act} {w0 : World} (hm : P.follows .mixedOrders = true) (n : Nat) (hn : ops.size = n + 1) (D : Nat → Nat) (R : Nat → Value → World → Prop) (F0 : Act → Prop)
    (hup : ∀ i v w w', R i v w → Below w.heap.size w w' → R i v w')
    (hF0 : ∀ a i v, i < n → F0 a → F0 (a.put (some (D i)) v)) (hsz : ∀ a i, i < n → F0 a → D i < a.tmps.size)
    (hinj : ∀ i j, i < n → j < n → D i = D j → i = j)
    (hcov : covers ops n = true)
    (hduty : AllFrom (fun i o => (i < n → o.guard = none ∧ Duty P ops w0 D R F0 i o) ∧ (n ≤ i → o.guard = none ∧ (∀ e ∈ o.after, e.on < n) ∧ ∀ a w, F0 a → Below w0.heap.size w0 w → (∀ i, i < n → R i (T a (D i)) w) → o.wp P a w (Q .normal) Q)) 0 ops.toList)
    (h0 : F0 a) : (Code.region id ops true).wp P Q a w0 := by
  have hd : ∀ i o, ops[i]? = some o → i < n → o.guard = none ∧ Duty P ops w0 D R F0 i o := fun i o ho hi => by
    have := allFrom_at hduty i o (by simpa using ho)
    rw [Nat.zero_add] at this
    exact this.1 hi
  have hlast : ∀ o, ops[n]? = some o → o.guard = none ∧ (∀ e ∈ o.after, e.on < n) ∧ ∀ a w, F0 a → Below w0.heap.size w0 w → (∀ i, i < n → R i (T a (D i)) w) → o.wp P a w (Q .normal) Q := fun o ho => by
    have := allFrom_at hduty n o (by simpa using ho)
    rw [Nat.zero_add] at this
    exact this.2 (Nat.le_refl _)
  refine wp_region_inv hm (fun L a w => (∀ i o e, ops[i]? = some o → e ∈ o.after → Region.binds .any e = true → L i = true → L e.on = true) ∧ (L n = true → Q .normal a w) ∧ (L n = false → F0 a ∧ Below w0.heap.size w0 w ∧ ∀ i, i < n → L i = true → R i (T a (D i)) w)) ?wf ?step ?fin ?zero
  case wf =>
    intro i o e ho he _
    have hi := (Array.getElem?_eq_some_iff.1 ho).1
    by_cases hl : i < n
    · exact (hd i o ho hl).2.2.1 e he
    · have : i = n := by omega
      subst this
      exact (hlast o ho).2.1 e he
  case zero =>
    intro L hL
    refine ⟨fun i o e ho _ _ h => ?_, fun h => ?_, fun _ => ⟨h0, (Below.refl _ _).drew, fun i hi h => ?_⟩⟩
    · rw [hL i (Array.getElem?_eq_some_iff.1 ho).1] at h; cases h
    · rw [hL n (by omega)] at h; cases h
    · rw [hL i (by omega)] at h; cases h
  case fin =>
    intro L a w hL hI
    exact hI.2.1 (hL n (by omega))
  case step =>
    intro i o ho
    have hi := (Array.getElem?_eq_some_iff.1 ho).1
    have hclose : ∀ L : Nat → Bool, (∀ i o e, ops[i]? = some o → e ∈ o.after → Region.binds .any e = true → L i = true → L e.on = true) → (∀ e ∈ o.after, Region.binds .any e = true → L e.on = true) → ∀ j p e, ops[j]? = some p → e ∈ p.after → Region.binds .any e = true → more L i j = true → more L i e.on = true := fun L h1 h2 j p e hp he hb hj => by
      unfold more at hj ⊢
      by_cases hji : j = i
      · subst hji
        rw [ho] at hp
        cases hp
        simp [h2 e he hb]
      · rw [if_neg hji] at hj
        simp [h1 j p e hp he hb hj]
    by_cases hl : i < n
    · obtain ⟨hg, hdst, hlt, hst⟩ := hd i o ho hl
      refine ⟨hg, fun L a w hI hLi hE => ?_⟩
      have hLn : L n = false := by
        cases h : L n with
        | false => rfl
        | true => rw [covers_all hcov hI.1 h i (by omega)] at hLi; cases hLi
      obtain ⟨hF, hB, hR⟩ := hI.2.2 hLn
      have hw := (hst a w hF hB (fun e he hb => hR e.on (Nat.lt_trans (hlt e he) hl) (hE e he hb))).1 (wanted_free hg) Q
      refine Oper.wp_mono ?_ hw
      rintro a' w' ⟨v, rfl, hb, hr⟩
      have hne : n ≠ i := by omega
      have hmn : more L i n = L n := by unfold more; rw [if_neg hne]
      refine ⟨hclose L hI.1 hE, fun h => absurd (hmn.symm.trans h) (by rw [hLn]; simp), fun _ => ?_⟩
      rw [hdst]
      refine ⟨hF0 a i v hl hF, below_step hB hb, fun j hj hmj => ?_⟩
      by_cases hji : j = i
      · subst hji
        unfold T
        rw [put_same (hsz a j hl hF)]
        exact hr
      · unfold T
        rw [put_other (fun e => hji (hinj i j hl hj e).symm)]
        have : L j = true := by unfold more at hmj; rwa [if_neg hji] at hmj
        exact hup j _ _ _ (hR j hj this) hb
    · have : i = n := by omega
      subst this
      obtain ⟨hg, hlt, hst⟩ := hlast o ho
      refine ⟨hg, fun L a w hI hLi hE => ?_⟩
      obtain ⟨hF, hB, hR⟩ := hI.2.2 hLi
      have hall := covers_all hcov (L := more L i) (hclose L hI.1 hE) (by simp [more])
      have hall' : ∀ j, j < i → L j = true := fun j hj => by
        have := hall j (by omega)
        unfold more at this
        rwa [if_neg (by omega)] at this
      refine Oper.wp_mono ?_ (hst a w hF hB (fun j hj => hR j hj (hall' j hj)))
      intro a' w' hq
      exact ⟨hclose L hI.1 hE, fun _ => hq, fun h => by simp [more] at h⟩
theorem word0 (i : Nat) : ((Oct.word Oct.none i : Nat) : Int) = 0 := by rw [show Oct.none = fun _ => false from rfl, Oct.word_none]; rfl
theorem heap_set {w : World} {A : Nat} {c : Array Value} {t : TypeId} {fz : Nat × Nat} (h : w.heap[A]? = some (.cells c t fz)) (j : Nat) (v : Value) : (w.setCell ⟨A, j, none⟩ v).heap[A]? = some (.cells (c.setIfInBounds j v) t fz) := by
  simp only [World.setCell, Array.getElem?_modify, h]
  rfl
theorem ownsRow_keep {w w' : World} {base : Nat} {e : TypeId} {size : Nat} {v : Value} {n : Nat} {xs : List Value} (h : w.ownsRow base e size v n xs) (hk : ∀ g, v.ownBlock = some g → base ≤ g → g < w.heap.size → w'.heap[g]? = w.heap[g]?) : w'.ownsRow base e size v n xs := by
  refine ⟨h.1, ?_⟩
  rcases h.2 with h2 | ⟨g, cap, cur, rfl, hBg, hg, rest⟩
  · exact Or.inl h2
  · exact Or.inr ⟨g, cap, cur, rfl, hBg, by rw [hk g rfl hBg (Array.getElem?_eq_some_iff.1 hg).1]; exact hg, rest⟩
/-- a block of an element type -/
def TyB (w : World) (t : TypeId) (b : Nat) : Prop := ∃ c z, w.heap[b]? = some (.cells c t z)
theorem TyB.same {w w' : World} {t : TypeId} {b : Nat} (h : TyB w t b) (e : w'.heap[b]? = w.heap[b]?) : TyB w' t b := by
  obtain ⟨c, z, hc⟩ := h
  exact ⟨c, z, e.trans hc⟩
theorem TyB.ne {w : World} {t u : TypeId} {b : Nat} (h : TyB w t b) (h2 : TyB w u b) : t = u := by
  obtain ⟨c, z, hc⟩ := h
  obtain ⟨c', z', hc'⟩ := h2
  rw [hc] at hc'
  simp at hc'
  exact hc'.2.1
/-- a set that holds nothing -/
def noSet (s : Oct.S) : Bool := decide (Oct.word s 0 = 0) && decide (Oct.word s 1 = 0) && decide (Oct.word s 2 = 0) && decide (Oct.word s 3 = 0)
set_option maxRecDepth 4000 in
set_option maxHeartbeats 2000000 in
theorem eq4_zero (a b c d : Nat) (w : World) : (Op.equalIn 10000 32 (.agg #[.int .u64 (a : Nat), .int .u64 (b : Nat), .int .u64 (c : Nat), .int .u64 (d : Nat)]) (.agg #[.int .u64 0, .int .u64 0, .int .u64 0, .int .u64 0])).run Tryd.prog w = .ok (decide (a = 0) && decide (b = 0) && decide (c = 0) && decide (d = 0)) w := by
  obtain ⟨i0, hi, hz0, hz1, hz2⟩ := info_parts info30
  have h1 : ∀ x : Nat, (Op.equalIn 9999 30 (.int .u64 (x : Nat)) (.int .u64 0)).run Tryd.prog w = .ok (decide (x = 0)) w := fun x => by
    rw [run_equalIn_int w 9998 30 .u64 .u64 x 0 Tryd.underlying30]
    congr 1
    rw [Bool.eq_iff_iff]
    simp
  have h10 : (Op.equalIn 9999 30 (.int .u64 0) (.int .u64 0)).run Tryd.prog w = .ok true w := h1 0
  rw [show (10000 : Nat) = 9999 + 1 from rfl, Op.equalIn]
  by_cases ha : a = 0
  · by_cases hb : b = 0
    · by_cases hc : c = 0
      · by_cases hd : d = 0
        · simp [run_underlying Tryd.underlying32, sizeOf, typeInfo, hi, hz1, part, Tryd.isAgg30, Std.Legacy.Range.forIn_eq_forIn_range', Std.Legacy.Range.size, List.range'_succ, List.range'_zero, ha, hb, hc, hd, h10]
        · simp [run_underlying Tryd.underlying32, sizeOf, typeInfo, hi, hz1, part, Tryd.isAgg30, Std.Legacy.Range.forIn_eq_forIn_range', Std.Legacy.Range.size, List.range'_succ, List.range'_zero, h1, ha, hb, hc, hd, h10]
      · simp [run_underlying Tryd.underlying32, sizeOf, typeInfo, hi, hz1, part, Tryd.isAgg30, Std.Legacy.Range.forIn_eq_forIn_range', Std.Legacy.Range.size, List.range'_succ, List.range'_zero, h1, ha, hb, hc, h10]
    · simp [run_underlying Tryd.underlying32, sizeOf, typeInfo, hi, hz1, part, Tryd.isAgg30, Std.Legacy.Range.forIn_eq_forIn_range', Std.Legacy.Range.size, List.range'_succ, List.range'_zero, h1, ha, hb, h10]
  · simp [run_underlying Tryd.underlying32, sizeOf, typeInfo, hi, hz1, part, Tryd.isAgg30, Std.Legacy.Range.forIn_eq_forIn_range', Std.Legacy.Range.size, List.range'_succ, List.range'_zero, h1, ha]
structure Eg where
  k : Int
  f : Int
  t : Int
  s : Oct.S
def Eg.cells (e : Eg) : List Value := [.int .i64 e.k, .int .i64 e.f, .int .i64 e.t, .int .u64 (Oct.word e.s 0 : Nat), .int .u64 (Oct.word e.s 1 : Nat), .int .u64 (Oct.word e.s 2 : Nat), .int .u64 (Oct.word e.s 3 : Nat)]
def flatE (es : List Eg) : List Value := es.flatMap Eg.cells
theorem flatE_length (es : List Eg) : (flatE es).length = 7 * es.length := by
  induction es with
  | nil => rfl
  | cons x r ih => simp only [flatE, List.flatMap_cons, List.length_append, List.length_cons] at ih ⊢; rw [ih]; simp [Eg.cells]; omega
theorem flatE_append (a b : List Eg) : flatE (a ++ b) = flatE a ++ flatE b := by simp [flatE]
theorem flatE_one (es : List Eg) : ∀ u ∈ flatE es, u.oneCell' = true := by
  intro u hu
  obtain ⟨x, _, hx⟩ := List.mem_flatMap.1 hu
  simp only [Eg.cells, List.mem_cons, List.not_mem_nil, or_false] at hx
  rcases hx with rfl | rfl | rfl | rfl | rfl | rfl | rfl <;> rfl
theorem flatE_at {es : List Eg} {i : Nat} {x : Eg} (h : es[i]? = some x) {m : Nat} (hm : m < 7) : (flatE es)[7 * i + m]? = x.cells[m]? := by
  induction es generalizing i with
  | nil => simp at h
  | cons y r ih =>
    have hf : flatE (y :: r) = y.cells ++ flatE r := by simp [flatE]
    have hy : y.cells.length = 7 := rfl
    rw [hf]
    cases i with
    | zero =>
      simp at h
      subst h
      rw [List.getElem?_append_left (by omega)]
      simp
    | succ i =>
      rw [List.getElem?_append_right (by omega), hy, show 7 * (i + 1) + m - 7 = 7 * i + m by omega]
      exact ih (by simpa using h)
/-- A ROW OF EDGES OF THE CALL's OWN. -/
def RowE (w : World) (base : Nat) (V : Value) (es : List Eg) : Prop := w.ownsRow base 34 7 V es.length (flatE es)
theorem infoE : (Tryd.prog.info? 34).map (fun i => (i.zero, i.size, i.bytes)) = some (some (.agg #[.int .i64 0, .int .i64 0, .int .i64 0, .int .u64 0, .int .u64 0, .int .u64 0, .int .u64 0]), 7, 56) := by kernel_rfl
theorem rowE_nil (w : World) (base : Nat) : RowE w base (.slice none 0 0) [] := World.ownsRow_nil w base 34 7
theorem RowE.ty {w : World} {base : Nat} {V : Value} {es : List Eg} (h : RowE w base V es) : ∀ b, V.ownBlock = some b → base ≤ b ∧ TyB w 34 b := by
  intro b hb
  rcases h.2 with ⟨rfl, _⟩ | ⟨g, cap, cur, rfl, hbg, hg, _⟩
  · simp [Value.ownBlock] at hb
  · simp [Value.ownBlock] at hb
    subst hb
    exact ⟨hbg, ⟨_, _, hg⟩⟩
theorem RowE.keep {w w' : World} {base : Nat} {V : Value} {es : List Eg} (h : RowE w base V es) (hk : ∀ b, base ≤ b → b < w.heap.size → TyB w 34 b → w'.heap[b]? = w.heap[b]?) : RowE w' base V es := by
  refine ⟨h.1, ?_⟩
  rcases h.2 with h6 | ⟨g, cap, cur, rfl, hBg, hg, rest⟩
  · exact Or.inl h6
  · exact Or.inr ⟨g, cap, cur, rfl, hBg, (hk g hBg (Array.getElem?_eq_some_iff.1 hg).1 ⟨_, _, hg⟩).trans hg, rest⟩
theorem RowE.form {w : World} {base : Nat} {V : Value} {es : List Eg} (h : RowE w base V es) : ∃ a c, V = .slice a es.length c ∧ es.length ≤ c ∧ c ≤ maxLen := by
  rcases h.2 with ⟨hv, hn⟩ | ⟨g, cap, cur, hv, hbg, hg, h1, h2, h3, h4⟩
  · exact ⟨none, 0, by rw [hv, hn], by omega, by decide⟩
  · exact ⟨_, _, hv, h1, h2⟩
theorem rowE_snoc {w : World} {b0 g cap n : Nat} {es : List Eg} {e : Eg} (hn : es.length = n) (h : w.ownsRow b0 34 7 (.slice (some ⟨g, 0, none⟩) (n + 1) cap) (n + 1) (flatE es ++ e.cells)) : RowE w b0 (.slice (some ⟨g, 0, none⟩) (n + 1) cap) (es ++ [e]) := by
  subst hn
  unfold RowE
  rw [List.length_append, flatE_append]
  have e1 : flatE [e] = e.cells := by simp [flatE]
  rw [e1]
  exact h
theorem below_low {b c : Nat} {w w' : World} (h : Below b w w') (hc : c ≤ b) : Below c w w' := ⟨h.os, h.tape, h.output, h.size, fun k hk => h.block k (Nat.lt_of_lt_of_le hk hc)⟩
theorem below_two {b : Nat} {w u v : World} (h : Below b w u) (h2 : Below b u v) : Below b w v :=
  ⟨h2.os.trans h.os, h2.tape.trans h.tape, h2.output.trans h.output, Nat.le_trans h.size h2.size, fun k hk => (h2.block k hk).trans (h.block k hk)⟩
/-- A ROW OF NUMBERS OF THE CALL's OWN. -/
def RowI (w : World) (base : Nat) (V : Value) (l : List Nat) : Prop := w.ownsRow base 3 1 V l.length (l.map fun a => Value.int .i64 (a : Nat))
theorem info3 : (Tryd.prog.info? 3).map (fun i => (i.zero, i.size, i.bytes)) = some (some (.int .i64 0), 1, 8) := by kernel_rfl
theorem rowI_nil (w : World) (base : Nat) : RowI w base (.slice none 0 0) [] := World.ownsRow_nil w base 3 1
theorem RowI.ty {w : World} {base : Nat} {V : Value} {l : List Nat} (h : RowI w base V l) : ∀ b, V.ownBlock = some b → base ≤ b ∧ TyB w 3 b := by
  intro b hb
  rcases h.2 with ⟨rfl, _⟩ | ⟨g, cap, cur, rfl, hbg, hg, _⟩
  · simp [Value.ownBlock] at hb
  · simp [Value.ownBlock] at hb
    subst hb
    exact ⟨hbg, ⟨_, _, hg⟩⟩
theorem RowI.keep {w w' : World} {base : Nat} {V : Value} {l : List Nat} (h : RowI w base V l) (hk : ∀ b, base ≤ b → b < w.heap.size → TyB w 3 b → w'.heap[b]? = w.heap[b]?) : RowI w' base V l := by
  refine ⟨h.1, ?_⟩
  rcases h.2 with h6 | ⟨g, cap, cur, rfl, hBg, hg, rest⟩
  · exact Or.inl h6
  · exact Or.inr ⟨g, cap, cur, rfl, hBg, (hk g hBg (Array.getElem?_eq_some_iff.1 hg).1 ⟨_, _, hg⟩).trans hg, rest⟩
theorem RowI.form {w : World} {base : Nat} {V : Value} {l : List Nat} (h : RowI w base V l) : ∃ (a : Option Addr) (c : Nat), V = .slice a l.length c ∧ l.length ≤ c ∧ c ≤ maxLen := by
  rcases h.2 with ⟨hv, hn⟩ | ⟨g, cap, cur, hv, hbg, hg, h1, h2, h3, h4⟩
  · exact ⟨none, 0, by rw [hv, hn], by omega, by decide⟩
  · exact ⟨_, cap, hv, h1, h2⟩
theorem RowI.at {w : World} {base : Nat} {a : Option Addr} {n c : Nat} {l : List Nat} (h : RowI w base (.slice a n c) l) {j x : Nat} (hx : l[j]? = some x) : ∃ g, a = some ⟨g, 0, none⟩ ∧ w.cell? ⟨g, j, none⟩ = some (.int .i64 (x : Nat)) := by
  have hj := (List.getElem?_eq_some_iff.1 hx).1
  rcases h.2 with ⟨hv, hn⟩ | ⟨g, cap, cur, hv, hbg, hg, h1, h2, h3, h4⟩
  · omega
  · cases hv
    refine ⟨g, rfl, ?_⟩
    have e : (l.map fun a => Value.int .i64 (a : Nat))[j]? = some (.int .i64 (x : Nat)) := by rw [List.getElem?_map, hx]; rfl
    rw [← h4, List.getElem?_take_of_lt (by omega)] at e
    simp only [World.cell?, hg]
    simpa using e
theorem wpList_append_int {w : World} {ops : Array Oper} {rest : List Oper} {o : Oper} {a : Act} {Q : Exit → Act → World → Prop} (hgd : o.guard = none) (s y : Operand)
    (ho : o.op = .call { callee := .builtin .append, args := #[s, y], argTypes := #[39, 39] })
    (base : Nat) (V : Value) (l : List Nat) (hs : a.eval s = V) (hn : RowI w base V l) (ad : Addr) (cap : Nat) (x : Nat) (hy : a.eval y = .slice (some ad) 1 cap) (hc : w.cell? ad = some (.int .i64 (x : Nat))) (hl : l.length ≤ 2000000) (hb : base ≤ w.heap.size)
    (h : ∀ g cap' w', RowI w' base (.slice (some ⟨g, 0, none⟩) (l.length + 1) cap') (l ++ [x]) → w.grownBy w' V.ownBlock → wpList Tryd.prog ops Q rest (a.put o.dst (.slice (some ⟨g, 0, none⟩) (l.length + 1) cap')) w') : wpList Tryd.prog ops Q (o :: rest) a w := by
  refine wpList_plain hgd fun K hK => ?_
  obtain ⟨i0, hi, hz0, hz1, hz2⟩ := info_parts info3
  obtain ⟨g, cap', w', hr, ho2, hg, hgg, hlt⟩ := run_append_lies (P := Tryd.prog) w 39 o.type base 3 i0 _ 1 8 Tryd.underlying39 hi hz0 hz1 hz2 rfl (by decide) V l.length _ hn ad 1 cap [.int .i64 (x : Nat)] rfl
    (fun j v hj => by
      cases j with
      | zero => simp at hj; subst hj; simpa [Addr.add] using hc
      | succ j => simp at hj) (fun v hv => by simp at hv; subst hv; rfl) (by decide) (by simp only [maxLen]; omega) (by omega) hb w.heap.size rfl
  unfold Oper.wp execOp
  simp only [ho, resolve, invoke, builtin, Sem.run_bind, Sem.run_pure, Result.andThen_ok, List.map_toArray, List.map_cons, List.map_nil, hs, hy, hr]
  refine hK _ _ (h g cap' w' ?_ hg)
  unfold RowI
  rw [List.length_append, List.map_append]
  exact ho2
structure Ma where
  S : Int
  es : List Eg
  rs : List Nat
def zeroMa : Ma := ⟨0, [], []⟩
/-- edges one behind the other, from an address on -/
def EAt (X : Nat → Prop) (w : World) (a : Option Addr) (es : List Eg) : Prop := es = [] ∨ ∃ b off, a = some ⟨b, off, none⟩ ∧ X b ∧ ∀ j v, (flatE es)[j]? = some v → w.cell? ⟨b, off + j, none⟩ = some v
def UAt (X : Nat → Prop) (w : World) (a : Option Addr) (rs : List Nat) : Prop := rs = [] ∨ ∃ b off, a = some ⟨b, off, none⟩ ∧ X b ∧ ∀ j x, rs[j]? = some x → w.cell? ⟨b, off + j, none⟩ = some (.int .u32 (x : Nat))
structure Nf where
  S : Int
  ea : Option Addr
  en : Nat
  ec : Nat
  ra : Option Addr
  rn : Nat
  rc : Nat
def Nf.val (x : Nf) : Value := .agg #[.int .i64 x.S, .slice x.ea x.en x.ec, .slice x.ra x.rn x.rc]
def Nf.cells (x : Nf) : List Value := [.int .i64 x.S, .slice x.ea x.en x.ec, .slice x.ra x.rn x.rc]
/-- A MACHINE IN MEMORY, whose lists lie in blocks of a kind. -/
structure MaAt (X : Nat → Prop) (w : World) (M : Ma) (x : Nf) : Prop where
  s : x.S = M.S
  n : x.en = M.es.length
  r : x.rn = M.rs.length
  e : EAt X w x.ea M.es
  u : UAt X w x.ra M.rs
theorem lt_of_cell {w : World} {b j : Nat} {v : Value} (h : w.cell? ⟨b, j, none⟩ = some v) : b < w.heap.size := by
  cases hg : w.heap[b]? with
  | none => simp [World.cell?, hg] at h
  | some o => exact (Array.getElem?_eq_some_iff.1 hg).1
theorem EAt.keep {X Y : Nat → Prop} {w w' : World} {a : Option Addr} {es : List Eg} (h : EAt X w a es) (hXY : ∀ b, X b → b < w.heap.size → Y b) (hk : ∀ b, X b → b < w.heap.size → w'.heap[b]? = w.heap[b]?) : EAt Y w' a es := by
  rcases h with h | ⟨b, off, rfl, hX, hc⟩
  · exact Or.inl h
  · cases es with
    | nil => exact Or.inl rfl
    | cons e es =>
      have hlt : b < w.heap.size := lt_of_cell (hc 0 _ rfl)
      exact Or.inr ⟨b, off, rfl, hXY b hX hlt, fun j v hj => (World.cell?_of_block (a := ⟨b, off + j, none⟩) (hk b hX hlt)).trans (hc j v hj)⟩
theorem UAt.keep {X Y : Nat → Prop} {w w' : World} {a : Option Addr} {rs : List Nat} (h : UAt X w a rs) (hXY : ∀ b, X b → b < w.heap.size → Y b) (hk : ∀ b, X b → b < w.heap.size → w'.heap[b]? = w.heap[b]?) : UAt Y w' a rs := by
  rcases h with h | ⟨b, off, rfl, hX, hc⟩
  · exact Or.inl h
  · cases rs with
    | nil => exact Or.inl rfl
    | cons e es =>
      have hlt : b < w.heap.size := lt_of_cell (hc 0 _ rfl)
      exact Or.inr ⟨b, off, rfl, hXY b hX hlt, fun j v hj => (World.cell?_of_block (a := ⟨b, off + j, none⟩) (hk b hX hlt)).trans (hc j v hj)⟩
theorem MaAt.keep {X Y : Nat → Prop} {w w' : World} {M : Ma} {x : Nf} (h : MaAt X w M x) (hXY : ∀ b, X b → b < w.heap.size → Y b) (hk : ∀ b, X b → b < w.heap.size → w'.heap[b]? = w.heap[b]?) : MaAt Y w' M x :=
  ⟨h.s, h.n, h.r, h.e.keep hXY hk, h.u.keep hXY hk⟩
theorem MaAt.later {X : Nat → Prop} {w w' : World} {M : Ma} {x : Nf} (h : MaAt X w M x) (hb : Below w.heap.size w w') : MaAt X w' M x := h.keep (fun _ h _ => h) (fun b _ hlt => hb.block b hlt)
theorem zero_maAt (X : Nat → Prop) (w : World) : MaAt X w zeroMa ⟨0, none, 0, 0, none, 0, 0⟩ := ⟨rfl, rfl, rfl, Or.inl rfl, Or.inl rfl⟩
theorem RowE.at {w : World} {base : Nat} {a : Option Addr} {n c : Nat} {es : List Eg} (h : RowE w base (.slice a n c) es) : n = es.length ∧ EAt (fun b => base ≤ b) w a es := by
  rcases h.2 with ⟨hv, hn⟩ | ⟨g, cap, cur, hv, hbg, hg, h1, h2, h3, h4⟩
  · cases hv
    exact ⟨hn.symm, Or.inl (List.length_eq_zero_iff.1 hn)⟩
  · cases hv
    refine ⟨rfl, Or.inr ⟨g, 0, rfl, hbg, fun j v hj => ?_⟩⟩
    have hlt := (List.getElem?_eq_some_iff.1 hj).1
    rw [flatE_length] at hlt
    rw [← h4, List.getElem?_take_of_lt (by omega)] at hj
    simp only [World.cell?, hg, Nat.zero_add]
    simpa using hj
theorem RowE.at2 {w : World} {base : Nat} {a : Option Addr} {n c : Nat} {es : List Eg} (h : RowE w base (.slice a n c) es) : EAt (fun b => base ≤ b ∧ TyB w 34 b) w a es := by
  rcases h.at.2 with h1 | ⟨b, off, ha, hb, hc⟩
  · exact Or.inl h1
  · subst ha
    by_cases he : es = []
    · exact Or.inl he
    · refine Or.inr ⟨b, off, rfl, ⟨hb, ?_⟩, hc⟩
      rcases h.2 with ⟨hv, _⟩ | ⟨g, cap, cur, hv, _, hg, _⟩
      · cases hv
      · cases hv
        exact ⟨_, _, hg⟩
theorem RowE.later {w w' : World} {base : Nat} {V : Value} {es : List Eg} (h : RowE w base V es) (hb : Below w.heap.size w w') : RowE w' base V es := h.keep (fun b _ hlt _ => hb.block b hlt)
theorem RowE.set {w : World} {base : Nat} {V : Value} {es : List Eg} (h : RowE w base V es) {A : Nat} {t : TypeId} (hA : TyB w t A) (ht : t ≠ 34) (j : Nat) (v : Value) : RowE (w.setCell ⟨A, j, none⟩ v) base V es :=
  h.keep (fun b _ _ hb => Below.heap_setCell w ⟨A, j, none⟩ v b (fun e => by have e : b = A := e; subst e; exact ht (TyB.ne hA hb)))
def wds (rs : List Nat) : List Value := rs.map fun x => Value.int .u32 (x : Nat)
theorem wds_length (rs : List Nat) : (wds rs).length = rs.length := List.length_map _
def RowU (w : World) (base : Nat) (V : Value) (rs : List Nat) : Prop := w.ownsRow base 28 1 V rs.length (wds rs)
theorem infoU : (Tryd.prog.info? 28).map (fun i => (i.zero, i.size, i.bytes)) = some (some (.int .u32 0), 1, 4) := by kernel_rfl
theorem rowU_nil (w : World) (base : Nat) : RowU w base (.slice none 0 0) [] := World.ownsRow_nil w base 28 1
section
variable {w w' : World} {base : Nat} {V : Value} {rs : List Nat}
theorem RowU.ty (h : RowU w base V rs) : ∀ b, V.ownBlock = some b → base ≤ b ∧ TyB w 28 b := by
  intro b hb
  rcases h.2 with ⟨rfl, _⟩ | ⟨g, cap, cur, rfl, hbg, hg, _⟩
  · simp [Value.ownBlock] at hb
  · simp [Value.ownBlock] at hb
    subst hb
    exact ⟨hbg, ⟨_, _, hg⟩⟩
theorem RowU.keep (h : RowU w base V rs) (hk : ∀ b, base ≤ b → b < w.heap.size → TyB w 28 b → w'.heap[b]? = w.heap[b]?) : RowU w' base V rs := by
  refine ⟨h.1, ?_⟩
  rcases h.2 with h6 | ⟨g, cap, cur, rfl, hBg, hg, rest⟩
  · exact Or.inl h6
  · exact Or.inr ⟨g, cap, cur, rfl, hBg, (hk g hBg (Array.getElem?_eq_some_iff.1 hg).1 ⟨_, _, hg⟩).trans hg, rest⟩
theorem RowU.later (h : RowU w base V rs) (hb : Below w.heap.size w w') : RowU w' base V rs := h.keep (fun b _ hlt _ => hb.block b hlt)
theorem RowU.set (h : RowU w base V rs) {A : Nat} {t : TypeId} (hA : TyB w t A) (ht : t ≠ 28) (j : Nat) (v : Value) : RowU (w.setCell ⟨A, j, none⟩ v) base V rs :=
  h.keep (fun b _ _ hb => Below.heap_setCell w ⟨A, j, none⟩ v b (fun e => by have e : b = A := e; subst e; exact ht (TyB.ne hA hb)))
theorem RowU.form (h : RowU w base V rs) : ∃ a c, V = .slice a rs.length c ∧ rs.length ≤ c ∧ c ≤ maxLen := by
  rcases h.2 with ⟨hv, hn⟩ | ⟨g, cap, cur, hv, hbg, hg, h1, h2, h3, h4⟩
  · exact ⟨none, 0, by rw [hv, hn], by omega, by decide⟩
  · exact ⟨_, _, hv, h1, h2⟩
end
theorem RowU.at {w : World} {base : Nat} {a : Option Addr} {n c : Nat} {rs : List Nat} (h : RowU w base (.slice a n c) rs) : n = rs.length ∧ UAt (fun b => base ≤ b) w a rs := by
  rcases h.2 with ⟨hv, hn⟩ | ⟨g, cap, cur, hv, hbg, hg, h1, h2, h3, h4⟩
  · cases hv
    exact ⟨hn.symm, Or.inl (List.length_eq_zero_iff.1 hn)⟩
  · cases hv
    refine ⟨rfl, Or.inr ⟨g, 0, rfl, hbg, fun j x hj => ?_⟩⟩
    have hlt := (List.getElem?_eq_some_iff.1 hj).1
    have e : (wds rs)[j]? = some (.int .u32 (x : Nat)) := by unfold wds; rw [List.getElem?_map, hj]; rfl
    rw [← h4, List.getElem?_take_of_lt (by omega)] at e
    simp only [World.cell?, hg, Nat.zero_add]
    simpa using e
theorem RowU.at2 {w : World} {base : Nat} {a : Option Addr} {n c : Nat} {rs : List Nat} (h : RowU w base (.slice a n c) rs) : UAt (fun b => base ≤ b ∧ TyB w 28 b) w a rs := by
  rcases h.at.2 with h1 | ⟨b, off, ha, hb, hc⟩
  · exact Or.inl h1
  · subst ha
    by_cases he : rs = []
    · exact Or.inl he
    · refine Or.inr ⟨b, off, rfl, ⟨hb, ?_⟩, hc⟩
      rcases h.2 with ⟨hv, _⟩ | ⟨g, cap, cur, hv, _, hg, _⟩
      · cases hv
      · cases hv
        exact ⟨_, _, hg⟩
theorem RowU.cell {w : World} {base g n c : Nat} {rs : List Nat} (h : RowU w base (.slice (some ⟨g, 0, none⟩) n c) rs) {i x : Nat} (hx : rs[i]? = some x) : w.cell? ⟨g, i, none⟩ = some (.int .u32 (x : Nat)) ∧ w.frozen? ⟨g, i, none⟩ = false := by
  refine ⟨?_, ?_⟩
  · rcases h.at.2 with h1 | ⟨b, off, hb, _, hc⟩
    · rw [h1] at hx; cases hx
    · rcases h.2 with ⟨hv, _⟩ | ⟨g', cap, cur, hv, hbg, hg, h1, h2, h3, h4⟩
      · cases hv
      · cases hv
        cases hb
        have := hc i x hx
        simpa using this
  · rcases h.2 with ⟨hv, _⟩ | ⟨g', cap, cur, hv, hbg, hg, _⟩
    · cases hv
    · cases hv
      simp [World.frozen?, hg]
theorem RowU.put {w : World} {base g n c : Nat} {rs : List Nat} (h : RowU w base (.slice (some ⟨g, 0, none⟩) n c) rs) (i x : Nat) : RowU (w.setCell ⟨g, i, none⟩ (.int .u32 (x : Nat))) base (.slice (some ⟨g, 0, none⟩) n c) (rs.set i x) := by
  refine ⟨by simp [wds], ?_⟩
  rcases h.2 with ⟨hv, _⟩ | ⟨g', cap, cur, hv, hbg, hg, h1, h2, h3, h4⟩
  · cases hv
  · cases hv
    refine Or.inr ⟨g, c, _, by simp, hbg, heap_set hg i _, by simpa using h1, h2, by simpa using h3, ?_⟩
    rw [Array.toList_setIfInBounds, List.take_set]
    have e : wds (rs.set i x) = (wds rs).set i (.int .u32 (x : Nat)) := by unfold wds; rw [List.map_set]
    rw [e, List.length_set, h4]
theorem madeCells_u32 (n : Nat) : (madeCells (Value.int .u32 0).cells (n * 1)).toList = wds (List.replicate n 0) := by
  apply List.ext_getElem?
  intro k
  simp [madeCells, wds, Value.cells]
  by_cases hk : k < n
  · simp [hk, Nat.mod_one]
  · simp [hk]
theorem wpList_make_u32 {w : World} {ops : Array Oper} {rest : List Oper} {o : Oper} {a : Act} {Q : Exit → Act → World → Prop} (hgd : o.guard = none) (l c : Operand)
    (ho : o.op = Op.makeSlice 23 l c) (base n : Nat) (hb : base ≤ w.heap.size) (hl : a.eval l = .int .i64 (n : Nat)) (hc : a.eval c = .int .i64 (n : Nat)) (hn : n ≤ 1000000)
    (h : ∀ w', RowU w' base (.slice (some ⟨w.heap.size, 0, none⟩) n n) (List.replicate n 0) → Below w.heap.size w w' → wpList Tryd.prog ops Q rest (a.put o.dst (.slice (some ⟨w.heap.size, 0, none⟩) n n)) w') : wpList Tryd.prog ops Q (o :: rest) a w := by
  obtain ⟨i0, hi, hz0, hz1, hz2⟩ := info_parts infoU
  refine wpList_make_full (P := Tryd.prog) w hgd l c 23 ho base 28 i0 (.int .u32 0) 1 Tryd.underlying23 hi hz0 hz1 .i64 .i64 (n : Nat) (n : Nat) n hl hc rfl rfl (by rw [hz2]; omega) (by simp only [maxLen]; omega) hb ?_
  intro w' h1 h2
  rw [madeCells_u32] at h1
  exact h w' (by unfold RowU; rw [List.length_replicate]; exact h1) ((Below.refl _ _).grown h2 (Nat.le_refl _) (fun k hk => by cases hk))
/-- a machine's block -/
def NFB (w : World) (R : Nat) (x : Nf) : Prop := w.heap[R]? = some (.cells #[.int .i64 x.S, .slice x.ea x.en x.ec, .slice x.ra x.rn x.rc] 25 (0, 0))
section
variable {w w' : World} {R : Nat} {x : Nf}
theorem NFB.lt (h : NFB w R x) : R < w.heap.size := (Array.getElem?_eq_some_iff.1 h).1
theorem NFB.later (h : NFB w R x) (hb : Below w.heap.size w w') : NFB w' R x := (hb.block R h.lt).trans h
theorem NFB.ty (h : NFB w R x) : TyB w 25 R := ⟨_, _, h⟩
theorem NFB.cells (h : NFB w R x) : w.cell? ⟨R, 0, none⟩ = some (.int .i64 x.S) ∧ w.cell? ⟨R, 1, none⟩ = some (.slice x.ea x.en x.ec) ∧ w.cell? ⟨R, 2, none⟩ = some (.slice x.ra x.rn x.rc) := by
  unfold NFB at h
  refine ⟨?_, ?_, ?_⟩ <;> simp [World.cell?, h]
theorem NFB.frozen (h : NFB w R x) (j : Nat) : w.frozen? ⟨R, j, none⟩ = false := by
  unfold NFB at h
  simp [World.frozen?, h]
end
theorem nfb_new (w : World) (x : Nf) : NFB (w.alloc (.cells #[.int .i64 x.S, .slice x.ea x.en x.ec, .slice x.ra x.rn x.rc] 25)) w.heap.size x := heap_alloc_new w _
def put3 (w : World) (R : Nat) (x : Nf) : World := ((w.setCell ⟨R, 0, none⟩ (.int .i64 x.S)).setCell ⟨R, 1, none⟩ (.slice x.ea x.en x.ec)).setCell ⟨R, 2, none⟩ (.slice x.ra x.rn x.rc)
theorem NFB.put3 {w : World} {R : Nat} {y : Nf} (h : NFB w R y) (x : Nf) : NFB (put3 w R x) R x := by
  have e := heap_set (heap_set (heap_set h 0 (.int .i64 x.S)) 1 (.slice x.ea x.en x.ec)) 2 (.slice x.ra x.rn x.rc)
  exact e
theorem heap_put3 (w : World) (R : Nat) (x : Nf) (k : Nat) (h : k ≠ R) : (put3 w R x).heap[k]? = w.heap[k]? := by
  unfold put3
  rw [Below.heap_setCell _ ⟨R, 2, none⟩ _ k h, Below.heap_setCell _ ⟨R, 1, none⟩ _ k h, Below.heap_setCell _ ⟨R, 0, none⟩ _ k h]
theorem below_put3 {w u : World} {b : Nat} (h : Below b w u) {R : Nat} (hR : b ≤ R) (x : Nf) : Below b w (put3 u R x) := ((h.setCell (p := ⟨R, 0, none⟩) hR _).setCell (p := ⟨R, 1, none⟩) hR _).setCell (p := ⟨R, 2, none⟩) hR _
theorem EAt.nth {X : Nat → Prop} {w : World} {a : Option Addr} {es : List Eg} (h : EAt X w a es) {i : Nat} {e : Eg} (hx : es[i]? = some e) : ∃ b off, a = some ⟨b, off, none⟩ ∧ w.cell? ⟨b, off + i * 7, none⟩ = some (.int .i64 e.k) ∧ w.cell? ⟨b, off + i * 7 + 1, none⟩ = some (.int .i64 e.f) ∧ w.cell? ⟨b, off + i * 7 + 2, none⟩ = some (.int .i64 e.t) ∧ w.cell? ⟨b, off + i * 7 + 3, none⟩ = some (.int .u64 (Oct.word e.s 0 : Nat)) ∧ w.cell? ⟨b, off + i * 7 + 4, none⟩ = some (.int .u64 (Oct.word e.s 1 : Nat)) ∧ w.cell? ⟨b, off + i * 7 + 5, none⟩ = some (.int .u64 (Oct.word e.s 2 : Nat)) ∧ w.cell? ⟨b, off + i * 7 + 6, none⟩ = some (.int .u64 (Oct.word e.s 3 : Nat)) := by
  rcases h with h | ⟨b, off, ha, _, hc⟩
  · subst h; simp at hx
  · rw [Nat.mul_comm i 7]
    refine ⟨b, off, ha, ?_, ?_, ?_, ?_, ?_, ?_, ?_⟩
    · exact hc _ _ (flatE_at hx (m := 0) (by decide))
    · rw [Nat.add_assoc]; exact hc _ _ (flatE_at hx (m := 1) (by decide))
    · rw [Nat.add_assoc]; exact hc _ _ (flatE_at hx (m := 2) (by decide))
    · rw [Nat.add_assoc]; exact hc _ _ (flatE_at hx (m := 3) (by decide))
    · rw [Nat.add_assoc]; exact hc _ _ (flatE_at hx (m := 4) (by decide))
    · rw [Nat.add_assoc]; exact hc _ _ (flatE_at hx (m := 5) (by decide))
    · rw [Nat.add_assoc]; exact hc _ _ (flatE_at hx (m := 6) (by decide))
theorem UAt.nth {X : Nat → Prop} {w : World} {a : Option Addr} {rs : List Nat} (h : UAt X w a rs) {i x : Nat} (hx : rs[i]? = some x) : ∃ b off, a = some ⟨b, off, none⟩ ∧ w.cell? ⟨b, off + i, none⟩ = some (.int .u32 (x : Nat)) := by
  rcases h with h | ⟨b, off, ha, _, hc⟩
  · subst h; simp at hx
  · exact ⟨b, off, ha, hc i x hx⟩
theorem eq4_any (d : Nat) (a b c e : Int) (w : World) : (Op.equalIn (d + 2) 32 (.agg #[.int .u64 a, .int .u64 b, .int .u64 c, .int .u64 e]) (.agg #[.int .u64 a, .int .u64 b, .int .u64 c, .int .u64 e])).run Tryd.prog w = .ok true w := by
  obtain ⟨i0, hi, hz0, hz1, hz2⟩ := info_parts info30
  have h1 : ∀ x : Int, (Op.equalIn (d + 1) 30 (.int .u64 x) (.int .u64 x)).run Tryd.prog w = .ok true w := fun x => by
    rw [run_equalIn_int w d 30 .u64 .u64 x x Tryd.underlying30]; simp
  rw [Op.equalIn]
  simp [run_underlying Tryd.underlying32, sizeOf, typeInfo, hi, hz1, part, Tryd.isAgg30, Std.Legacy.Range.forIn_eq_forIn_range', Std.Legacy.Range.size, List.range'_succ, List.range'_zero, h1]
theorem infoSet : (Tryd.prog.info? 32).map (fun i => (i.zero, i.size, i.bytes)) = some (some (.agg #[.int .u64 0, .int .u64 0, .int .u64 0, .int .u64 0]), 4, 32) := by kernel_rfl
set_option maxRecDepth 4000 in
theorem eq7_same (k f t a b c e : Int) (w : World) : (Op.equalIn 10000 34 (.agg #[.int .i64 k, .int .i64 f, .int .i64 t, .int .u64 a, .int .u64 b, .int .u64 c, .int .u64 e]) (.agg #[.int .i64 k, .int .i64 f, .int .i64 t, .int .u64 a, .int .u64 b, .int .u64 c, .int .u64 e])).run Tryd.prog w = .ok true w := by
  have h1 : ∀ x : Int, (Op.equalIn 9999 3 (.int .i64 x) (.int .i64 x)).run Tryd.prog w = .ok true w := fun x => by
    rw [run_equalIn_int w 9998 3 .i64 .i64 x x Tryd.underlying3]; simp
  have h4 := eq4_any 9997 a b c e w
  rw [show (10000 : Nat) = 9999 + 1 from rfl, run_equalIn_struct w 9999 34 _ _ (by kernel_rfl) (by kernel_rfl)]
  have hf : (Tryd.prog.fieldsOf 34).toList.map (fun f => (f.name, f.type, f.offset)) = [("Kind", 3, 0), ("From", 3, 1), ("To", 3, 2), ("Set", 32, 3)] := by kernel_rfl
  generalize (Tryd.prog.fieldsOf 34).toList = fs at hf
  obtain ⟨i0, hi, hz0, hz1, hz2⟩ := info_parts infoSet
  rcases fs with _ | ⟨f1, _ | ⟨f2, _ | ⟨f3, _ | ⟨f4, _ | ⟨f5, fs⟩⟩⟩⟩⟩ <;> simp only [List.map_cons, List.map_nil, List.cons.injEq, Prod.mk.injEq, and_true, reduceCtorEq, and_false] at hf
  obtain ⟨⟨n1, t1, o1⟩, ⟨n2, t2, o2⟩, ⟨n3, t3, o3⟩, ⟨n4, t4, o4⟩⟩ := hf
  simp only [Op.eqFields, n1, n2, n3, n4, t1, t2, t3, t4, o1, o2, o3, o4]
  simp [part, Tryd.isAgg3, Tryd.isAgg32, sizeOf, typeInfo, hi, hz1, h1, h4]
/-- an edge that fits -/
def okE (S : Int) (e : Eg) : Bool := !(decide (e.k < 1) || decide (4 < e.k) || decide (e.f < 0) || decide (S ≤ e.f) || decide (e.t < 0) || decide (S ≤ e.t) || (!decide (e.k = 2) && !noSet e.s))
/-- a machine that fits -/
def rightOf (M : Ma) : Bool := decide (1 ≤ M.S) && decide ((M.rs.length : Int) = M.S) && M.es.all (okE M.S)
theorem right_no {M : Ma} {j : Nat} {e : Eg} (h : M.es[j]? = some e) (ho : okE M.S e = false) : rightOf M = false := by
  unfold rightOf
  rw [Bool.and_eq_false_iff]
  refine Or.inr ?_
  rw [List.all_eq_false]
  exact ⟨e, List.mem_of_getElem? h, by simp [ho]⟩
set_option maxRecDepth 4000 in
set_option maxHeartbeats 16000000 in
theorem right_any {X : Nat → Prop} {M : Ma} {x : Nf} (w : World) (hx : MaAt X w M x) (he : M.es.length ≤ 35184372088832) : Calls Tryd.prog 38 #[x.val] w fun e w' => e = .returned (.bool (rightOf M)) ∧ Below w.heap.size w w' := by
  have kk : Below w.heap.size w (w.alloc (.cells #[.int .i64 x.S, .slice x.ea x.en x.ec, .slice x.ra x.rn x.rc] 25)) := (Below.refl _ _).alloc (Nat.le_refl _) _
  have HNX : Hid (NFB (w.alloc (.cells #[.int .i64 x.S, .slice x.ea x.en x.ec, .slice x.ra x.rn x.rc] 25)) w.heap.size x) := nfb_new w x
  have HB : Hid (Below w.heap.size w (w.alloc (.cells #[.int .i64 x.S, .slice x.ea x.en x.ec, .slice x.ra x.rn x.rc] 25))) := kk
  obtain ⟨w2, hw2⟩ : ∃ w2, w.alloc (.cells #[.int .i64 x.S, .slice x.ea x.en x.ec, .slice x.ra x.rn x.rc] 25) = w2 := ⟨_, rfl⟩
  rw [hw2] at HNX HB
  obtain ⟨A, hA⟩ : ∃ A, w.heap.size = A := ⟨_, rfl⟩
  rw [hA] at HNX
  have HW2 : Hid (w.alloc (.cells #[.int .i64 x.S, .slice x.ea x.en x.ec, .slice x.ra x.rn x.rc] 25) = w2) := hw2
  have HAA : Hid (w.heap.size = A) := hA
  have HX : Hid (MaAt X w M x) := hx
  clear hw2 hA kk hx
  obtain ⟨xS, xa, xn, xc, xra, xrn, xrc⟩ := x
  have e1 : xS = M.S := HX.out.s
  have e3 : xn = M.es.length := HX.out.n
  have e5 : xrn = M.rs.length := HX.out.r
  subst e1 e3 e5
  obtain ⟨n, hn⟩ : ∃ n, M.es.length = n := ⟨_, rfl⟩
  obtain ⟨rn, hrn⟩ : ∃ rn, M.rs.length = rn := ⟨_, rfl⟩
  have HE : Hid (EAt X w xa M.es) := HX.out.e
  have HN : Hid (M.es.length = n ∧ M.rs.length = rn) := ⟨hn, hrn⟩
  rw [hn] at HNX HW2 he
  rw [hrn] at HNX HW2
  unfold Nf.val
  simp only at HW2 ⊢
  rw [hn, hrn]
  obtain ⟨S, hS⟩ : ∃ S, M.S = S := ⟨_, rfl⟩
  rw [hS] at HNX HW2 ⊢
  have HS : Hid (M.S = S) := hS
  have HRO : Hid (rightOf M = (decide (1 ≤ S) && decide ((rn : Int) = S) && M.es.all (okE S))) := by show _ = _; unfold rightOf; rw [hS, hrn]
  clear hn hrn HX hS
  go_enter Tryd.func38, Tryd.ntmps38
  go_upto_region 1 with fail
  rw [HW2.out, HAA.out]
  clear HW2
  obtain ⟨x0, x1, x2⟩ := HNX.out.cells
  simp only at x0 x1 x2
  by_cases hS1 : S < 1
  · have HNo : Hid (rightOf M = false) := by show _ = _; rw [HRO.out, show decide (1 ≤ S) = false by simp; omega]; rfl
    go_wp2
    go_ret
    exact ⟨by rw [HNo.out]; rfl, HB.out⟩
  by_cases hS2 : (rn : Int) = S
  case neg =>
    have hS3 : ((rn : Int) != S) = true := by simp [hS2]
    have hS4 : ((rn : Int) == S) = false := by simp [hS2]
    have HNo : Hid (rightOf M = false) := by show _ = _; rw [HRO.out, show decide ((rn : Int) = S) = false by simp [hS2]]; simp
    go_wp2
    go_ret
    exact ⟨by rw [HNo.out]; rfl, HB.out⟩
  case pos =>
  have hS3 : ((rn : Int) != S) = false := by simp [hS2]
  have hS4 : ((rn : Int) == S) = true := by simp [hS2]
  have hd1 : decide (S < 1) = false := by simp; omega
  have HR2 : Hid (rightOf M = M.es.all (okE S)) := by show _ = _; rw [HRO.out, show decide (1 ≤ S) = true by simp; omega, show decide ((rn : Int) = S) = true by simp [hS2]]; simp
  clear HRO
  have HSr : Hid ((rn : Int) = S) := hS2
  clear hS2
  go_wp2_with fail
  clear x0 x1 x2
  go_loopw [3] (fun i u => ∃ j : Nat, i = .int .i64 (j : Nat) ∧ j ≤ n ∧ Hid ((M.es.take j).all (okE S) = true) ∧ Hid (Below w2.heap.size w2 u)) (fun i _ => n - (intOf i).toNat)
  case atStart => exact ⟨0, rfl, Nat.zero_le _, by show _ = _; simp, Below.refl _ _⟩
  case round =>
    obtain ⟨j, rfl, hjn, HAL, HBj⟩ := hrel
    obtain ⟨x0, x1, x2⟩ := (HNX.out.later HBj.out).cells
    simp only at x0 x1 x2
    by_cases hlt : j < n
    · have hlt' : (j : Int) < (n : Int) := by omega
      obtain ⟨e, hee⟩ : ∃ e, M.es[j]? = some e := ⟨_, List.getElem?_eq_getElem (by rw [HN.out.1]; exact hlt)⟩
      have HBw : Hid (Below w.heap.size w wr) := below_step HB.out HBj.out
      have HE2 := HE.out
      obtain ⟨b, off, rfl, p0, p1, p2, p3, p4, p5, p6⟩ := (HE2.keep (w' := wr) (fun _ h _ => h) (fun k _ hk => HBw.out.block k hk)).nth hee
      have HEE : Hid (M.es[j]? = some e) := hee
      clear hee HE2
      have kk : Below wr.heap.size wr (wr.alloc (.cells #[.int .i64 e.k, .int .i64 e.f, .int .i64 e.t, .int .u64 (Oct.word e.s 0 : Nat), .int .u64 (Oct.word e.s 1 : Nat), .int .u64 (Oct.word e.s 2 : Nat), .int .u64 (Oct.word e.s 3 : Nat)] 34)) := (Below.refl _ _).alloc (Nat.le_refl _) _
      have HK4 : Hid (Below w2.heap.size w2 (wr.alloc (.cells #[.int .i64 e.k, .int .i64 e.f, .int .i64 e.t, .int .u64 (Oct.word e.s 0 : Nat), .int .u64 (Oct.word e.s 1 : Nat), .int .u64 (Oct.word e.s 2 : Nat), .int .u64 (Oct.word e.s 3 : Nat)] 34))) := below_step HBj.out kk
      have HG4 : Hid ((wr.alloc (.cells #[.int .i64 e.k, .int .i64 e.f, .int .i64 e.t, .int .u64 (Oct.word e.s 0 : Nat), .int .u64 (Oct.word e.s 1 : Nat), .int .u64 (Oct.word e.s 2 : Nat), .int .u64 (Oct.word e.s 3 : Nat)] 34)).heap[wr.heap.size]? = some (.cells #[.int .i64 e.k, .int .i64 e.f, .int .i64 e.t, .int .u64 (Oct.word e.s 0 : Nat), .int .u64 (Oct.word e.s 1 : Nat), .int .u64 (Oct.word e.s 2 : Nat), .int .u64 (Oct.word e.s 3 : Nat)] 34 (0, 0))) := heap_alloc_new wr _
      clear kk
      go_upto_region 7 with fail
      obtain ⟨w4, hw4⟩ : ∃ w4, wr.alloc (.cells #[.int .i64 e.k, .int .i64 e.f, .int .i64 e.t, .int .u64 (Oct.word e.s 0 : Nat), .int .u64 (Oct.word e.s 1 : Nat), .int .u64 (Oct.word e.s 2 : Nat), .int .u64 (Oct.word e.s 3 : Nat)] 34) = w4 := ⟨_, rfl⟩
      obtain ⟨G, hG⟩ : ∃ G, wr.heap.size = G := ⟨_, rfl⟩
      rw [hw4] at HK4 HG4 ⊢
      rw [hG] at HG4 ⊢
      clear hw4 hG p0 p1 p2 p3 p4 p5 p6 x0 x1 x2
      have HB4 : Hid (Below w.heap.size w w4) := below_step HB.out HK4.out
      obtain ⟨x0, x1, x2⟩ := (HNX.out.later HK4.out).cells
      simp only at x0 x1 x2
      have g0 : w4.cell? ⟨G, 0, none⟩ = some (.int .i64 e.k) := by simp [World.cell?, HG4.out]
      have g1 : w4.cell? ⟨G, 1, none⟩ = some (.int .i64 e.f) := by simp [World.cell?, HG4.out]
      have g2 : w4.cell? ⟨G, 2, none⟩ = some (.int .i64 e.t) := by simp [World.cell?, HG4.out]
      have g3 : w4.cell? ⟨G, 3, none⟩ = some (.int .u64 (Oct.word e.s 0 : Nat)) := by simp [World.cell?, HG4.out]
      have g4 : w4.cell? ⟨G, 4, none⟩ = some (.int .u64 (Oct.word e.s 1 : Nat)) := by simp [World.cell?, HG4.out]
      have g5 : w4.cell? ⟨G, 5, none⟩ = some (.int .u64 (Oct.word e.s 2 : Nat)) := by simp [World.cell?, HG4.out]
      have g6 : w4.cell? ⟨G, 6, none⟩ = some (.int .u64 (Oct.word e.s 3 : Nat)) := by simp [World.cell?, HG4.out]
      have hSM : M.S = S := HS.out
      have hq := eq4_zero (Oct.word e.s 0) (Oct.word e.s 1) (Oct.word e.s 2) (Oct.word e.s 3) w4
      rw [show (decide (Oct.word e.s 0 = 0) && decide (Oct.word e.s 1 = 0) && decide (Oct.word e.s 2 = 0) && decide (Oct.word e.s 3 = 0)) = noSet e.s from rfl] at hq
      obtain ⟨z, hz⟩ : ∃ z, noSet e.s = z := ⟨_, rfl⟩
      rw [hz] at hq
      have HZ : Hid (noSet e.s = z) := hz
      have HSM : Hid (M.S = S) := hSM
      clear hz hSM
      by_cases h1 : e.k < 1
      · have HNo : Hid (rightOf M = false) := right_no HEE.out (by unfold okE; rw [HSM.out]; simp; omega)
        go_wp2
        go_ret
        exact ⟨by rw [HNo.out]; rfl, HB4.out⟩
      by_cases h2 : 4 < e.k
      · have HNo : Hid (rightOf M = false) := right_no HEE.out (by unfold okE; rw [HSM.out]; simp; omega)
        go_wp2
        go_ret
        exact ⟨by rw [HNo.out]; rfl, HB4.out⟩
      by_cases h3 : e.f < 0
      · have HNo : Hid (rightOf M = false) := right_no HEE.out (by unfold okE; rw [HSM.out]; simp; omega)
        go_wp2
        go_ret
        exact ⟨by rw [HNo.out]; rfl, HB4.out⟩
      by_cases h4 : S ≤ e.f
      · have HNo : Hid (rightOf M = false) := right_no HEE.out (by unfold okE; rw [HSM.out]; simp; omega)
        go_wp2
        go_ret
        exact ⟨by rw [HNo.out]; rfl, HB4.out⟩
      by_cases h5 : e.t < 0
      · have HNo : Hid (rightOf M = false) := right_no HEE.out (by unfold okE; rw [HSM.out]; simp; omega)
        go_wp2
        go_ret
        exact ⟨by rw [HNo.out]; rfl, HB4.out⟩
      by_cases h6 : S ≤ e.t
      · have HNo : Hid (rightOf M = false) := right_no HEE.out (by unfold okE; rw [HSM.out]; simp; omega)
        go_wp2
        go_ret
        exact ⟨by rw [HNo.out]; rfl, HB4.out⟩
      by_cases h7 : e.k = 2
      · have HOK : Hid (okE S e = true) := by show _ = _; unfold okE; simp [h7]; omega
        have h7a : (e.k != 2) = false := by simp [h7]
        have h7b : (e.k == 2) = true := by simp [h7]
        have HA2 : Hid ((M.es.take (j + 1)).all (okE S) = true) := by show _ = _; rw [List.take_add_one, HEE.out]; simp only [Option.toList_some, List.all_append, HAL.out, List.all_cons, HOK.out, List.all_nil, Bool.and_self]
        go_wp2
        go_roundw
        case rel => exact ⟨j + 1, by go_num, by omega, HA2, HK4⟩
        case measure => simp [intOf]; omega
      have h7a : (e.k != 2) = true := by simp [h7]
      have h7b : (e.k == 2) = false := by simp [h7]
      cases z with
      | false =>
        have HNo : Hid (rightOf M = false) := right_no HEE.out (by unfold okE; rw [HZ.out]; simp [h7])
        go_wp2
        go_ret
        exact ⟨by rw [HNo.out]; rfl, HB4.out⟩
      | true =>
        have HOK : Hid (okE S e = true) := by show _ = _; unfold okE; rw [HZ.out]; simp; omega
        have HA2 : Hid ((M.es.take (j + 1)).all (okE S) = true) := by show _ = _; rw [List.take_add_one, HEE.out]; simp only [Option.toList_some, List.all_append, HAL.out, List.all_cons, HOK.out, List.all_nil, Bool.and_self]
        go_wp2
        go_roundw
        case rel => exact ⟨j + 1, by go_num, by omega, HA2, HK4⟩
        case measure => simp [intOf]; omega
    · have hlt' : ¬ (j : Int) < (n : Int) := by omega
      have HBw : Hid (Below w.heap.size w wr) := below_step HB.out HBj.out
      have HYes : Hid (rightOf M = true) := by
        show _ = _
        rw [HR2.out, ← HAL.out, List.take_of_length_le (by rw [HN.out.1]; omega)]
      go_wp2
      go_ret
      exact ⟨by rw [HYes.out]; rfl, HBw.out⟩
theorem right_parts {M : Ma} (h : rightOf M = true) : 1 ≤ M.S ∧ (M.rs.length : Int) = M.S ∧ ∀ e ∈ M.es, 0 ≤ e.f ∧ e.f < M.S ∧ 0 ≤ e.t ∧ e.t < M.S := by
  unfold rightOf at h
  simp only [Bool.and_eq_true, decide_eq_true_eq, List.all_eq_true] at h
  refine ⟨h.1.1, h.1.2, fun e he => ?_⟩
  have := h.2 e he
  unfold okE at this
  simp at this
  omega
theorem wpList_append_edge {w : World} {ops : Array Oper} {rest : List Oper} {o : Oper} {a : Act} {Q : Exit → Act → World → Prop} (hgd : o.guard = none) (s y : Operand)
    (ho : o.op = .call { callee := .builtin .append, args := #[s, y], argTypes := #[22, 22] })
    (base n : Nat) (V : Value) (es : List Eg) (hs : a.eval s = V) (hlen : es.length = n) (hn : RowE w base V es) (ad : Addr) (cap : Nat) (e : Eg) (hy : a.eval y = .slice (some ad) 1 cap) (hc : ∀ j v, e.cells[j]? = some v → w.cell? (ad.add j) = some v) (hl : n ≤ 2513169434900) (hb : base ≤ w.heap.size)
    (h : ∀ g cap' w', RowE w' base (.slice (some ⟨g, 0, none⟩) (n + 1) cap') (es ++ [e]) → w.grownBy w' V.ownBlock → wpList Tryd.prog ops Q rest (a.put o.dst (.slice (some ⟨g, 0, none⟩) (n + 1) cap')) w') : wpList Tryd.prog ops Q (o :: rest) a w := by
  refine wpList_plain hgd fun K hK => ?_
  subst hlen
  obtain ⟨i0, hi, hz0, hz1, hz2⟩ := info_parts infoE
  obtain ⟨g, cap', w', hr, ho2, hg, hgg, hlt⟩ := run_append_lies (P := Tryd.prog) w 22 o.type base 34 i0 _ 7 56 Tryd.underlying22 hi hz0 hz1 hz2 rfl (by decide) V es.length _ hn ad 1 cap e.cells rfl hc
    (by have := flatE_one [e]; simpa [flatE] using this) (by decide) (by simp only [maxLen]; omega) (by omega) hb w.heap.size rfl
  unfold Oper.wp execOp
  simp only [ho, resolve, invoke, builtin, Sem.run_bind, Sem.run_pure, Result.andThen_ok, List.map_toArray, List.map_cons, List.map_nil, hs, hy, hr]
  exact hK _ _ (h g cap' w' (rowE_snoc rfl ho2) hg)
theorem wpList_append_words {w : World} {ops : Array Oper} {rest : List Oper} {o : Oper} {a : Act} {Q : Exit → Act → World → Prop} (hgd : o.guard = none) (s y : Operand)
    (ho : o.op = .call { callee := .builtin .append, args := #[s, y], argTypes := #[23, 23] })
    (base n m : Nat) (V : Value) (rs ts : List Nat) (hs : a.eval s = V) (hlen : rs.length = n) (hn : RowU w base V rs) (b off : Nat) (cap : Nat) (hy : a.eval y = .slice (some ⟨b, off, none⟩) m cap) (hm : ts.length = m) (hm0 : 0 < m) (hc : ∀ j x, ts[j]? = some x → w.cell? ⟨b, off + j, none⟩ = some (.int .u32 (x : Nat))) (hl : n + m ≤ 35184372088832) (hb : base ≤ w.heap.size)
    (h : ∀ g cap' w', RowU w' base (.slice (some ⟨g, 0, none⟩) (n + m) cap') (rs ++ ts) → w.grownBy w' V.ownBlock → wpList Tryd.prog ops Q rest (a.put o.dst (.slice (some ⟨g, 0, none⟩) (n + m) cap')) w') : wpList Tryd.prog ops Q (o :: rest) a w := by
  refine wpList_plain hgd fun K hK => ?_
  subst hlen hm
  obtain ⟨i0, hi, hz0, hz1, hz2⟩ := info_parts infoU
  obtain ⟨g, cap', w', hr, ho2, hg, hgg, hlt⟩ := run_append_lies (P := Tryd.prog) w 23 o.type base 28 i0 _ 1 4 Tryd.underlying23 hi hz0 hz1 hz2 rfl (by decide) V rs.length _ hn ⟨b, off, none⟩ ts.length cap (wds ts) (by rw [wds_length, Nat.mul_one])
    (fun j v hj => by
      unfold wds at hj
      rw [List.getElem?_map] at hj
      cases hx : ts[j]? with
      | none => rw [hx] at hj; cases hj
      | some x =>
        rw [hx] at hj
        cases hj
        rw [Go.WideShapes.add_plain]
        exact hc j x hx) (fun v hv => by
      unfold wds at hv
      obtain ⟨x, _, rfl⟩ := List.mem_map.1 hv
      rfl) hm0 (by simp only [maxLen]; omega) (by omega) hb w.heap.size rfl
  unfold Oper.wp execOp
  simp only [ho, resolve, invoke, builtin, Sem.run_bind, Sem.run_pure, Result.andThen_ok, List.map_toArray, List.map_cons, List.map_nil, hs, hy, hr]
  refine hK _ _ (h g cap' w' ?_ hg)
  unfold RowU
  rw [List.length_append]
  have e : wds (rs ++ ts) = wds rs ++ wds ts := by simp [wds]
  rw [e]
  exact ho2
def bls (bs : List Bool) : List Value := bs.map Value.bool
theorem bls_length (bs : List Bool) : (bls bs).length = bs.length := List.length_map _
def RowB (w : World) (base : Nat) (V : Value) (bs : List Bool) : Prop := w.ownsRow base 4 1 V bs.length (bls bs)
theorem infoB : (Tryd.prog.info? 4).map (fun i => (i.zero, i.size, i.bytes)) = some (some (.bool false), 1, 1) := by kernel_rfl
section
variable {w w' : World} {base g n c : Nat} {bs : List Bool}
theorem RowB.cell (h : RowB w base (.slice (some ⟨g, 0, none⟩) n c) bs) {i : Nat} {x : Bool} (hx : bs[i]? = some x) : w.cell? ⟨g, i, none⟩ = some (.bool x) ∧ w.frozen? ⟨g, i, none⟩ = false := by
  have hlt := (List.getElem?_eq_some_iff.1 hx).1
  rcases h.2 with ⟨hv, _⟩ | ⟨g', cap, cur, hv, hbg, hg, h1, h2, h3, h4⟩
  · cases hv
  · cases hv
    have e : (bls bs)[i]? = some (.bool x) := by unfold bls; rw [List.getElem?_map, hx]; rfl
    rw [← h4, List.getElem?_take_of_lt (by omega)] at e
    refine ⟨?_, by simp [World.frozen?, hg]⟩
    simp only [World.cell?, hg]
    simpa using e
theorem RowB.put (h : RowB w base (.slice (some ⟨g, 0, none⟩) n c) bs) (i : Nat) (x : Bool) : RowB (w.setCell ⟨g, i, none⟩ (.bool x)) base (.slice (some ⟨g, 0, none⟩) n c) (bs.set i x) := by
  refine ⟨by simp [bls], ?_⟩
  rcases h.2 with ⟨hv, _⟩ | ⟨g', cap, cur, hv, hbg, hg, h1, h2, h3, h4⟩
  · cases hv
  · cases hv
    refine Or.inr ⟨g, c, _, by simp, hbg, heap_set hg i _, by simpa using h1, h2, by simpa using h3, ?_⟩
    rw [Array.toList_setIfInBounds, List.take_set]
    have e : bls (bs.set i x) = (bls bs).set i (.bool x) := by unfold bls; rw [List.map_set]
    rw [e, List.length_set, h4]
theorem RowB.same (h : RowB w base (.slice (some ⟨g, 0, none⟩) n c) bs) (e : w'.heap[g]? = w.heap[g]?) : RowB w' base (.slice (some ⟨g, 0, none⟩) n c) bs := by
  refine ⟨h.1, ?_⟩
  rcases h.2 with ⟨hv, _⟩ | ⟨g', cap, cur, hv, hbg, hg, rest⟩
  · cases hv
  · cases hv
    exact Or.inr ⟨g, c, cur, rfl, hbg, e.trans hg, rest⟩
theorem RowB.lt (h : RowB w base (.slice (some ⟨g, 0, none⟩) n c) bs) : g < w.heap.size ∧ n = bs.length ∧ base ≤ g := by
  rcases h.2 with ⟨hv, _⟩ | ⟨g', cap, cur, hv, hbg, hg, _⟩
  · cases hv
  · cases hv
    exact ⟨(Array.getElem?_eq_some_iff.1 hg).1, rfl, hbg⟩
theorem RowB.ty (h : RowB w base (.slice (some ⟨g, 0, none⟩) n c) bs) : TyB w 4 g := by
  rcases h.2 with ⟨hv, _⟩ | ⟨g', cap, cur, hv, hbg, hg, _⟩
  · cases hv
  · cases hv
    exact ⟨_, _, hg⟩
end
/-- a move without a byte -/
def moves (b e : Bool) (x : Eg) : Bool := decide (x.k = 1) || (decide (x.k = 3) && b) || (decide (x.k = 4) && e)
def at_ (l : List Bool) (i : Int) : Bool := (l[i.toNat]?).getD false
/-- closed under such moves -/
def Closed (es : List Eg) (b e : Bool) (l : List Bool) : Prop := ∀ x ∈ es, moves b e x = true → at_ l x.f = true → at_ l x.t = true
def Sub (l m : List Bool) : Prop := l.length = m.length ∧ ∀ i : Nat, (l[i]?).getD false = true → (m[i]?).getD false = true
/-- THE CLOSURE of a set of states: the least that is closed. -/
structure Clo (es : List Eg) (b e : Bool) (l m : List Bool) : Prop where
  sub : Sub l m
  closed : Closed es b e m
  least : ∀ k, Sub l k → Closed es b e k → Sub m k
theorem Sub.refl (l : List Bool) : Sub l l := ⟨rfl, fun _ h => h⟩
theorem Sub.trans {l m k : List Bool} (h : Sub l m) (h2 : Sub m k) : Sub l k := ⟨h.1.trans h2.1, fun i hi => h2.2 i (h.2 i hi)⟩
def isF : Value → Bool
  | .bool false => true
  | _ => false
def tv : Value → Nat
  | .bool true => 1
  | _ => 0
def cfw (u : World) (g n : Nat) : Nat := match u.heap[g]? with
  | some (.cells cur _ _) => (cur.toList.take n).countP isF
  | _ => 0
theorem countP_bls (bs : List Bool) : (bls bs).countP isF = bs.count false := by
  induction bs with
  | nil => rfl
  | cons x r ih =>
    simp only [bls, List.map_cons, List.countP_cons, List.count_cons] at ih ⊢
    rw [ih]
    cases x <;> simp [isF]
theorem RowB.cf {w : World} {base g n c : Nat} {bs : List Bool} (h : RowB w base (.slice (some ⟨g, 0, none⟩) n c) bs) : cfw w g n = bs.count false := by
  have hn := h.lt.2.1
  rcases h.2 with ⟨hv, _⟩ | ⟨g', cap, cur, hv, hbg, hg, h1, h2, h3, h4⟩
  · cases hv
  · cases hv
    unfold cfw
    rw [hg]
    simp only
    rw [← countP_bls, ← h4, Nat.mul_one]
theorem closed_snoc {es : List Eg} {b e : Bool} {l : List Bool} {k : Nat} {y : Eg} (h : Closed (es.take k) b e l) (hy : es[k]? = some y) (hm : moves b e y = true → at_ l y.f = true → at_ l y.t = true) : Closed (es.take (k + 1)) b e l := by
  intro z hz
  rw [List.take_add_one, hy] at hz
  rcases List.mem_append.1 hz with hz | hz
  · exact h z hz
  · simp at hz
    subst hz
    exact hm
def orFrom : Nat → List Bool → List Nat → Nat
  | r, b :: bs, x :: xs => orFrom (if b then r ||| x else r) bs xs
  | r, _, _ => r
/-- an edge that takes a byte -/
def takesB (b : Nat) (cl : List Bool) (y : Eg) : Bool := decide (y.k = 2) && at_ cl y.f && y.s b
def nexts (b : Nat) (cl : List Bool) : List Eg → List Bool → List Bool
  | [], nx => nx
  | y :: es, nx => nexts b cl es (if takesB b cl y then nx.set y.t.toNat true else nx)
theorem madeCells_bool (n : Nat) : (madeCells (Value.bool false).cells (n * 1)).toList = bls (List.replicate n false) := by
  apply List.ext_getElem?
  intro k
  simp [madeCells, bls, Value.cells]
  by_cases hk : k < n
  · simp [hk, Nat.mod_one]
  · simp [hk]
theorem wpList_make_bool {w : World} {ops : Array Oper} {rest : List Oper} {o : Oper} {a : Act} {Q : Exit → Act → World → Prop} (hgd : o.guard = none) (l c : Operand)
    (ho : o.op = Op.makeSlice 79 l c) (base n : Nat) (hb : base ≤ w.heap.size) (hl : a.eval l = .int .i64 (n : Nat)) (hc : a.eval c = .int .i64 (n : Nat)) (hn : n ≤ 35184372088832)
    (h : ∀ w', RowB w' base (.slice (some ⟨w.heap.size, 0, none⟩) n n) (List.replicate n false) → Below w.heap.size w w' → wpList Tryd.prog ops Q rest (a.put o.dst (.slice (some ⟨w.heap.size, 0, none⟩) n n)) w') : wpList Tryd.prog ops Q (o :: rest) a w := by
  obtain ⟨i0, hi, hz0, hz1, hz2⟩ := info_parts infoB
  refine wpList_make_full (P := Tryd.prog) w hgd l c 79 ho base 4 i0 (.bool false) 1 Tryd.underlying79 hi hz0 hz1 .i64 .i64 (n : Nat) (n : Nat) n hl hc rfl rfl (by rw [hz2]; omega) (by simp only [maxLen]; omega) hb ?_
  intro w' h1 h2
  rw [madeCells_bool] at h1
  exact h w' (by unfold RowB; rw [List.length_replicate]; exact h1) ((Below.refl _ _).grown h2 (Nat.le_refl _) (fun k hk => by cases hk))
theorem or_lt32 {a b : Nat} (ha : a < 4294967296) (hb : b < 4294967296) : a ||| b < 4294967296 := Nat.or_lt_two_pow (n := 32) ha hb
def Eg.val (e : Eg) : Value := .agg #[.int .i64 e.k, .int .i64 e.f, .int .i64 e.t, .int .u64 (Oct.word e.s 0 : Nat), .int .u64 (Oct.word e.s 1 : Nat), .int .u64 (Oct.word e.s 2 : Nat), .int .u64 (Oct.word e.s 3 : Nat)]
section
variable {P : Program} {ops : Array Oper} {Q : Exit → Act → World → Prop}
/-- each operation behind n waits for the one ahead of it -/
def linked (ops : Array Oper) (n : Nat) : Bool := (List.range ops.size).all fun j => decide (j ≤ n) || match ops[j]? with
  | some o => o.after.any fun e => e.on == j - 1 && Region.binds .any e
  | none => false
theorem linked_at {n j : Nat} {o : Oper} (h : linked ops n = true) (ho : ops[j]? = some o) (hj : n < j) : ∃ e ∈ o.after, e.on = j - 1 ∧ Region.binds .any e = true := by
  have h1 := List.all_eq_true.1 h j (List.mem_range.2 (Array.getElem?_eq_some_iff.1 ho).1)
  rw [Bool.or_eq_true] at h1
  rcases h1 with h1 | h1
  · have := of_decide_eq_true h1; omega
  · rw [ho] at h1
    have h3 : (o.after.any fun e => e.on == j - 1 && Region.binds .any e) = true := h1
    rw [Array.any_eq_true'] at h3
    obtain ⟨x, hx, h4⟩ := h3
    rw [Bool.and_eq_true] at h4
    exact ⟨x, hx, eq_of_beq h4.1, h4.2⟩
/-- it reads, and writes its slot -/
def Got (r : Value → Prop) (o : Oper) (a : Act) (w : World) : Act → World → Prop := fun a' w' => ∃ v, a' = a.put o.dst v ∧ w' = w ∧ r v
section
variable {P : Program} {ops : Array Oper} {Q : Exit → Act → World → Prop}
/-- operation lim i of the chain waits for operation i -/
def held (ops : Array Oper) (n : Nat) (lim : Nat → Nat) : Bool := (List.range n).all fun i => decide (n ≤ lim i) && decide (lim i < ops.size) && (List.range ops.size).any fun j => decide (i < j) && (decide (j = lim i) || (decide (j < n) && decide (lim j ≤ lim i))) && match ops[j]? with
  | some o => o.after.any fun e => e.on == i && Region.binds .any e
  | none => false
theorem held_at {n : Nat} {lim : Nat → Nat} (h : held ops n lim = true) {i : Nat} (hi : i < n) : n ≤ lim i ∧ lim i < ops.size ∧ ∃ j o e, i < j ∧ (j = lim i ∨ j < n ∧ lim j ≤ lim i) ∧ ops[j]? = some o ∧ e ∈ o.after ∧ e.on = i ∧ Region.binds .any e = true := by
  have h1 := List.all_eq_true.1 h i (List.mem_range.2 hi)
  rw [Bool.and_eq_true, Bool.and_eq_true] at h1
  obtain ⟨⟨h2, h3⟩, h4⟩ := h1
  refine ⟨of_decide_eq_true h2, of_decide_eq_true h3, ?_⟩
  obtain ⟨j, _, h5⟩ := List.any_eq_true.1 h4
  rw [Bool.and_eq_true, Bool.and_eq_true, Bool.or_eq_true, Bool.and_eq_true] at h5
  obtain ⟨⟨h6, h7⟩, h8⟩ := h5
  cases ho : ops[j]? with
  | none => rw [ho] at h8; cases h8
  | some o =>
    rw [ho] at h8
    have h8 : (o.after.any fun e => e.on == i && Region.binds .any e) = true := h8
    rw [Array.any_eq_true'] at h8
    obtain ⟨x, hx, h9⟩ := h8
    rw [Bool.and_eq_true] at h9
    refine ⟨j, o, x, of_decide_eq_true h6, ?_, ho, hx, eq_of_beq h9.1, h9.2⟩
    rcases h7 with h7 | ⟨h7, h7'⟩
    · exact Or.inl (of_decide_eq_true h7)
    · exact Or.inr ⟨of_decide_eq_true h7, of_decide_eq_true h7'⟩
theorem held_all {n : Nat} {lim : Nat → Nat} (h : held ops n lim = true) {L : Nat → Bool} (hcl : ∀ i o e, ops[i]? = some o → e ∈ o.after → Region.binds .any e = true → L i = true → L e.on = true) (hlow : ∀ j j', n ≤ j → j ≤ j' → j' < ops.size → L j' = true → L j = true) : ∀ (z i : Nat), i < n → n - i ≤ z → L (lim i) = true → L i = true
  | 0, i, hi, hz, _ => by omega
  | z + 1, i, hi, hz, hL => by
    obtain ⟨h1, h2, j, o, e, hij, hj, ho, he, hon, hb⟩ := held_at h hi
    have hLj : L j = true := by
      rcases hj with rfl | ⟨hjn, hjl⟩
      · exact hL
      · exact held_all h hcl hlow z j hjn (by omega) (hlow (lim j) (lim i) (held_at h hjn).1 hjl h2 hL)
    have := hcl j o e ho he hb hLj
    rwa [hon] at this
theorem wp_region_chain2 {id : Nat} {a : Act} {w0 : World} (hm : P.follows .mixedOrders = true) (n m : Nat) (hn : ops.size = m) (hnm : n ≤ m) (D : Nat → Nat) (R : Nat → Value → Prop) (S : Nat → Act → World → Prop)
    (hput : ∀ k a w i v, i < n → S k a w → S k (a.put (some (D i)) v) w)
    (hsz : ∀ k a w i, i < n → S k a w → D i < a.tmps.size)
    (hinj : ∀ i j, i < n → j < n → D i = D j → i = j)
    (hlink : linked ops n = true) (lim : Nat → Nat) (hheld : held ops n lim = true)
    (hduty : AllFrom (fun i o => o.guard = none ∧ (∀ e ∈ o.after, e.on < i) ∧
        (i < n → o.dst = some (D i) ∧ ∀ k a w, n ≤ k → k ≤ lim i → S k a w → (∀ e ∈ o.after, Region.binds .any e = true → R e.on (T a (D e.on))) → ∀ Q, o.wp P a w (Got (R i) o a w) Q) ∧
        (n ≤ i → ∀ a w, S i a w → (∀ e ∈ o.after, e.on < n → Region.binds .any e = true → R e.on (T a (D e.on))) → o.wp P a w (fun a' w' => S (i + 1) a' w' ∧ ∀ j, j < n → T a' (D j) = T a (D j)) Q)) 0 ops.toList)
    (hend : ∀ a w, S m a w → (∀ i, i < n → R i (T a (D i))) → Q .normal a w)
    (h0 : S n a w0.drew) : (Code.region id ops true).wp P Q a w0 := by
  have hd := fun i o (ho : ops[i]? = some o) => by
    have := allFrom_at hduty i o (by simpa using ho)
    rw [Nat.zero_add] at this
    exact this
  refine wp_region_inv hm (fun L a w => (∀ i o e, ops[i]? = some o → e ∈ o.after → Region.binds .any e = true → L i = true → L e.on = true) ∧ ∃ k, n ≤ k ∧ k ≤ m ∧ (∀ j, n ≤ j → j < m → (L j = true ↔ j < k)) ∧ S k a w ∧ ∀ i, i < n → L i = true → R i (T a (D i))) ?wf ?step ?fin ?zero
  case wf =>
    intro i o e ho he _
    exact (hd i o ho).2.1 e he
  case zero =>
    intro L hL
    refine ⟨fun i o e ho _ _ h => (by rw [hL i (Array.getElem?_eq_some_iff.1 ho).1] at h; cases h), n, Nat.le_refl _, hnm, fun j h1 h2 => ?_, h0, fun i hi h => ?_⟩
    · rw [hL j (by omega)]
      constructor
      · intro h; cases h
      · intro h; omega
    · rw [hL i (by omega)] at h; cases h
  case fin =>
    rintro L a w hL ⟨_, k, h1, h2, h3, hS, hR⟩
    have hk : k = m := by
      by_cases e : k = m
      · exact e
      · have := (h3 k h1 (by omega)).1 (hL k (by omega))
        omega
    subst hk
    exact hend a w hS (fun i hi => hR i hi (hL i (by omega)))
  case step =>
    intro i o ho
    have hi := (Array.getElem?_eq_some_iff.1 ho).1
    obtain ⟨hg, hlt, hp, hc⟩ := hd i o ho
    refine ⟨hg, ?_⟩
    rintro L a w ⟨hcl, k, h1, h2, h3, hS, hR⟩ hLi hE
    have hcl2 : ∀ j p e, ops[j]? = some p → e ∈ p.after → Region.binds .any e = true → more L i j = true → more L i e.on = true := fun j p e hp9 he hb hj => by
      unfold more at hj ⊢
      by_cases hji : j = i
      · subst hji
        rw [ho] at hp9
        cases hp9
        simp [hE e he hb]
      · rw [if_neg hji] at hj
        simp [hcl j p e hp9 he hb hj]
    by_cases hl : i < n
    · obtain ⟨hdst, hst⟩ := hp hl
      have hkl : k ≤ lim i := by
        by_cases hk : k ≤ lim i
        · exact hk
        · have h5 := held_all hheld hcl (fun j j' hj hj' hlt h => by
            rw [hn] at hlt
            exact (h3 j hj (by omega)).2 (by have := (h3 j' (by omega) hlt).1 h; omega)) (n - i) i hl (by omega)
          obtain ⟨q1, q2, _⟩ := held_at hheld hl
          have := h5 ((h3 (lim i) q1 (by omega)).2 (by omega))
          rw [this] at hLi
          cases hLi
      refine Oper.wp_mono ?_ (hst k a w h1 hkl hS (fun e he hb => hR e.on (by have := hlt e he; omega) (hE e he hb)) Q)
      rintro a' w' ⟨v, rfl, rfl, hr⟩
      rw [hdst]
      refine ⟨hcl2, k, h1, h2, fun j hj hj2 => ?_, hput k a w' i v hl hS, fun j hj hmj => ?_⟩
      · rw [← h3 j hj hj2]
        unfold more
        rw [if_neg (by omega)]
      · by_cases hji : j = i
        · subst hji
          unfold T
          rw [put_same (hsz k a w' j hl hS)]
          exact hr
        · unfold T
          rw [put_other (fun e => hji (hinj i j hl hj e).symm)]
          unfold more at hmj
          rw [if_neg hji] at hmj
          exact hR j hj hmj
    · have hki : k = i := by
        have ha : ¬ i < k := fun h => by rw [(h3 i (by omega) (by omega)).2 h] at hLi; cases hLi
        by_cases e : i = n
        · omega
        · obtain ⟨x, hx, hx1, hx2⟩ := linked_at hlink ho (by omega)
          have := (h3 (i - 1) (by omega) (by omega)).1 (by rw [← hx1]; exact hE x hx hx2)
          omega
      subst hki
      refine Oper.wp_mono ?_ (hc (by omega) a w hS (fun e he hlt hb => hR e.on hlt (hE e he hb)))
      rintro a' w' ⟨hS', hT'⟩
      refine ⟨hcl2, k + 1, by omega, by omega, fun j hj hj2 => ?_, hS', fun j hj hmj => ?_⟩
      · unfold more
        by_cases hjk : j = k
        · rw [if_pos hjk]
          constructor
          · intro _; omega
          · intro _; rfl
        · rw [if_neg hjk, h3 j hj hj2]
          omega
      · unfold more at hmj
        rw [if_neg (by omega)] at hmj
        rw [hT' j hj]
        exact hR j hj hmj
end
set_option maxRecDepth 4000 in
set_option maxHeartbeats 8000000 in
theorem fits_any (S : Int) (e : Eg) (w : World) : Calls Tryd.prog 25 #[e.val, .int .i64 S] w fun r w' => r = .returned (.bool (okE S e)) ∧ Below w.heap.size w w' := by
  obtain ⟨w0, hw0⟩ : ∃ w0, w0 = w.alloc (.cells #[.int .i64 e.k, .int .i64 e.f, .int .i64 e.t, .int .u64 (Oct.word e.s 0 : Nat), .int .u64 (Oct.word e.s 1 : Nat), .int .u64 (Oct.word e.s 2 : Nat), .int .u64 (Oct.word e.s 3 : Nat)] 34) := ⟨_, rfl⟩
  obtain ⟨w1, hw1⟩ : ∃ w1, w1 = w0.alloc (.cells #[.int .u64 0, .int .u64 0, .int .u64 0, .int .u64 0] 32) := ⟨_, rfl⟩
  have z0 : w0.heap.size = w.heap.size + 1 := by rw [hw0]; simp
  have k0 : Below w.heap.size w w0 := by rw [hw0]; exact (Below.refl _ _).alloc (Nat.le_refl _) _
  have k1 : Below w0.heap.size w0 w1 := by rw [hw1]; exact (Below.refl _ _).alloc (Nat.le_refl _) _
  have HN : Hid (w1.heap[w.heap.size]? = some (.cells #[.int .i64 e.k, .int .i64 e.f, .int .i64 e.t, .int .u64 (Oct.word e.s 0 : Nat), .int .u64 (Oct.word e.s 1 : Nat), .int .u64 (Oct.word e.s 2 : Nat), .int .u64 (Oct.word e.s 3 : Nat)] 34 (0, 0))) := by
    have hb0 : w0.heap[w.heap.size]? = some (.cells #[.int .i64 e.k, .int .i64 e.f, .int .i64 e.t, .int .u64 (Oct.word e.s 0 : Nat), .int .u64 (Oct.word e.s 1 : Nat), .int .u64 (Oct.word e.s 2 : Nat), .int .u64 (Oct.word e.s 3 : Nat)] 34 (0, 0)) := by rw [hw0]; exact heap_alloc_new w _
    exact (k1.block _ (by omega)).trans hb0
  have HZ : Hid (SB w1 (w.heap.size + 1) Oct.none) := by have hb1 : SB w1 w0.heap.size Oct.none := (by rw [hw1]; exact sb_zero w0); rw [z0] at hb1; exact hb1
  have HB : Hid (Below w.heap.size w w1) := below_step k0 k1
  have HW1 : Hid (w0.alloc (.cells #[.int .u64 0, .int .u64 0, .int .u64 0, .int .u64 0] 32) = w1) := hw1.symm
  have HW0 : Hid (w.alloc (.cells #[.int .i64 e.k, .int .i64 e.f, .int .i64 e.t, .int .u64 (Oct.word e.s 0 : Nat), .int .u64 (Oct.word e.s 1 : Nat), .int .u64 (Oct.word e.s 2 : Nat), .int .u64 (Oct.word e.s 3 : Nat)] 34) = w0) := hw0.symm
  obtain ⟨A, hA⟩ : ∃ A, A = w.heap.size := ⟨_, rfl⟩
  obtain ⟨Z, hZ⟩ : ∃ Z, Z = w.heap.size + 1 := ⟨_, rfl⟩
  rw [← hA] at HN
  rw [← hZ] at HZ
  have HAA : Hid (A = w.heap.size) := hA
  have HZZ : Hid (Z = w.heap.size + 1) := hZ
  clear hw0 hw1 z0 k0 k1 hA hZ
  obtain ⟨k, f, t, s⟩ := e
  simp only at HN HW0
  have b0 : w1.cell? ⟨A, 0, none⟩ = some (.int .i64 k) := by simp [World.cell?, HN.out]
  have b1 : w1.cell? ⟨A, 1, none⟩ = some (.int .i64 f) := by simp [World.cell?, HN.out]
  have b2 : w1.cell? ⟨A, 2, none⟩ = some (.int .i64 t) := by simp [World.cell?, HN.out]
  have b3 : w1.cell? ⟨A, 3, none⟩ = some (.int .u64 (Oct.word s 0 : Nat)) := by simp [World.cell?, HN.out]
  have b4 : w1.cell? ⟨A, 4, none⟩ = some (.int .u64 (Oct.word s 1 : Nat)) := by simp [World.cell?, HN.out]
  have b5 : w1.cell? ⟨A, 5, none⟩ = some (.int .u64 (Oct.word s 2 : Nat)) := by simp [World.cell?, HN.out]
  have b6 : w1.cell? ⟨A, 6, none⟩ = some (.int .u64 (Oct.word s 3 : Nat)) := by simp [World.cell?, HN.out]
  obtain ⟨q0, q1, q2, q3⟩ := HZ.out.cells
  rw [word0] at q0 q1 q2 q3
  obtain ⟨z, hz⟩ : ∃ z, noSet s = z := ⟨_, rfl⟩
  have HEQ : Hid (∀ u, (Op.equalIn 10000 32 (.agg #[.int .u64 (Oct.word s 0 : Nat), .int .u64 (Oct.word s 1 : Nat), .int .u64 (Oct.word s 2 : Nat), .int .u64 (Oct.word s 3 : Nat)]) (.agg #[.int .u64 0, .int .u64 0, .int .u64 0, .int .u64 0])).run Tryd.prog u = .ok z u) := fun u => by rw [← hz]; exact eq4_zero _ _ _ _ u
  have HNS : Hid (noSet s = z) := hz
  obtain ⟨ok, hok⟩ : ∃ ok, okE S ⟨k, f, t, s⟩ = ok := ⟨_, rfl⟩
  have HOK : Hid (okE S ⟨k, f, t, s⟩ = ok) := hok
  rw [hok]
  clear hok
  unfold Eg.val
  simp only
  go_enter Tryd.func25, Tryd.ntmps25
  go_upto_region 2 with fail
  rw [HW0.out, HW1.out, ← HZZ.out, ← HAA.out]
  clear HW0 HW1 hz
  have heq := HEQ.out
  by_cases h2 : k = 2
  · subst h2
    by_cases hf0 : 0 ≤ f
    case neg =>
      have HX : Hid (ok = false) := by show _ = _; rw [← HOK.out]; unfold okE; simp; omega
      have g0 : ¬ (0 : Int) ≤ f := hf0
      go_wp2
      go_ret
      exact ⟨by rw [HX.out]; rfl, HB.out⟩
    by_cases hf1 : f < S
    case neg =>
      have HX : Hid (ok = false) := by show _ = _; rw [← HOK.out]; unfold okE; simp; omega
      go_wp2
      go_ret
      exact ⟨by rw [HX.out]; rfl, HB.out⟩
    by_cases ht0 : 0 ≤ t
    case neg =>
      have HX : Hid (ok = false) := by show _ = _; rw [← HOK.out]; unfold okE; simp; omega
      go_wp2
      go_ret
      exact ⟨by rw [HX.out]; rfl, HB.out⟩
    by_cases ht1 : t < S
    case neg =>
      have HX : Hid (ok = false) := by show _ = _; rw [← HOK.out]; unfold okE; simp; omega
      go_wp2
      go_ret
      exact ⟨by rw [HX.out]; rfl, HB.out⟩
    have HX : Hid (ok = true) := by show _ = _; rw [← HOK.out]; unfold okE; simp; omega
    go_wp2
    go_ret
    exact ⟨by rw [HX.out]; rfl, HB.out⟩
  have g2 : (k == 2) = false := by simp [h2]
  by_cases hk : k = 1 ∨ k = 3 ∨ k = 4
  case neg =>
    have g1 : (k == 1) = false := by simp; omega
    have g3 : (k == 3) = false := by simp; omega
    have g4 : (k == 4) = false := by simp; omega
    have HX : Hid (ok = false) := by show _ = _; rw [← HOK.out]; unfold okE; simp; omega
    go_wp2
    go_ret
    exact ⟨by rw [HX.out]; rfl, HB.out⟩
  cases z with
  | false =>
    have HX : Hid (ok = false) := by show _ = _; rw [← HOK.out]; unfold okE; simp [HNS.out]; omega
    rcases hk with rfl | rfl | rfl
    all_goals
      go_wp2
      go_ret
      exact ⟨by rw [HX.out]; rfl, HB.out⟩
  | true =>
    rcases hk with rfl | rfl | rfl
    all_goals
      by_cases hf0 : 0 ≤ f
      case neg =>
        have HX : Hid (ok = false) := by show _ = _; rw [← HOK.out]; unfold okE; simp; omega
        have g0 : ¬ (0 : Int) ≤ f := hf0
        go_wp2
        go_ret
        exact ⟨by rw [HX.out]; rfl, HB.out⟩
      by_cases hf1 : f < S
      case neg =>
        have HX : Hid (ok = false) := by show _ = _; rw [← HOK.out]; unfold okE; simp; omega
        go_wp2
        go_ret
        exact ⟨by rw [HX.out]; rfl, HB.out⟩
      by_cases ht0 : 0 ≤ t
      case neg =>
        have HX : Hid (ok = false) := by show _ = _; rw [← HOK.out]; unfold okE; simp; omega
        go_wp2
        go_ret
        exact ⟨by rw [HX.out]; rfl, HB.out⟩
      by_cases ht1 : t < S
      case neg =>
        have HX : Hid (ok = false) := by show _ = _; rw [← HOK.out]; unfold okE; simp; omega
        go_wp2
        go_ret
        exact ⟨by rw [HX.out]; rfl, HB.out⟩
      have HX : Hid (ok = true) := by show _ = _; rw [← HOK.out]; unfold okE; simp [HNS.out]; omega
      go_wp2
      go_ret
      exact ⟨by rw [HX.out]; rfl, HB.out⟩
set_option maxRecDepth 4000 in
set_option maxHeartbeats 4000000 in
theorem right1_any (S : Int) (A : Nat) (e : Eg) (w : World) (hA : w.cell? ⟨A, 0, none⟩ = some (.int .i64 S)) : Calls Tryd.prog 24 #[e.val, .pointer (some ⟨A, 0, none⟩)] w fun r w' => r = .returned (.bool (!okE S e)) ∧ Below w.heap.size w w' := by
  have kk : Below w.heap.size w (w.alloc (.cells #[.int .i64 e.k, .int .i64 e.f, .int .i64 e.t, .int .u64 (Oct.word e.s 0 : Nat), .int .u64 (Oct.word e.s 1 : Nat), .int .u64 (Oct.word e.s 2 : Nat), .int .u64 (Oct.word e.s 3 : Nat)] 34)) := (Below.refl _ _).alloc (Nat.le_refl _) _
  have HB : Hid (Below w.heap.size w (w.alloc (.cells #[.int .i64 e.k, .int .i64 e.f, .int .i64 e.t, .int .u64 (Oct.word e.s 0 : Nat), .int .u64 (Oct.word e.s 1 : Nat), .int .u64 (Oct.word e.s 2 : Nat), .int .u64 (Oct.word e.s 3 : Nat)] 34))) := kk
  have HN : Hid ((w.alloc (.cells #[.int .i64 e.k, .int .i64 e.f, .int .i64 e.t, .int .u64 (Oct.word e.s 0 : Nat), .int .u64 (Oct.word e.s 1 : Nat), .int .u64 (Oct.word e.s 2 : Nat), .int .u64 (Oct.word e.s 3 : Nat)] 34)).heap[w.heap.size]? = some (.cells #[.int .i64 e.k, .int .i64 e.f, .int .i64 e.t, .int .u64 (Oct.word e.s 0 : Nat), .int .u64 (Oct.word e.s 1 : Nat), .int .u64 (Oct.word e.s 2 : Nat), .int .u64 (Oct.word e.s 3 : Nat)] 34 (0, 0))) := heap_alloc_new w _
  have a0 : (w.alloc (.cells #[.int .i64 e.k, .int .i64 e.f, .int .i64 e.t, .int .u64 (Oct.word e.s 0 : Nat), .int .u64 (Oct.word e.s 1 : Nat), .int .u64 (Oct.word e.s 2 : Nat), .int .u64 (Oct.word e.s 3 : Nat)] 34)).cell? ⟨A, 0, none⟩ = some (.int .i64 S) := (World.cell?_of_block (w := w) (kk.block A (lt_of_cell hA))).trans hA
  obtain ⟨w1, hw1⟩ : ∃ w1, w.alloc (.cells #[.int .i64 e.k, .int .i64 e.f, .int .i64 e.t, .int .u64 (Oct.word e.s 0 : Nat), .int .u64 (Oct.word e.s 1 : Nat), .int .u64 (Oct.word e.s 2 : Nat), .int .u64 (Oct.word e.s 3 : Nat)] 34) = w1 := ⟨_, rfl⟩
  rw [hw1] at HB HN a0
  obtain ⟨E, hE⟩ : ∃ E, w.heap.size = E := ⟨_, rfl⟩
  rw [hE] at HN
  have HW1 : Hid (w.alloc (.cells #[.int .i64 e.k, .int .i64 e.f, .int .i64 e.t, .int .u64 (Oct.word e.s 0 : Nat), .int .u64 (Oct.word e.s 1 : Nat), .int .u64 (Oct.word e.s 2 : Nat), .int .u64 (Oct.word e.s 3 : Nat)] 34) = w1) := hw1
  have HEE : Hid (w.heap.size = E) := hE
  have HC : Hid (Calls Tryd.prog 25 #[e.val, .int .i64 S] w1 _) := fits_any S e w1
  clear hw1 hE kk hA
  obtain ⟨ok, hok⟩ : ∃ ok, okE S e = ok := ⟨_, rfl⟩
  rw [hok] at HC ⊢
  clear hok
  obtain ⟨k, f, t, s⟩ := e
  simp only at HN HW1
  have b0 : w1.cell? ⟨E, 0, none⟩ = some (.int .i64 k) := by simp [World.cell?, HN.out]
  have b1 : w1.cell? ⟨E, 1, none⟩ = some (.int .i64 f) := by simp [World.cell?, HN.out]
  have b2 : w1.cell? ⟨E, 2, none⟩ = some (.int .i64 t) := by simp [World.cell?, HN.out]
  have b3 : w1.cell? ⟨E, 3, none⟩ = some (.int .u64 (Oct.word s 0 : Nat)) := by simp [World.cell?, HN.out]
  have b4 : w1.cell? ⟨E, 4, none⟩ = some (.int .u64 (Oct.word s 1 : Nat)) := by simp [World.cell?, HN.out]
  have b5 : w1.cell? ⟨E, 5, none⟩ = some (.int .u64 (Oct.word s 2 : Nat)) := by simp [World.cell?, HN.out]
  have b6 : w1.cell? ⟨E, 6, none⟩ = some (.int .u64 (Oct.word s 3 : Nat)) := by simp [World.cell?, HN.out]
  unfold Eg.val at HC
  unfold Eg.val
  simp only at HC ⊢
  go_enter Tryd.func24, Tryd.ntmps24
  go_upto_region 1 with fail
  rw [HW1.out, HEE.out]
  clear HW1
  go_wp2_with fail
  refine HC.out.mono ?_
  rintro r w2 ⟨rfl, k2⟩
  have HB2 : Hid (Below w.heap.size w w2) := below_step HB.out k2
  clear k2 HC
  go_wp2
  go_ret
  exact ⟨rfl, HB2.out⟩
set_option maxRecDepth 4000 in
set_option maxHeartbeats 8000000 in
theorem indexE_any {X : Nat → Prop} (S : Int) (A : Nat) (es : List Eg) (a : Option Addr) (n c : Nat) (w : World) (hn : es.length = n) (hm : n ≤ 35184372088832) (hE : EAt X w a es) (hA : w.cell? ⟨A, 0, none⟩ = some (.int .i64 S)) : Calls Tryd.prog 44 #[.slice a n c, .func (.func 24) #[] #[.pointer (some ⟨A, 0, none⟩)]] w fun r w' => ∃ i : Int, r = .returned (.int .i64 i) ∧ decide (0 ≤ i) = (!es.all (okE S)) ∧ Below w.heap.size w w' := by
  have HE : Hid (EAt X w a es) := hE
  have HN : Hid (es.length = n) := hn
  have HA : Hid (w.cell? ⟨A, 0, none⟩ = some (.int .i64 S)) := hA
  clear hE hn hA
  go_enter Tryd.func44, Tryd.ntmps44
  go_wp2_with fail
  go_loopw [8] (fun i u => ∃ j : Nat, i = .int .i64 (j : Nat) ∧ j ≤ n ∧ Hid ((es.take j).all (okE S) = true) ∧ Hid (Below w.heap.size w u)) (fun i _ => n - (intOf i).toNat)
  case atStart => exact ⟨0, rfl, Nat.zero_le _, by show _ = _; simp, Below.refl _ _⟩
  case round =>
    obtain ⟨j, rfl, hjn, HAL, HB⟩ := hrel
    by_cases hlt : j < n
    · have hlt' : (j : Int) < (n : Int) := by omega
      obtain ⟨e, he⟩ : ∃ e, es[j]? = some e := ⟨_, List.getElem?_eq_getElem (by rw [HN.out]; exact hlt)⟩
      have hrow := (HE.out.keep (w' := wr) (Y := X) (fun _ h _ => h) (fun b _ hlt => HB.out.block b hlt)).nth he
      obtain ⟨g, off, rfl, e0, e1, e2, e3, e4, e5, e6⟩ := hrow
      have HC : Hid (Calls Tryd.prog 24 #[e.val, .pointer (some ⟨A, 0, none⟩)] wr _) := right1_any S A e wr ((World.cell?_of_block (w := w) (HB.out.block A (lt_of_cell HA.out))).trans HA.out)
      have HTA : Hid ((es.take (j + 1)).all (okE S) = okE S e) := by
        show _ = _
        rw [List.take_add_one, he, List.all_append, HAL.out]
        simp
      have HNO : Hid (okE S e = false → es.all (okE S) = false) := fun h => by
        rw [List.all_eq_false]
        exact ⟨e, List.mem_of_getElem? he, by simp [h]⟩
      obtain ⟨ok, hok⟩ : ∃ ok, okE S e = ok := ⟨_, rfl⟩
      rw [hok] at HC HTA HNO
      clear hok he
      unfold Eg.val at HC
      go_wp2_with fail
      refine HC.out.mono ?_
      rintro r w2 ⟨rfl, k2⟩
      have HB2 : Hid (Below w.heap.size w w2) := below_step HB.out k2
      clear k2 HC HB e0 e1 e2 e3 e4 e5 e6
      cases ok with
      | true =>
        go_wp2
        go_roundw
        case rel => exact ⟨j + 1, by go_num, by omega, HTA, HB2⟩
        case measure => simp [intOf]; omega
      | false =>
        have HF := HNO.out rfl
        go_wp2
        go_ret
        exact ⟨(j : Int), rfl, by rw [HF]; simp, HB2.out⟩
    · have hlt' : ¬ (j : Int) < (n : Int) := by omega
      have HF : Hid (es.all (okE S) = true) := by
        show _ = _
        rw [← HAL.out, List.take_of_length_le (by rw [HN.out]; omega)]
      go_wp2
      go_ret
      exact ⟨-1, rfl, by rw [HF.out]; decide, HB.out⟩
set_option maxRecDepth 4000 in
theorem containsE_any {X : Nat → Prop} (S : Int) (A : Nat) (es : List Eg) (a : Option Addr) (n c : Nat) (w : World) (hn : es.length = n) (hm : n ≤ 35184372088832) (hE : EAt X w a es) (hA : w.cell? ⟨A, 0, none⟩ = some (.int .i64 S)) : Calls Tryd.prog 23 #[.slice a n c, .func (.func 24) #[] #[.pointer (some ⟨A, 0, none⟩)]] w fun r w' => r = .returned (.bool (!es.all (okE S))) ∧ Below w.heap.size w w' := by
  have HC : Hid (Calls Tryd.prog 44 #[.slice a n c, .func (.func 24) #[] #[.pointer (some ⟨A, 0, none⟩)]] w _) := indexE_any S A es a n c w hn hm hE hA
  clear hn hm hE hA
  go_enter Tryd.func23, Tryd.ntmps23
  go_wp2_with fail
  refine HC.out.mono ?_
  rintro r w2 ⟨i, rfl, hi, k2⟩
  have HI : Hid (decide (0 ≤ i) = (!es.all (okE S))) := hi
  have HB : Hid (Below w.heap.size w w2) := k2
  clear hi k2 HC
  by_cases h0 : 0 ≤ i
  · have h1 : decide (0 ≤ i) = true := by simp [h0]
    go_wp2
    go_ret
    exact ⟨by rw [← HI.out, h1]; rfl, HB.out⟩
  · have h1 : decide (0 ≤ i) = false := by simp [h0]
    go_wp2
    go_ret
    exact ⟨by rw [← HI.out, h1]; rfl, HB.out⟩
set_option maxRecDepth 4000 in
set_option maxHeartbeats 4000000 in
theorem pright_any (M : Ma) (x : Nf) (w : World) (hx : MaAt (fun _ => True) w M x) (he : M.es.length ≤ 35184372088832) (hr : M.rs.length ≤ 35184372088832) : Calls Tryd.prog 6 #[x.val] w fun e w' => e = .returned (.bool (rightOf M)) ∧ Below w.heap.size w w' := by
  have kk : Below w.heap.size w (w.alloc (.cells #[.int .i64 x.S, .slice x.ea x.en x.ec, .slice x.ra x.rn x.rc] 25)) := (Below.refl _ _).alloc (Nat.le_refl _) _
  have HNX : Hid (NFB (w.alloc (.cells #[.int .i64 x.S, .slice x.ea x.en x.ec, .slice x.ra x.rn x.rc] 25)) w.heap.size x) := nfb_new w x
  have HB : Hid (Below w.heap.size w (w.alloc (.cells #[.int .i64 x.S, .slice x.ea x.en x.ec, .slice x.ra x.rn x.rc] 25))) := kk
  have HMX : Hid (MaAt (fun _ => True) (w.alloc (.cells #[.int .i64 x.S, .slice x.ea x.en x.ec, .slice x.ra x.rn x.rc] 25)) M x) := hx.later kk
  obtain ⟨w2, hw2⟩ : ∃ w2, w.alloc (.cells #[.int .i64 x.S, .slice x.ea x.en x.ec, .slice x.ra x.rn x.rc] 25) = w2 := ⟨_, rfl⟩
  rw [hw2] at HNX HB HMX
  obtain ⟨A, hA⟩ : ∃ A, w.heap.size = A := ⟨_, rfl⟩
  rw [hA] at HNX
  have HW2 : Hid (w.alloc (.cells #[.int .i64 x.S, .slice x.ea x.en x.ec, .slice x.ra x.rn x.rc] 25) = w2) := hw2
  have HAA : Hid (w.heap.size = A) := hA
  clear hw2 hA kk hx
  obtain ⟨xS, xa, xn, xc, xra, xrn, xrc⟩ := x
  have e1 : xS = M.S := HMX.out.s
  have e3 : xn = M.es.length := HMX.out.n
  have e5 : xrn = M.rs.length := HMX.out.r
  subst e1 e3 e5
  obtain ⟨n, hn⟩ : ∃ n, M.es.length = n := ⟨_, rfl⟩
  obtain ⟨rn, hrn⟩ : ∃ rn, M.rs.length = rn := ⟨_, rfl⟩
  obtain ⟨S, hS⟩ : ∃ S, M.S = S := ⟨_, rfl⟩
  have HE : Hid (EAt (fun _ => True) w2 xa M.es) := HMX.out.e
  have HRO : Hid (rightOf M = (decide (1 ≤ S) && decide ((rn : Int) = S) && M.es.all (okE S))) := by show _ = _; unfold rightOf; rw [hS, hrn]
  clear HMX
  rw [hn] at HNX HW2 he
  rw [hrn] at HNX HW2 hr
  rw [hS] at HNX HW2
  obtain ⟨x0, x1, x2⟩ := HNX.out.cells
  simp only at x0 x1 x2
  have HC : Hid (Calls Tryd.prog 23 #[.slice xa n xc, .func (.func 24) #[] #[.pointer (some ⟨A, 0, none⟩)]] w2 _) := containsE_any S A M.es xa n xc w2 hn he HE.out x0
  unfold Nf.val
  simp only at HW2 ⊢
  rw [hn, hrn, hS]
  clear hn hrn hS
  go_enter Tryd.func6, Tryd.ntmps6
  go_upto_region 1 with fail
  rw [HW2.out, HAA.out]
  clear HW2
  have hmf : ∀ (fn : Fn) (first cap : Array Value) (w : World), (Instr.makeFunc fn first cap).run Tryd.prog w = .ok (.func fn first cap) w := fun _ _ _ _ => rfl
  by_cases hS1 : S < 1
  · have HNo : Hid (rightOf M = false) := by show _ = _; rw [HRO.out, show decide (1 ≤ S) = false by simp; omega]; rfl
    go_wp2
    go_ret
    exact ⟨by rw [HNo.out]; rfl, HB.out⟩
  by_cases hSr : (rn : Int) = S
  · have hSr2 : ((rn : Int) != S) = false := by simp [hSr]
    have hSr3 : ((rn : Int) == S) = true := by simp [hSr]
    have HYes : Hid (rightOf M = M.es.all (okE S)) := by show _ = _; rw [HRO.out, show decide (1 ≤ S) = true by simp; omega, show decide ((rn : Int) = S) = true by simp [hSr]]; simp
    have HSR : Hid ((rn : Int) = S) := hSr
    clear hSr
    obtain ⟨v, hv⟩ : ∃ v, M.es.all (okE S) = v := ⟨_, rfl⟩
    rw [hv] at HC HYes
    clear hv
    go_wp2_with fail
    refine HC.out.mono ?_
    rintro r w3 ⟨rfl, k3⟩
    have HB3 : Hid (Below w.heap.size w w3) := below_step HB.out k3
    clear k3 HC
    go_wp2
    go_ret
    exact ⟨by rw [HYes.out]; simp, HB3.out⟩
  · have HNo : Hid (rightOf M = false) := by show _ = _; rw [HRO.out, show decide ((rn : Int) = S) = false by simp [hSr]]; simp
    have hSr2 : ((rn : Int) != S) = true := by simp [hSr]
    have hSr3 : ((rn : Int) == S) = false := by simp [hSr]
    go_wp2
    go_ret
    exact ⟨by rw [HNo.out]; rfl, HB.out⟩
end
end
end
end Go.Proofs.YtmjnobdlgbojoaaDoor
