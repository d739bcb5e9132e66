/- A drawn region of operations whose values are fixed, with one box that is made and written in it (in any order). -/
import Derived.Test.YtpikepifhnkmkaaG37
namespace Go.Proofs.Ytpikepifhnkmkaa
open Go.RowKit Go.Maps Sf Ln Fo

section
variable {P : Program} {ops : Array Oper} {Q : Exit → Act → World → Prop}
/-- the duty of an operation whose value is fixed -/
def DutyV (P : Program) (w0 : World) (al st : Nat) (D : Nat → Nat) (v : Nat → Value) (F0 : Act → Prop) (i : Nat) (o : Oper) : Prop :=
  o.dst = some (D i) ∧ ∀ a w, F0 a → Below w0.heap.size w0 w → (∀ e ∈ o.after, Region.binds .any e = true → e.on ≠ al → e.on ≠ st → T a (D e.on) = v e.on) → ∀ Q, o.wp P a w (fun a' w' => a' = a.put o.dst (v i) ∧ Below w.heap.size w w') Q
def BoxIn (w0 : World) (t : TypeId) (c : Array Value) (p : Value) (w : World) : Prop := ∃ A, p = .pointer (some ⟨A, 0, none⟩) ∧ w0.heap.size ≤ A ∧ w.heap[A]? = some (.cells c t (0, 0))
theorem BoxIn.later {w0 w u : World} {t : TypeId} {c : Array Value} {p : Value} (h : BoxIn w0 t c p w) (hb : Below w.heap.size w u) : BoxIn w0 t c p u := by
  obtain ⟨A, e, h1, h2⟩ := h
  exact ⟨A, e, h1, (hb.block A (Array.getElem?_eq_some_iff.1 h2).1).trans h2⟩
theorem wp_region_box {id : Nat} {a : Act} {w0 : World} (hm : P.follows .mixedOrders = true) (n al st : Nat) (t : TypeId) (c0 c1 : Array Value) (hn : ops.size = n) (han : al < n) (hsn : st < n) (hals : al ≠ st) (D : Nat → Nat) (v : Nat → Value) (F0 : Act → Prop)
    (hF0 : ∀ a i x, i < n → F0 a → F0 (a.put (some (D i)) x)) (hsz : ∀ a i, i < n → F0 a → D i < a.tmps.size)
    (hinj : ∀ i j, i < n → j < n → i ≠ st → j ≠ st → D i = D j → i = j)
    (hwf : ∀ i o e, ops[i]? = some o → e ∈ o.after → Region.binds .any e = true → e.on < i)
    (hsal : ∀ o, ops[st]? = some o → ∃ e ∈ o.after, Region.binds .any e = true ∧ e.on = al)
    (hduty : AllFrom (fun i o => o.guard = none ∧ (i ≠ al → i ≠ st → DutyV P w0 al st D v F0 i o) ∧
      (i = al → o.dst = some (D al) ∧ ∀ a w, F0 a → ∀ Q, o.wp P a w (fun a' w' => a' = a.put o.dst (.pointer (some ⟨w.heap.size, 0, none⟩)) ∧ w' = w.alloc (.cells c0 t)) Q) ∧
      (i = st → ∀ a w A, F0 a → (∀ e ∈ o.after, Region.binds .any e = true → e.on ≠ al → e.on ≠ st → T a (D e.on) = v e.on) → T a (D al) = .pointer (some ⟨A, 0, none⟩) → w.heap[A]? = some (.cells c0 t (0, 0)) → ∀ Q, o.wp P a w (fun a' w' => a' = a ∧ w'.heap[A]? = some (.cells c1 t (0, 0)) ∧ FrP (fun k => k = A) w w') Q)) 0 ops.toList)
    (hQ : ∀ a w, F0 a → Below w0.heap.size w0 w → (∀ i, i < n → i ≠ al → i ≠ st → T a (D i) = v i) → BoxIn w0 t c1 (T a (D al)) w → Q .normal a w)
    (h0 : F0 a) : (Code.region id ops true).wp P Q a w0 := by
  refine wp_region_inv hm (fun L a w => F0 a ∧ Below w0.heap.size w0 w ∧ (∀ i, i < n → i ≠ al → i ≠ st → L i = true → T a (D i) = v i) ∧ (L al = true → BoxIn w0 t (if L st then c1 else c0) (T a (D al)) w) ∧ (L st = true → L al = true)) hwf ?step ?fin ?zero
  case zero =>
    intro L hL
    refine ⟨h0, (Below.refl _ _).drew, fun i hi _ _ h => ?_, fun h => ?_, fun h => ?_⟩
    · rw [hL i (by omega)] at h; cases h
    · rw [hL al (by omega)] at h; cases h
    · rw [hL st (by omega)] at h; cases h
  case fin =>
    intro L a w hL ⟨h1, h2, h3, h4, h5⟩
    have h6 := h4 (hL al (by omega))
    rw [if_pos (hL st (by omega))] at h6
    exact hQ a w h1 h2 (fun i hi x y => h3 i hi x y (hL i (by omega))) h6
  case step =>
    intro i o ho
    have hi : i < n := by have := (Array.getElem?_eq_some_iff.1 ho).1; omega
    have hd := allFrom_at hduty i o (by simpa using ho)
    rw [Nat.zero_add] at hd
    obtain ⟨hg, hd1, hd2, hd3⟩ := hd
    refine ⟨hg, ?_⟩
    rintro L a w ⟨h1, h2, h3, h4, h5⟩ hLi hE
    have hdeps : ∀ e ∈ o.after, Region.binds .any e = true → e.on ≠ al → e.on ≠ st → T a (D e.on) = v e.on := fun e he hb x y => h3 e.on (by have := hwf i o e ho he hb; omega) x y (hE e he hb)
    by_cases ea : i = al
    · subst ea
      obtain ⟨hdst, hw⟩ := hd2 rfl
      have hLs : L st = false := by
        cases x : L st with
        | false => rfl
        | true => rw [h5 x] at hLi; cases hLi
      refine Oper.wp_mono ?_ (hw a w h1 Q)
      rintro a' w' ⟨rfl, rfl⟩
      rw [hdst]
      have hb : Below w.heap.size w (w.alloc (.cells c0 t)) := (Below.refl _ _).alloc (Nat.le_refl _) _
      have hms : more L i st = false := by unfold more; rw [if_neg (fun e => hals e.symm)]; exact hLs
      refine ⟨hF0 a i _ hi h1, below_step h2 hb, fun j hj x y hm => ?_, fun _ => ?_, fun hm => ?_⟩
      · have : L j = true := by unfold more at hm; rwa [if_neg x] at hm
        unfold T
        rw [put_other (fun e => x (hinj i j hi hj hals y e).symm)]
        exact h3 j hj x y this
      · rw [hms]
        unfold T
        rw [put_same (hsz a i hi h1)]
        exact ⟨w.heap.size, rfl, h2.size, heap_alloc_new w _⟩
      · rw [hms] at hm; cases hm
    · by_cases es : i = st
      · subst es
        have hLa : L al = true := by
          obtain ⟨e, he, hb, hon⟩ := hsal o ho
          have := hE e he hb
          rwa [hon] at this
        have hbx := h4 hLa
        rw [if_neg (by rw [hLi]; exact Bool.false_ne_true)] at hbx
        obtain ⟨A, hA, hA2, hA3⟩ := hbx
        refine Oper.wp_mono ?_ (hd3 rfl a w A h1 hdeps hA hA3 Q)
        rintro a' w' ⟨rfl, hw1, hw2⟩
        refine ⟨h1, ?_, fun j hj x y hm => ?_, fun _ => ?_, fun _ => ?_⟩
        · exact ⟨hw2.os.trans h2.os, hw2.tape.trans h2.tape, hw2.output.trans h2.output, Nat.le_trans h2.size hw2.size, fun k hk => (hw2.block k (Nat.lt_of_lt_of_le hk h2.size) (fun e => by have e : k = A := e; omega)).trans (h2.block k hk)⟩
        · have : L j = true := by unfold more at hm; rwa [if_neg y] at hm
          exact h3 j hj x y this
        · rw [if_pos (by unfold more; simp)]
          exact ⟨A, hA, hA2, hw1⟩
        · unfold more; rw [if_neg hals]; exact hLa
      · obtain ⟨hdst, hw⟩ := hd1 ea es
        refine Oper.wp_mono ?_ (hw a w h1 h2 hdeps Q)
        rintro a' w' ⟨rfl, hb⟩
        rw [hdst]
        have hms : more L i st = L st := by unfold more; rw [if_neg (fun e => es e.symm)]
        have hma : more L i al = L al := by unfold more; rw [if_neg (fun e => ea e.symm)]
        refine ⟨hF0 a i _ hi h1, below_step h2 hb, fun j hj x y hm => ?_, fun hm => ?_, fun hm => ?_⟩
        · by_cases hji : j = i
          · subst hji
            unfold T
            rw [put_same (hsz a j hj h1)]
          · unfold T
            rw [put_other (fun e => hji (hinj i j hi hj es y e).symm)]
            exact h3 j hj x y (by unfold more at hm; rwa [if_neg hji] at hm)
        · rw [hma] at hm
          rw [hms]
          unfold T
          rw [put_other (fun e => ea (hinj i al hi han es hals e))]
          exact (h4 hm).later hb
        · rw [hms] at hm
          rw [hma]
          exact h5 hm
/-- a value, by the run -/
theorem obv {o : Oper} {a : Act} {w w' : World} {v : Value} (h : (execOp a.eval o).run P w = .ok (.value v) w') (hb : Below w.heap.size w w') : o.wp P a w (fun a' u => a' = a.put o.dst v ∧ Below w.heap.size w u) Q := by
  unfold Oper.wp
  rw [h]
  exact ⟨rfl, hb⟩
theorem obv_enter {o : Oper} {a : Act} {w : World} {v : Value} {f : FuncId} {args : Array Value} (h : (execOp a.eval o).run P w = .ok (.enter f args) w) (hc : Calls P f args w fun e w' => e = .returned v ∧ Below w.heap.size w w') : o.wp P a w (fun a' u => a' = a.put o.dst v ∧ Below w.heap.size w u) Q := by
  unfold Oper.wp
  rw [h]
  refine hc.mono ?_
  rintro e w' ⟨rfl, hb⟩
  exact ⟨rfl, hb⟩
end
end Go.Proofs.Ytpikepifhnkmkaa
