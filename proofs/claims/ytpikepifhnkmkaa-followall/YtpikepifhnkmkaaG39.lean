/- Drawn regions of follow's steps (typed by gen/foregs.py). -/
import Derived.Test.YtpikepifhnkmkaaG38
namespace Go.Proofs.Ytpikepifhnkmkaa
open Go.RowKit Go.Maps Sf Ln Fo

/-- a frame of which one interval of slots may have turned -/
def Fr1 (l h sz : Nat) (act a : Act) : Prop := a.tmps.size = sz ∧ a.defers = act.defers ∧ ∀ k, (k < l ∨ h ≤ k) → a.tmps[k]? = act.tmps[k]?
theorem Fr1.put {l h sz : Nat} {act a : Act} (hF : Fr1 l h sz act a) {k : Nat} (hk : (l ≤ k ∧ k < h) ∨ sz ≤ k) (v : Value) : Fr1 l h sz act (a.put (some k) v) := by
  obtain ⟨e1, e2, e3⟩ := hF
  refine ⟨by simp [Act.put, e1], by simp [Act.put, e2], fun j hj => ?_⟩
  simp only [Act.put]
  by_cases e : k = j
  · subst e
    have hk2 : sz ≤ k := by omega
    rw [Array.getElem?_setIfInBounds]
    rw [if_pos rfl, if_neg (by omega)]
    rw [← e3 k hj, Array.getElem?_eq_none (by omega)]
  · rw [Array.getElem?_setIfInBounds_ne e]
    exact e3 j hj
theorem Fr1.slot {l h sz : Nat} {act a : Act} (hF : Fr1 l h sz act a) {k : Nat} (hk : k < l ∨ h ≤ k) {v : Value} (hv : T act k = v) : T a k = v := by unfold T at hv ⊢; rw [hF.2.2 k hk]; exact hv
theorem fr1_laid {l h sz : Nat} {act a : Act} (hF : Fr1 l h sz act a) (hs : act.tmps.size = sz) (o1 : l ≤ h) (o2 : h ≤ sz) :
    ∃ p : List Value, p.length = h - l ∧ (∀ i, i < h - l → p.getD i undef = T a (l + i)) ∧ a = ⟨(act.tmps.toList.take l ++ (p ++ act.tmps.toList.drop h)).toArray, act.defers⟩ := by
  obtain ⟨e1, e2, e3⟩ := hF
  have hlt : act.tmps.toList.length = sz := by simpa using hs
  refine ⟨(a.tmps.toList.drop l).take (h - l), by simp [e1]; omega, fun i hi => ?_, ?_⟩
  · unfold T
    rw [List.getD_eq_getElem?_getD, List.getElem?_take_of_lt hi, List.getElem?_drop]
    simp
  · have : a.tmps.toList = act.tmps.toList.take l ++ ((a.tmps.toList.drop l).take (h - l) ++ act.tmps.toList.drop h) := by
      apply List.ext_getElem?
      intro j
      have ej : (j < l ∨ h ≤ j) → a.tmps.toList[j]? = act.tmps.toList[j]? := fun x => by simpa using e3 j x
      by_cases c1 : j < l
      · rw [List.getElem?_append_left (by rw [List.length_take]; omega), List.getElem?_take_of_lt c1]
        exact ej (.inl c1)
      · rw [List.getElem?_append_right (by rw [List.length_take]; omega), List.length_take, show min l act.tmps.toList.length = l by omega]
        by_cases c2 : j < h
        · rw [List.getElem?_append_left (by rw [List.length_take, List.length_drop]; simp [e1]; omega), List.getElem?_take_of_lt (by omega), List.getElem?_drop, show l + (j - l) = j by omega]
        · have z1 : ((a.tmps.toList.drop l).take (h - l)).length = h - l := by rw [List.length_take, List.length_drop]; simp [e1]; omega
          rw [List.getElem?_append_right (by rw [z1]; omega), z1, List.getElem?_drop, show h + (j - l - (h - l)) = j by omega]
          exact ej (.inr (by omega))
    obtain ⟨tm, df⟩ := a
    simp only at this e2
    rw [← this, e2]
def wfB (ops : Array Oper) : Bool := (List.range ops.size).all fun i => match ops[i]? with
  | some o => o.after.all fun e => !Region.binds .any e || decide (e.on < i)
  | none => true
theorem wfB_at {ops : Array Oper} (h : wfB ops = true) : ∀ i o e, ops[i]? = some o → e ∈ o.after → Region.binds .any e = true → e.on < i := by
  intro i o e ho he hb
  have h1 := List.all_eq_true.1 h i (List.mem_range.2 (Array.getElem?_eq_some_iff.1 ho).1)
  rw [ho] at h1
  have h1 : (o.after.all fun e => !Region.binds .any e || decide (e.on < i)) = true := h1
  rw [Array.all_eq_true'] at h1
  have h2 := h1 e he
  rw [hb] at h2
  exact of_decide_eq_true (by simpa using h2)
def salB (ops : Array Oper) (st al : Nat) : Bool := match ops[st]? with
  | some o => o.after.any fun e => e.on == al && Region.binds .any e
  | none => true
theorem sal_at {ops : Array Oper} {st al : Nat} (h : salB ops st al = true) (o : Oper) (ho : ops[st]? = some o) : ∃ e ∈ o.after, Region.binds .any e = true ∧ e.on = al := by
  unfold salB at h
  rw [ho] at h
  have h : (o.after.any fun e => e.on == al && Region.binds .any e) = true := h
  rw [Array.any_eq_true'] at h
  obtain ⟨e, he, h2⟩ := h
  rw [Bool.and_eq_true] at h2
  exact ⟨e, he, h2.2, by simpa using h2.1⟩
section
variable {o : Oper} {a : Act} {w : World} {Q : Exit → Act → World → Prop}
attribute [local go_sem] Oper.semAt_some
theorem oba {t : TypeId} {c0 : Array Value} (h : (execOp a.eval o).run Try.prog w = .ok (.value (.pointer (some ⟨w.heap.size, 0, none⟩))) (w.alloc (.cells c0 t))) : o.wp Try.prog a w (fun a' w' => a' = a.put o.dst (.pointer (some ⟨w.heap.size, 0, none⟩)) ∧ w' = w.alloc (.cells c0 t)) Q := by
  unfold Oper.wp
  rw [h]
  exact ⟨rfl, rfl⟩
set_option maxRecDepth 20000 in
/-- a Stat is written into its box -/
theorem obs_stat {p q A : Nat} {z0 z1 z2 z3 : Value} {x0 x1 x2 x3 : Int} (ho : o.op = .store 64 (.tmp p) (.tmp q)) (hd : o.dst = none) (hx : T a p = .pointer (some ⟨A, 0, none⟩)) (hq : T a q = .agg #[.int .i64 x0, .int .i64 x1, .int .i64 x2, .int .i64 x3]) (hc : w.heap[A]? = some (.cells #[z0, z1, z2, z3] 64 (0, 0))) :
    o.wp Try.prog a w (fun a' w' => a' = a ∧ w'.heap[A]? = some (.cells #[.int .i64 x0, .int .i64 x1, .int .i64 x2, .int .i64 x3] 64 (0, 0)) ∧ FrP (fun k => k = A) w w') Q := by
  obtain ⟨dst, op, type, pos, after, guard⟩ := o
  simp only at ho hd
  subst ho hd
  have st : StatB w A z0 z1 z2 z3 := hc
  obtain ⟨c0, c1, c2, c3, fz⟩ := st.cells
  have q0 := fz 0
  have q1 := fz 1
  have q2 := fz 2
  have q3 := fz 3
  have e : (execOp a.eval ⟨none, .store 64 (.tmp p) (.tmp q), type, pos, after, guard⟩).run Try.prog w = .ok .skip ((((w.setCell ⟨A, 0, none⟩ (.int .i64 x0)).setCell ⟨A, 1, none⟩ (.int .i64 x1)).setCell ⟨A, 2, none⟩ (.int .i64 x2)).setCell ⟨A, 3, none⟩ (.int .i64 x3)) := by
    simp [execOp, Act.eval, hx, hq, go_sem, c0, c1, c2, c3, q0, q1, q2, q3]
  unfold Oper.wp
  rw [e]
  refine ⟨rfl, ?_, ((((FrP.refl (fun k => k = A) w).set (fun _ => rfl) 0 _).set (fun _ => rfl) 1 _).set (fun _ => rfl) 2 _).set (fun _ => rfl) 3 _⟩
  have h0 := heap_set hc (j := 0) (v := .int .i64 x0)
  have h1 := heap_set h0 (j := 1) (v := .int .i64 x1)
  have h2 := heap_set h1 (j := 2) (v := .int .i64 x2)
  have h3 := heap_set h2 (j := 3) (v := .int .i64 x3)
  rw [h3]
  rfl
end
def DGn (i : Nat) : Nat := [8, 9, 10, 11, 12, 13, 14, 15, 16, 17, 7, 18, 19, 5, 5, 6].getD i 0
set_option linter.unusedVariables false in
def VGn (F Tb Bd n q g z x : Nat) (mn : Int) : Nat → Value
  | 0 => .pointer (some ⟨Tb, 0, none⟩)
  | 1 => .pointer (some ⟨Tb, 0, none⟩)
  | 2 => .pointer (some ⟨Tb, 0, none⟩)
  | 3 => .pointer (some ⟨Bd, 0, none⟩)
  | 4 => .pointer (some ⟨F, 0, none⟩)
  | 5 => .pointer (some ⟨F, 0, none⟩)
  | 6 => .pointer (some ⟨F, 1, none⟩)
  | 7 => .pointer (some ⟨F, 2, none⟩)
  | 8 => .int .i64 mn
  | 9 => .tuple #[.agg #[.int .i64 (n : Nat), .int .i64 (q : Nat), .int .i64 (g : Nat), .int .i64 (z : Nat)], .int .i64 (x : Nat)]
  | 10 => .tuple #[.agg #[.int .i64 (n : Nat), .int .i64 (q : Nat), .int .i64 (g : Nat), .int .i64 (z : Nat)], .int .i64 (x : Nat)]
  | 11 => .agg #[.int .i64 (n : Nat), .int .i64 (q : Nat), .int .i64 (g : Nat), .int .i64 (z : Nat)]
  | 12 => .int .i64 (x : Nat)
  | 15 => .int .i64 (x : Nat)
  | _ => undef
set_option linter.unusedVariables false in
set_option maxRecDepth 100000 in
set_option maxHeartbeats 2000000 in
theorem regGn (F Tb Bd n q g z x : Nat) (mn : Int) {act : Act} {w0 : World} {Q : Exit → Act → World → Prop} {ops : Array Oper} (hops : ops = opsOf Try.f42 1) (hsz : act.tmps.size = 24) (q0 : T act 0 = .pointer (some ⟨F, 0, none⟩)) (q1 : T act 1 = .pointer (some ⟨Tb, 0, none⟩)) (cT : w0.cell? ⟨Tb, 0, none⟩ = some (.pointer (some ⟨Bd, 0, none⟩))) (c2 : w0.cell? ⟨F, 2, none⟩ = some (.int .i64 mn)) 
    (hc : ∀ u, Below w0.heap.size w0 u → Calls Try.prog 57 #[.pointer (some ⟨Bd, 0, none⟩), .int .i64 mn] u fun e w' => e = .returned (.tuple #[.agg #[.int .i64 (n : Nat), .int .i64 (q : Nat), .int .i64 (g : Nat), .int .i64 (z : Nat)], .int .i64 (x : Nat)]) ∧ Below u.heap.size u w')
    (K : ∀ A w' (p : List Value), Below w0.heap.size w0 w' → w0.heap.size ≤ A → w'.heap[A]? = some (.cells #[.int .i64 (n : Nat), .int .i64 (q : Nat), .int .i64 (g : Nat), .int .i64 (z : Nat)] 64 (0, 0)) → p.length = 15 → p.getD 0 undef = .pointer (some ⟨A, 0, none⟩) → p.getD 1 undef = .int .i64 (x : Nat) → Q .normal ⟨(act.tmps.toList.take 5 ++ (p ++ act.tmps.toList.drop 20)).toArray, act.defers⟩ w') : (Code.region 1 ops true).wp Try.prog Q act w0 := by
  subst hops
  refine wp_region_box (by kernel_rfl) 16 13 14 64 #[.int .i64 0, .int .i64 0, .int .i64 0, .int .i64 0] #[.int .i64 (n : Nat), .int .i64 (q : Nat), .int .i64 (g : Nat), .int .i64 (z : Nat)] (by kernel_rfl) (by decide) (by decide) (by decide) DGn (VGn F Tb Bd n q g z x mn) (Fr1 5 20 24 act) ?f0 ?sz ?inj ?wf ?sal ?duty ?fin ⟨hsz, rfl, fun _ _ => rfl⟩
  case f0 => intro a i x hi h; exact h.put ((by decide : ∀ i, i < 16 → (5 ≤ DGn i ∧ DGn i < 20) ∨ 24 ≤ DGn i) i hi) x
  case sz => intro a i hi h; rw [h.1]; exact (by decide : ∀ i, i < 16 → DGn i < 24) i hi
  case inj => intro i j hi hj x y h; exact (by decide : ∀ i, i < 16 → ∀ j, j < 16 → i ≠ 14 → j ≠ 14 → DGn i = DGn j → i = j) i hi j hj x y h
  case wf => exact wfB_at (by kernel_rfl)
  case sal => intro o ho; have e : (opsOf Try.f42 1)[14]? = some o := ho; exact sal_at (by kernel_rfl) o e
  case duty =>
    refine ⟨⟨rfl, fun _ _ => ⟨rfl, fun a w hF hB hE Q => ?s0⟩, fun h => absurd h (by decide), fun h => absurd h (by decide)⟩, ⟨rfl, fun _ _ => ⟨rfl, fun a w hF hB hE Q => ?s1⟩, fun h => absurd h (by decide), fun h => absurd h (by decide)⟩, ⟨rfl, fun _ _ => ⟨rfl, fun a w hF hB hE Q => ?s2⟩, fun h => absurd h (by decide), fun h => absurd h (by decide)⟩, ⟨rfl, fun _ _ => ⟨rfl, fun a w hF hB hE Q => ?s3⟩, fun h => absurd h (by decide), fun h => absurd h (by decide)⟩, ⟨rfl, fun _ _ => ⟨rfl, fun a w hF hB hE Q => ?s4⟩, fun h => absurd h (by decide), fun h => absurd h (by decide)⟩, ⟨rfl, fun _ _ => ⟨rfl, fun a w hF hB hE Q => ?s5⟩, fun h => absurd h (by decide), fun h => absurd h (by decide)⟩, ⟨rfl, fun _ _ => ⟨rfl, fun a w hF hB hE Q => ?s6⟩, fun h => absurd h (by decide), fun h => absurd h (by decide)⟩, ⟨rfl, fun _ _ => ⟨rfl, fun a w hF hB hE Q => ?s7⟩, fun h => absurd h (by decide), fun h => absurd h (by decide)⟩, ⟨rfl, fun _ _ => ⟨rfl, fun a w hF hB hE Q => ?s8⟩, fun h => absurd h (by decide), fun h => absurd h (by decide)⟩, ⟨rfl, fun _ _ => ⟨rfl, fun a w hF hB hE Q => ?s9⟩, fun h => absurd h (by decide), fun h => absurd h (by decide)⟩, ⟨rfl, fun _ _ => ⟨rfl, fun a w hF hB hE Q => ?s10⟩, fun h => absurd h (by decide), fun h => absurd h (by decide)⟩, ⟨rfl, fun _ _ => ⟨rfl, fun a w hF hB hE Q => ?s11⟩, fun h => absurd h (by decide), fun h => absurd h (by decide)⟩, ⟨rfl, fun _ _ => ⟨rfl, fun a w hF hB hE Q => ?s12⟩, fun h => absurd h (by decide), fun h => absurd h (by decide)⟩, ⟨rfl, fun h => absurd rfl h, fun _ => ⟨rfl, fun a w hF Q => ?s13⟩, fun h => absurd h (by decide)⟩, ⟨rfl, fun _ h => absurd rfl h, fun h => absurd h (by decide), fun _ a w A hF hE hA hc0 Q => ?s14⟩, ⟨rfl, fun _ _ => ⟨rfl, fun a w hF hB hE Q => ?s15⟩, fun h => absurd h (by decide), fun h => absurd h (by decide)⟩, trivial⟩
    case s0 =>
      have f1 := hF.slot (k := 1) (by omega) q1
      exact obv (v := .pointer (some ⟨Tb, 0, none⟩)) (w' := w) (by simp [execOp, Act.eval, go_sem, f1]) (Below.refl _ _)
    case s1 =>
      have h0 : T a 8 = .pointer (some ⟨Tb, 0, none⟩) := hE ⟨0, .data⟩ (by simp) rfl (by decide) (by decide)
      exact obv (v := .pointer (some ⟨Tb, 0, none⟩)) (w' := w) (by simp [execOp, Act.eval, go_sem, h0]) (Below.refl _ _)
    case s2 =>
      have h1 : T a 9 = .pointer (some ⟨Tb, 0, none⟩) := hE ⟨1, .data⟩ (by simp) rfl (by decide) (by decide)
      exact obv (v := .pointer (some ⟨Tb, 0, none⟩)) (w' := w) (by simp [execOp, Act.eval, go_sem, h1]) (Below.refl _ _)
    case s3 =>
      have h2 : T a 10 = .pointer (some ⟨Tb, 0, none⟩) := hE ⟨2, .data⟩ (by simp) rfl (by decide) (by decide)
      have x0 := cell_later hB _ _ _ cT
      exact obv (v := .pointer (some ⟨Bd, 0, none⟩)) (w' := w) (by simp [execOp, Act.eval, go_sem, h2, x0]) (Below.refl _ _)
    case s4 =>
      have f0 := hF.slot (k := 0) (by omega) q0
      exact obv (v := .pointer (some ⟨F, 0, none⟩)) (w' := w) (by simp [execOp, Act.eval, go_sem, f0]) (Below.refl _ _)
    case s5 =>
      have h4 : T a 12 = .pointer (some ⟨F, 0, none⟩) := hE ⟨4, .data⟩ (by simp) rfl (by decide) (by decide)
      exact obv (v := .pointer (some ⟨F, 0, none⟩)) (w' := w) (by simp [execOp, Act.eval, go_sem, h4]) (Below.refl _ _)
    case s6 =>
      have h5 : T a 13 = .pointer (some ⟨F, 0, none⟩) := hE ⟨5, .data⟩ (by simp) rfl (by decide) (by decide)
      exact obv (v := .pointer (some ⟨F, 1, none⟩)) (w' := w) (by simp [execOp, Act.eval, go_sem, h5]) (Below.refl _ _)
    case s7 =>
      have h6 : T a 14 = .pointer (some ⟨F, 1, none⟩) := hE ⟨6, .data⟩ (by simp) rfl (by decide) (by decide)
      exact obv (v := .pointer (some ⟨F, 2, none⟩)) (w' := w) (by simp [execOp, Act.eval, go_sem, h6]) (Below.refl _ _)
    case s8 =>
      have h7 : T a 15 = .pointer (some ⟨F, 2, none⟩) := hE ⟨7, .data⟩ (by simp) rfl (by decide) (by decide)
      have x0 := cell_later hB _ _ _ c2
      exact obv (v := .int .i64 mn) (w' := w) (by simp [execOp, Act.eval, go_sem, h7, x0]) (Below.refl _ _)
    case s9 =>
      have h3 : T a 11 = .pointer (some ⟨Bd, 0, none⟩) := hE ⟨3, .data⟩ (by simp) rfl (by decide) (by decide)
      have h8 : T a 16 = .int .i64 mn := hE ⟨8, .data⟩ (by simp) rfl (by decide) (by decide)
      refine obv_enter (f := 57) (args := #[.pointer (some ⟨Bd, 0, none⟩), .int .i64 mn]) ?_ (hc w hB)
      simp [Act.eval, go_sem, h3, h8]
      try exact (fun args w => by simp [go_sem] : Enters 57) _ _
    case s10 =>
      have h9 : T a 17 = .tuple #[.agg #[.int .i64 (n : Nat), .int .i64 (q : Nat), .int .i64 (g : Nat), .int .i64 (z : Nat)], .int .i64 (x : Nat)] := hE ⟨9, .data⟩ (by simp) rfl (by decide) (by decide)
      exact obv (v := .tuple #[.agg #[.int .i64 (n : Nat), .int .i64 (q : Nat), .int .i64 (g : Nat), .int .i64 (z : Nat)], .int .i64 (x : Nat)]) (w' := w) (by simp [execOp, Act.eval, go_sem, h9]) (Below.refl _ _)
    case s11 =>
      have h10 : T a 7 = .tuple #[.agg #[.int .i64 (n : Nat), .int .i64 (q : Nat), .int .i64 (g : Nat), .int .i64 (z : Nat)], .int .i64 (x : Nat)] := hE ⟨10, .data⟩ (by simp) rfl (by decide) (by decide)
      exact obv (v := .agg #[.int .i64 (n : Nat), .int .i64 (q : Nat), .int .i64 (g : Nat), .int .i64 (z : Nat)]) (w' := w) (by simp [execOp, Act.eval, go_sem, h10]) (Below.refl _ _)
    case s12 =>
      have h10 : T a 7 = .tuple #[.agg #[.int .i64 (n : Nat), .int .i64 (q : Nat), .int .i64 (g : Nat), .int .i64 (z : Nat)], .int .i64 (x : Nat)] := hE ⟨10, .data⟩ (by simp) rfl (by decide) (by decide)
      exact obv (v := .int .i64 (x : Nat)) (w' := w) (by simp [execOp, Act.eval, go_sem, h10]) (Below.refl _ _)
    case s13 =>
      exact oba (by simp [execOp, go_sem])
    case s14 =>
      have h11 : T a 18 = .agg #[.int .i64 (n : Nat), .int .i64 (q : Nat), .int .i64 (g : Nat), .int .i64 (z : Nat)] := hE ⟨11, .data⟩ (by simp) rfl (by decide) (by decide)
      have hA : T a 5 = .pointer (some ⟨A, 0, none⟩) := hA
      exact obs_stat rfl rfl hA (by first | assumption) hc0
    case s15 =>
      have h12 : T a 19 = .int .i64 (x : Nat) := hE ⟨12, .data⟩ (by simp) rfl (by decide) (by decide)
      exact obv (v := .int .i64 (x : Nat)) (w' := w) (by simp [execOp, Act.eval, go_sem, h12]) (Below.refl _ _)
  case fin =>
    intro a w hF hB hV hX
    obtain ⟨A, hA, hA2, hA3⟩ := hX
    obtain ⟨p, hp, hv, ha⟩ := fr1_laid hF hsz (by decide) (by decide)
    rw [ha]
    refine K A w p hB hA2 hA3 hp ?_ ?_
    · exact (hv 0 (by decide)).trans hA
    · exact (hv 1 (by decide)).trans (hV 15 (by decide) (by decide) (by decide))
def DBa (i : Nat) : Nat := [8, 9, 10, 11, 12, 13, 14, 15, 16, 17, 7, 18, 19, 5, 5, 6].getD i 0
set_option linter.unusedVariables false in
def VBa (F Tb Bd n q g z x : Nat) (mn : Int) : Nat → Value
  | 0 => .pointer (some ⟨Tb, 0, none⟩)
  | 1 => .pointer (some ⟨Tb, 0, none⟩)
  | 2 => .pointer (some ⟨Tb, 0, none⟩)
  | 3 => .pointer (some ⟨Bd, 0, none⟩)
  | 4 => .pointer (some ⟨F, 0, none⟩)
  | 5 => .pointer (some ⟨F, 0, none⟩)
  | 6 => .pointer (some ⟨F, 1, none⟩)
  | 7 => .pointer (some ⟨F, 2, none⟩)
  | 8 => .int .i64 mn
  | 9 => .tuple #[.agg #[.int .i64 (n : Nat), .int .i64 (q : Nat), .int .i64 (g : Nat), .int .i64 (z : Nat)], .int .i64 (x : Nat)]
  | 10 => .tuple #[.agg #[.int .i64 (n : Nat), .int .i64 (q : Nat), .int .i64 (g : Nat), .int .i64 (z : Nat)], .int .i64 (x : Nat)]
  | 11 => .agg #[.int .i64 (n : Nat), .int .i64 (q : Nat), .int .i64 (g : Nat), .int .i64 (z : Nat)]
  | 12 => .int .i64 (x : Nat)
  | 15 => .int .i64 (x : Nat)
  | _ => undef
set_option linter.unusedVariables false in
set_option maxRecDepth 100000 in
set_option maxHeartbeats 2000000 in
theorem regBa (F Tb Bd n q g z x : Nat) (mn : Int) {act : Act} {w0 : World} {Q : Exit → Act → World → Prop} {ops : Array Oper} (hops : ops = opsOf Try.f43 1) (hsz : act.tmps.size = 52) (q0 : T act 0 = .pointer (some ⟨F, 0, none⟩)) (q1 : T act 1 = .pointer (some ⟨Tb, 0, none⟩)) (cT : w0.cell? ⟨Tb, 0, none⟩ = some (.pointer (some ⟨Bd, 0, none⟩))) (c2 : w0.cell? ⟨F, 2, none⟩ = some (.int .i64 mn)) 
    (hc : ∀ u, Below w0.heap.size w0 u → Calls Try.prog 57 #[.pointer (some ⟨Bd, 0, none⟩), .int .i64 mn] u fun e w' => e = .returned (.tuple #[.agg #[.int .i64 (n : Nat), .int .i64 (q : Nat), .int .i64 (g : Nat), .int .i64 (z : Nat)], .int .i64 (x : Nat)]) ∧ Below u.heap.size u w')
    (K : ∀ A w' (p : List Value), Below w0.heap.size w0 w' → w0.heap.size ≤ A → w'.heap[A]? = some (.cells #[.int .i64 (n : Nat), .int .i64 (q : Nat), .int .i64 (g : Nat), .int .i64 (z : Nat)] 64 (0, 0)) → p.length = 15 → p.getD 0 undef = .pointer (some ⟨A, 0, none⟩) → p.getD 1 undef = .int .i64 (x : Nat) → Q .normal ⟨(act.tmps.toList.take 5 ++ (p ++ act.tmps.toList.drop 20)).toArray, act.defers⟩ w') : (Code.region 1 ops true).wp Try.prog Q act w0 := by
  subst hops
  refine wp_region_box (by kernel_rfl) 16 13 14 64 #[.int .i64 0, .int .i64 0, .int .i64 0, .int .i64 0] #[.int .i64 (n : Nat), .int .i64 (q : Nat), .int .i64 (g : Nat), .int .i64 (z : Nat)] (by kernel_rfl) (by decide) (by decide) (by decide) DBa (VBa F Tb Bd n q g z x mn) (Fr1 5 20 52 act) ?f0 ?sz ?inj ?wf ?sal ?duty ?fin ⟨hsz, rfl, fun _ _ => rfl⟩
  case f0 => intro a i x hi h; exact h.put ((by decide : ∀ i, i < 16 → (5 ≤ DBa i ∧ DBa i < 20) ∨ 52 ≤ DBa i) i hi) x
  case sz => intro a i hi h; rw [h.1]; exact (by decide : ∀ i, i < 16 → DBa i < 52) i hi
  case inj => intro i j hi hj x y h; exact (by decide : ∀ i, i < 16 → ∀ j, j < 16 → i ≠ 14 → j ≠ 14 → DBa i = DBa j → i = j) i hi j hj x y h
  case wf => exact wfB_at (by kernel_rfl)
  case sal => intro o ho; have e : (opsOf Try.f43 1)[14]? = some o := ho; exact sal_at (by kernel_rfl) o e
  case duty =>
    refine ⟨⟨rfl, fun _ _ => ⟨rfl, fun a w hF hB hE Q => ?s0⟩, fun h => absurd h (by decide), fun h => absurd h (by decide)⟩, ⟨rfl, fun _ _ => ⟨rfl, fun a w hF hB hE Q => ?s1⟩, fun h => absurd h (by decide), fun h => absurd h (by decide)⟩, ⟨rfl, fun _ _ => ⟨rfl, fun a w hF hB hE Q => ?s2⟩, fun h => absurd h (by decide), fun h => absurd h (by decide)⟩, ⟨rfl, fun _ _ => ⟨rfl, fun a w hF hB hE Q => ?s3⟩, fun h => absurd h (by decide), fun h => absurd h (by decide)⟩, ⟨rfl, fun _ _ => ⟨rfl, fun a w hF hB hE Q => ?s4⟩, fun h => absurd h (by decide), fun h => absurd h (by decide)⟩, ⟨rfl, fun _ _ => ⟨rfl, fun a w hF hB hE Q => ?s5⟩, fun h => absurd h (by decide), fun h => absurd h (by decide)⟩, ⟨rfl, fun _ _ => ⟨rfl, fun a w hF hB hE Q => ?s6⟩, fun h => absurd h (by decide), fun h => absurd h (by decide)⟩, ⟨rfl, fun _ _ => ⟨rfl, fun a w hF hB hE Q => ?s7⟩, fun h => absurd h (by decide), fun h => absurd h (by decide)⟩, ⟨rfl, fun _ _ => ⟨rfl, fun a w hF hB hE Q => ?s8⟩, fun h => absurd h (by decide), fun h => absurd h (by decide)⟩, ⟨rfl, fun _ _ => ⟨rfl, fun a w hF hB hE Q => ?s9⟩, fun h => absurd h (by decide), fun h => absurd h (by decide)⟩, ⟨rfl, fun _ _ => ⟨rfl, fun a w hF hB hE Q => ?s10⟩, fun h => absurd h (by decide), fun h => absurd h (by decide)⟩, ⟨rfl, fun _ _ => ⟨rfl, fun a w hF hB hE Q => ?s11⟩, fun h => absurd h (by decide), fun h => absurd h (by decide)⟩, ⟨rfl, fun _ _ => ⟨rfl, fun a w hF hB hE Q => ?s12⟩, fun h => absurd h (by decide), fun h => absurd h (by decide)⟩, ⟨rfl, fun h => absurd rfl h, fun _ => ⟨rfl, fun a w hF Q => ?s13⟩, fun h => absurd h (by decide)⟩, ⟨rfl, fun _ h => absurd rfl h, fun h => absurd h (by decide), fun _ a w A hF hE hA hc0 Q => ?s14⟩, ⟨rfl, fun _ _ => ⟨rfl, fun a w hF hB hE Q => ?s15⟩, fun h => absurd h (by decide), fun h => absurd h (by decide)⟩, trivial⟩
    case s0 =>
      have f1 := hF.slot (k := 1) (by omega) q1
      exact obv (v := .pointer (some ⟨Tb, 0, none⟩)) (w' := w) (by simp [execOp, Act.eval, go_sem, f1]) (Below.refl _ _)
    case s1 =>
      have h0 : T a 8 = .pointer (some ⟨Tb, 0, none⟩) := hE ⟨0, .data⟩ (by simp) rfl (by decide) (by decide)
      exact obv (v := .pointer (some ⟨Tb, 0, none⟩)) (w' := w) (by simp [execOp, Act.eval, go_sem, h0]) (Below.refl _ _)
    case s2 =>
      have h1 : T a 9 = .pointer (some ⟨Tb, 0, none⟩) := hE ⟨1, .data⟩ (by simp) rfl (by decide) (by decide)
      exact obv (v := .pointer (some ⟨Tb, 0, none⟩)) (w' := w) (by simp [execOp, Act.eval, go_sem, h1]) (Below.refl _ _)
    case s3 =>
      have h2 : T a 10 = .pointer (some ⟨Tb, 0, none⟩) := hE ⟨2, .data⟩ (by simp) rfl (by decide) (by decide)
      have x0 := cell_later hB _ _ _ cT
      exact obv (v := .pointer (some ⟨Bd, 0, none⟩)) (w' := w) (by simp [execOp, Act.eval, go_sem, h2, x0]) (Below.refl _ _)
    case s4 =>
      have f0 := hF.slot (k := 0) (by omega) q0
      exact obv (v := .pointer (some ⟨F, 0, none⟩)) (w' := w) (by simp [execOp, Act.eval, go_sem, f0]) (Below.refl _ _)
    case s5 =>
      have h4 : T a 12 = .pointer (some ⟨F, 0, none⟩) := hE ⟨4, .data⟩ (by simp) rfl (by decide) (by decide)
      exact obv (v := .pointer (some ⟨F, 0, none⟩)) (w' := w) (by simp [execOp, Act.eval, go_sem, h4]) (Below.refl _ _)
    case s6 =>
      have h5 : T a 13 = .pointer (some ⟨F, 0, none⟩) := hE ⟨5, .data⟩ (by simp) rfl (by decide) (by decide)
      exact obv (v := .pointer (some ⟨F, 1, none⟩)) (w' := w) (by simp [execOp, Act.eval, go_sem, h5]) (Below.refl _ _)
    case s7 =>
      have h6 : T a 14 = .pointer (some ⟨F, 1, none⟩) := hE ⟨6, .data⟩ (by simp) rfl (by decide) (by decide)
      exact obv (v := .pointer (some ⟨F, 2, none⟩)) (w' := w) (by simp [execOp, Act.eval, go_sem, h6]) (Below.refl _ _)
    case s8 =>
      have h7 : T a 15 = .pointer (some ⟨F, 2, none⟩) := hE ⟨7, .data⟩ (by simp) rfl (by decide) (by decide)
      have x0 := cell_later hB _ _ _ c2
      exact obv (v := .int .i64 mn) (w' := w) (by simp [execOp, Act.eval, go_sem, h7, x0]) (Below.refl _ _)
    case s9 =>
      have h3 : T a 11 = .pointer (some ⟨Bd, 0, none⟩) := hE ⟨3, .data⟩ (by simp) rfl (by decide) (by decide)
      have h8 : T a 16 = .int .i64 mn := hE ⟨8, .data⟩ (by simp) rfl (by decide) (by decide)
      refine obv_enter (f := 57) (args := #[.pointer (some ⟨Bd, 0, none⟩), .int .i64 mn]) ?_ (hc w hB)
      simp [Act.eval, go_sem, h3, h8]
      try exact (fun args w => by simp [go_sem] : Enters 57) _ _
    case s10 =>
      have h9 : T a 17 = .tuple #[.agg #[.int .i64 (n : Nat), .int .i64 (q : Nat), .int .i64 (g : Nat), .int .i64 (z : Nat)], .int .i64 (x : Nat)] := hE ⟨9, .data⟩ (by simp) rfl (by decide) (by decide)
      exact obv (v := .tuple #[.agg #[.int .i64 (n : Nat), .int .i64 (q : Nat), .int .i64 (g : Nat), .int .i64 (z : Nat)], .int .i64 (x : Nat)]) (w' := w) (by simp [execOp, Act.eval, go_sem, h9]) (Below.refl _ _)
    case s11 =>
      have h10 : T a 7 = .tuple #[.agg #[.int .i64 (n : Nat), .int .i64 (q : Nat), .int .i64 (g : Nat), .int .i64 (z : Nat)], .int .i64 (x : Nat)] := hE ⟨10, .data⟩ (by simp) rfl (by decide) (by decide)
      exact obv (v := .agg #[.int .i64 (n : Nat), .int .i64 (q : Nat), .int .i64 (g : Nat), .int .i64 (z : Nat)]) (w' := w) (by simp [execOp, Act.eval, go_sem, h10]) (Below.refl _ _)
    case s12 =>
      have h10 : T a 7 = .tuple #[.agg #[.int .i64 (n : Nat), .int .i64 (q : Nat), .int .i64 (g : Nat), .int .i64 (z : Nat)], .int .i64 (x : Nat)] := hE ⟨10, .data⟩ (by simp) rfl (by decide) (by decide)
      exact obv (v := .int .i64 (x : Nat)) (w' := w) (by simp [execOp, Act.eval, go_sem, h10]) (Below.refl _ _)
    case s13 =>
      exact oba (by simp [execOp, go_sem])
    case s14 =>
      have h11 : T a 18 = .agg #[.int .i64 (n : Nat), .int .i64 (q : Nat), .int .i64 (g : Nat), .int .i64 (z : Nat)] := hE ⟨11, .data⟩ (by simp) rfl (by decide) (by decide)
      have hA : T a 5 = .pointer (some ⟨A, 0, none⟩) := hA
      exact obs_stat rfl rfl hA (by first | assumption) hc0
    case s15 =>
      have h12 : T a 19 = .int .i64 (x : Nat) := hE ⟨12, .data⟩ (by simp) rfl (by decide) (by decide)
      exact obv (v := .int .i64 (x : Nat)) (w' := w) (by simp [execOp, Act.eval, go_sem, h12]) (Below.refl _ _)
  case fin =>
    intro a w hF hB hV hX
    obtain ⟨A, hA, hA2, hA3⟩ := hX
    obtain ⟨p, hp, hv, ha⟩ := fr1_laid hF hsz (by decide) (by decide)
    rw [ha]
    refine K A w p hB hA2 hA3 hp ?_ ?_
    · exact (hv 0 (by decide)).trans hA
    · exact (hv 1 (by decide)).trans (hV 15 (by decide) (by decide) (by decide))
end Go.Proofs.Ytpikepifhnkmkaa
