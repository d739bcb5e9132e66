/- The program's way of alternatives: its drawn region. -/
import Derived.Test.YtjmbimgofceanaaG19
import Derived.Test.YtjmbimgofceanaaG18
import Derived.Test.YtjmbimgofceanaaG05
namespace Go.Proofs.Ytjmbimgofceanaa
open Go.RowKit
attribute [local go_sem ↓] Go.wp_at_zero Go.wp_at_succ

def Fr48 (act a : Act) : Prop := a.tmps.size = 30 ∧ a.defers = act.defers ∧ ∀ k, k ≠ 7 → (k < 17 ∨ 26 ≤ k) → a.tmps[k]? = act.tmps[k]?
theorem Fr48.put {act a : Act} (h : Fr48 act a) {k : Nat} (hd : k = 7 ∨ 17 ≤ k ∧ k < 26) (v : Value) : Fr48 act (a.put (some k) v) := by
  obtain ⟨h1, h2, h3⟩ := h
  refine ⟨by simp [Act.put, h1], by simp [Act.put, h2], fun j hj hj2 => ?_⟩
  simp only [Act.put]
  rw [Array.getElem?_setIfInBounds_ne (by omega)]
  exact h3 j hj hj2
theorem fr48_T {act a : Act} (h : Fr48 act a) {k : Nat} (hk : k ≠ 7) (hk2 : k < 17 ∨ 26 ≤ k) : T a k = T act k := by unfold T; rw [h.2.2 k hk hk2]
theorem fr48_lit {act a : Act} (h : Fr48 act a) (hs : act.tmps.size = 30) : a = ((((((((((act.put (some 7) (T a 7)).put (some 17) (T a 17)).put (some 18) (T a 18)).put (some 19) (T a 19)).put (some 20) (T a 20)).put (some 21) (T a 21)).put (some 22) (T a 22)).put (some 23) (T a 23)).put (some 24) (T a 24)).put (some 25) (T a 25)) := by
  obtain ⟨h1, h2, h3⟩ := h
  obtain ⟨tmps, defers⟩ := a
  simp only at h1 h2 h3
  simp only [Act.put, Act.mk.injEq]
  refine ⟨?_, h2⟩
  apply Array.ext_getElem?
  intro k
  have hT : ∀ j, j < 30 → tmps[j]? = some (T ⟨tmps, defers⟩ j) := fun j hj => by
    have : j < tmps.size := by omega
    simp [T, this]
  by_cases hk : k ≠ 7 ∧ (k < 17 ∨ 26 ≤ k)
  · rw [h3 k hk.1 hk.2, Array.getElem?_setIfInBounds_ne (by omega), Array.getElem?_setIfInBounds_ne (by omega), Array.getElem?_setIfInBounds_ne (by omega), Array.getElem?_setIfInBounds_ne (by omega), Array.getElem?_setIfInBounds_ne (by omega), Array.getElem?_setIfInBounds_ne (by omega), Array.getElem?_setIfInBounds_ne (by omega), Array.getElem?_setIfInBounds_ne (by omega), Array.getElem?_setIfInBounds_ne (by omega), Array.getElem?_setIfInBounds_ne (by omega)]
  · have hk' : k = 7 ∨ k = 17 ∨ k = 18 ∨ k = 19 ∨ k = 20 ∨ k = 21 ∨ k = 22 ∨ k = 23 ∨ k = 24 ∨ k = 25 := by omega
    rcases hk' with rfl | rfl | rfl | rfl | rfl | rfl | rfl | rfl | rfl | rfl <;> rw [hT _ (by decide)] <;> simp [hs]
def R48 (B a : Nat) (V : Value) (v : Nd) : Nat → Value → Prop
  | 0, x => x = V
  | 1, x => x = .pointer (some ⟨B, 0, none⟩)
  | 2, x => x = v.val
  | 3, x => x = .pointer (some ⟨B, 0, none⟩)
  | 4, x => x = .int .i64 (a : Nat)
  | _, _ => True
def S48 (act : Act) (W : World) (V : Value) (s : Nat) (e : Nat) (P1 P2 : World → Prop) (P3 : Nat → World → Prop) (P4 : Value → World → Prop) (j : Nat) (x : Act) (u : World) : Prop :=
  Fr48 act x ∧ (j ≤ 9 → T x 7 = V) ∧ (j = 5 → u = W.drew) ∧ (j = 6 → T x 22 = .int .i64 (s : Nat) ∧ P1 u) ∧ (j = 7 → T x 23 = .int .i64 (e : Nat) ∧ P2 u) ∧ (j = 8 → ∃ g, T x 24 = .slice (some ⟨g, 0, none⟩) 1 1 ∧ P3 g u) ∧ (j = 9 → ∃ V', T x 25 = V' ∧ P4 V' u) ∧ (j = 10 → ∃ V', T x 7 = V' ∧ P4 V' u)
section
variable {o : Oper} {a : Act} {w w' : World} {Q : Exit → Act → World → Prop}
attribute [local go_sem] Oper.semAt_some
set_option maxRecDepth 20000 in
theorem oc_call2 {K : Act → World → Prop} {p q f : Nat} {ts : Array TypeId} {v1 v2 : Value} (ho : o.op = .call { callee := .value (.func f), args := #[.tmp p, .tmp q], argTypes := ts }) (hf : Enters f) (h1 : T a p = v1) (h2 : T a q = v2) (hc : Calls Try.prog f #[v1, v2] w fun e w' => ∃ v, e = .returned v ∧ K (a.put o.dst v) w') : o.wp Try.prog a w K Q := by
  obtain ⟨dst, op, type, pos, after, guard⟩ := o
  simp only at ho
  subst ho
  refine oc_enter (args := #[v1, v2]) ?_ hc
  simp [Act.eval, h1, h2, go_sem]
  exact hf _ _
set_option maxRecDepth 20000 in
theorem oc_call3 {K : Act → World → Prop} {p q t f : Nat} {ts : Array TypeId} {v1 v2 v3 : Value} (ho : o.op = .call { callee := .value (.func f), args := #[.tmp p, .tmp q, .tmp t], argTypes := ts }) (hf : Enters f) (h1 : T a p = v1) (h2 : T a q = v2) (h3 : T a t = v3) (hc : Calls Try.prog f #[v1, v2, v3] w fun e w' => ∃ v, e = .returned v ∧ K (a.put o.dst v) w') : o.wp Try.prog a w K Q := by
  obtain ⟨dst, op, type, pos, after, guard⟩ := o
  simp only at ho
  subst ho
  refine oc_enter (args := #[v1, v2, v3]) ?_ hc
  simp [Act.eval, h1, h2, h3, go_sem]
  exact hf _ _
set_option maxRecDepth 20000 in
theorem oc_slice1 {K : Act → World → Prop} {p e : Nat} (ho : o.op = .buildSlice 96 1 #[(0, .tmp p)]) (hty : o.type = 96) (hp : T a p = .int .i64 (e : Nat)) (hr : K (a.put o.dst (.slice (some ⟨w.heap.size, 0, none⟩) 1 1)) (w.alloc (.cells #[.int .i64 (e : Nat)] 3))) : o.wp Try.prog a w K Q := by
  obtain ⟨dst, op, type, pos, after, guard⟩ := o
  simp only at ho hty
  subst ho hty
  refine oc_value (w' := w.alloc (.cells #[.int .i64 (e : Nat)] 3)) ?_ hr
  simp [execOp, Act.eval, hp, go_sem]
theorem run_append_int (w : World) (ty : TypeId) (base : Nat) (V : Value) (l : List Nat) (hn : RowI w base V l) (ad : Addr) (cap : Nat) (x : Nat) (hc : w.cell? ad = some (.int .i64 (x : Nat))) (hl : l.length ≤ 2000000) (hb : base ≤ w.heap.size) :
    ∃ g cap' w', (Builtin.append_ #[96, 96] ty #[V, .slice (some ad) 1 cap]).run Try.prog w = .ok (.slice (some ⟨g, 0, none⟩) (l.length + 1) cap') w' ∧ RowI w' base (.slice (some ⟨g, 0, none⟩) (l.length + 1) cap') (l ++ [x]) ∧ w.grownBy w' V.ownBlock := by
  obtain ⟨i0, hi, hz0, hz1, hz2⟩ := info_parts info3
  obtain ⟨g, cap', w', hr, ho2, hg, hgg, hlt⟩ := run_append_lies (P := Try.prog) w 96 ty base 3 i0 _ 1 8 Try.underlying96 hi hz0 hz1 hz2 rfl (by decide) V l.length _ hn ad 1 cap [.int .i64 (x : Nat)] rfl
    (fun j v hj => by
      cases j with
      | zero => simp at hj; subst hj; simpa [Addr.add] using hc
      | succ j => simp at hj) (fun v hv => by simp at hv; subst hv; rfl) (by decide) (by simp only [maxLen]; omega) (by omega) hb w.heap.size rfl
  refine ⟨g, cap', w', hr, ?_, hg⟩
  unfold RowI
  rw [List.length_append, List.map_append]
  exact ho2
theorem oc_append {K : Act → World → Prop} {p q : Nat} {V V' W : Value} (ho : o.op = .call { callee := .builtin .append, args := #[.tmp p, .tmp q], argTypes := #[96, 96] }) (h1 : T a p = V) (h2 : T a q = W) (hrun : (Builtin.append_ #[96, 96] o.type #[V, W]).run Try.prog w = .ok V' w') (hr : K (a.put o.dst V') w') : o.wp Try.prog a w K Q := by
  obtain ⟨dst, op, type, pos, after, guard⟩ := o
  simp only at ho hrun
  subst ho
  refine oc_value (v := V') (w' := w') ?_ hr
  have g1 : a.eval (.tmp p) = V := by simpa [Act.eval] using h1
  have g2 : a.eval (.tmp q) = W := by simpa [Act.eval] using h2
  simp only [execOp, resolve, invoke, builtin, Sem.run_bind, Sem.run_pure, Result.andThen_ok, List.map_toArray, List.map_cons, List.map_nil, g1, g2, hrun]
end
theorem ent69 : Enters 69 := fun args w => by simp [go_sem]
theorem ent29 : Enters 29 := fun args w => by simp [go_sem]
set_option maxRecDepth 100000 in
set_option maxHeartbeats 1000000 in
theorem reg48 {act : Act} {W : World} {B A a s e : Nat} {V : Value} {v : Nd} {P1 P2 : World → Prop} {P3 : Nat → World → Prop} {P4 : Value → World → Prop} {Q : Exit → Act → World → Prop} (hsz : act.tmps.size = 30) (hT0 : T act 0 = .pointer (some ⟨B, 0, none⟩)) (hT2 : T act 2 = .int .i64 (a : Nat)) (hT7 : T act 7 = V) (hT9 : T act 9 = .pointer (some ⟨A, 0, none⟩))
    (hnb : NB W A v) (hN1 : ∀ u, P1 u → NB u A v)
    (h1 : Calls Try.prog 69 #[.pointer (some ⟨B, 0, none⟩), .int .i64 (a : Nat)] W.drew fun x u => x = .returned (.int .i64 (s : Nat)) ∧ P1 u)
    (h2 : ∀ u, P1 u → Calls Try.prog 29 #[.pointer (some ⟨B, 0, none⟩), v.val, .int .i64 (s : Nat)] u fun x u => x = .returned (.int .i64 (e : Nat)) ∧ P2 u)
    (h3 : ∀ u, P2 u → P3 u.heap.size (u.alloc (.cells #[.int .i64 (e : Nat)] 3)))
    (h4 : ∀ g u ty, P3 g u → ∃ V' u', (Builtin.append_ #[96, 96] ty #[V, .slice (some ⟨g, 0, none⟩) 1 1]).run Try.prog u = .ok V' u' ∧ P4 V' u')
    (K : ∀ a' W' V', Fr48 act a' → T a' 7 = V' → P4 V' W' → Q .normal a' W') : (Code.region 5 (opsOf Try.f48 5) true).wp Try.prog Q act W := by
  refine wp_region_chain2 (by kernel_rfl) 5 10 (by kernel_rfl) (by decide) (fun i => 17 + i) (R48 B a V v) (S48 act W V s e P1 P2 P3 P4) ?put ?sz ?inj (by kernel_rfl) (fun i => match i with | 0 => 8 | 1 => 6 | 2 => 6 | _ => 5) (by kernel_rfl) ?duty ?fin ⟨⟨hsz, rfl, fun _ _ _ => rfl⟩, fun _ => hT7, fun _ => rfl, fun h => absurd h (by decide), fun h => absurd h (by decide), fun h => absurd h (by decide), fun h => absurd h (by decide), fun h => absurd h (by decide)⟩
  case put =>
    rintro j x u i y hi ⟨g1, g2, g3, g4, g5, g6, g7, g8⟩
    refine ⟨g1.put (Or.inr (by omega)) y, fun h => ?_, g3, fun h => ?_, fun h => ?_, fun h => ?_, fun h => ?_, fun h => ?_⟩
    · rw [put_T (by omega)]; exact g2 h
    · rw [put_T (by omega)]; exact g4 h
    · rw [put_T (by omega)]; exact g5 h
    · rw [put_T (by omega)]; exact g6 h
    · rw [put_T (by omega)]; exact g7 h
    · rw [put_T (by omega)]; exact g8 h
  case sz =>
    intro j x u i hi h
    rw [h.1.1]
    show 17 + i < 30
    omega
  case inj =>
    intro i j _ _ h
    exact Nat.add_left_cancel h
  case fin =>
    intro x u h _
    obtain ⟨V', e1, e2⟩ := h.2.2.2.2.2.2.2 rfl
    exact K x u V' h.1 e1 e2
  case duty =>
    have hTa : ∀ {j : Nat} {x : Act} {u : World}, S48 act W V s e P1 P2 P3 P4 j x u → ∀ {k : Nat}, k ≠ 7 → (k < 17 ∨ 26 ≤ k) → T x k = T act k := fun h k hk hk2 => fr48_T h.1 hk hk2
    refine ⟨⟨rfl, by simp, fun _ => ⟨rfl, fun j x u hj5 hj hS hE Q => ?s0⟩, fun h => absurd h (by decide)⟩, ⟨rfl, by simp, fun _ => ⟨rfl, fun j x u hj5 hj hS hE Q => ?s1⟩, fun h => absurd h (by decide)⟩, ⟨rfl, by simp, fun _ => ⟨rfl, fun j x u hj5 hj hS hE Q => ?s2⟩, fun h => absurd h (by decide)⟩, ⟨rfl, by simp, fun _ => ⟨rfl, fun j x u hj5 hj hS hE Q => ?s3⟩, fun h => absurd h (by decide)⟩, ⟨rfl, by simp, fun _ => ⟨rfl, fun j x u hj5 hj hS hE Q => ?s4⟩, fun h => absurd h (by decide)⟩, ⟨rfl, by simp, fun h => absurd h (by decide), fun _ x u hS hE => ?c5⟩, ⟨rfl, by simp, fun h => absurd h (by decide), fun _ x u hS hE => ?c6⟩, ⟨rfl, by simp, fun h => absurd h (by decide), fun _ x u hS hE => ?c7⟩, ⟨rfl, by simp, fun h => absurd h (by decide), fun _ x u hS hE => ?c8⟩, ⟨rfl, by simp, fun h => absurd h (by decide), fun _ x u hS hE => ?c9⟩, trivial⟩
    case s0 => exact og_move rfl (hS.2.1 (by have := hj; simp only at this; omega)) rfl
    case s1 => exact og_move rfl ((hTa hS (by decide) (by decide)).trans hT0) rfl
    case s2 =>
      refine og_node rfl ((hTa hS (by decide) (by decide)).trans hT9) ?_ rfl
      have hj' : j ≤ 6 := hj
      by_cases h5 : j = 5
      · rw [hS.2.2.1 h5]; exact hnb
      · by_cases h6 : j = 6
        · exact hN1 u (hS.2.2.2.1 h6).2
        · exact absurd hj5 (by omega)
    case s3 => exact og_move rfl ((hTa hS (by decide) (by decide)).trans hT0) rfl
    case s4 => exact og_move rfl ((hTa hS (by decide) (by decide)).trans hT2) rfl
    case c5 =>
      have hu := hS.2.2.1 rfl
      subst hu
      refine oc_call2 rfl ent69 (hE ⟨3, .data⟩ (by simp) (by decide) rfl) (hE ⟨4, .data⟩ (by simp) (by decide) rfl) (h1.mono ?_)
      rintro x' u' ⟨rfl, hP⟩
      exact ⟨_, rfl, ⟨hS.1.put (Or.inr (by decide)) _, fun _ => by rw [put_T (by decide)]; exact hS.2.1 (by decide), fun h => absurd h (by decide), fun _ => ⟨put_T' (by rw [hS.1.1]; decide), hP⟩, fun h => absurd h (by decide), fun h => absurd h (by decide), fun h => absurd h (by decide), fun h => absurd h (by decide)⟩, fun j hj => put_T (by omega)⟩
    case c6 =>
      obtain ⟨hv, hP⟩ := hS.2.2.2.1 rfl
      refine oc_call3 rfl ent29 (hE ⟨1, .data⟩ (by simp) (by decide) rfl) (hE ⟨2, .data⟩ (by simp) (by decide) rfl) hv ((h2 u hP).mono ?_)
      rintro x' u' ⟨rfl, hP⟩
      exact ⟨_, rfl, ⟨hS.1.put (Or.inr (by decide)) _, fun _ => by rw [put_T (by decide)]; exact hS.2.1 (by decide), fun h => absurd h (by decide), fun h => absurd h (by decide), fun _ => ⟨put_T' (by rw [hS.1.1]; decide), hP⟩, fun h => absurd h (by decide), fun h => absurd h (by decide), fun h => absurd h (by decide)⟩, fun j hj => put_T (by omega)⟩
    case c7 =>
      obtain ⟨hv, hP⟩ := hS.2.2.2.2.1 rfl
      refine oc_slice1 rfl rfl hv ⟨⟨hS.1.put (Or.inr (by decide)) _, fun _ => by rw [put_T (by decide)]; exact hS.2.1 (by decide), fun h => absurd h (by decide), fun h => absurd h (by decide), fun h => absurd h (by decide), fun _ => ⟨_, put_T' (by rw [hS.1.1]; decide), h3 u hP⟩, fun h => absurd h (by decide), fun h => absurd h (by decide)⟩, fun j hj => put_T (by omega)⟩
    case c8 =>
      obtain ⟨g, hv, hP⟩ := hS.2.2.2.2.2.1 rfl
      obtain ⟨V', u', hrun, hP'⟩ := h4 g u _ hP
      refine oc_append rfl (hE ⟨0, .data⟩ (by simp) (by decide) rfl) hv hrun ⟨⟨hS.1.put (Or.inr (by decide)) _, fun _ => by rw [put_T (by decide)]; exact hS.2.1 (by decide), fun h => absurd h (by decide), fun h => absurd h (by decide), fun h => absurd h (by decide), fun h => absurd h (by decide), fun _ => ⟨_, put_T' (by rw [hS.1.1]; decide), hP'⟩, fun h => absurd h (by decide)⟩, fun j hj => put_T (by omega)⟩
    case c9 =>
      obtain ⟨V', hv, hP⟩ := hS.2.2.2.2.2.2.1 rfl
      refine oc_assign rfl hv ⟨⟨hS.1.put (Or.inl rfl) _, fun h => absurd h (by decide), fun h => absurd h (by decide), fun h => absurd h (by decide), fun h => absurd h (by decide), fun h => absurd h (by decide), fun h => absurd h (by decide), fun _ => ⟨_, put_T' (by rw [hS.1.1]; decide), hP⟩⟩, fun j hj => put_T (by omega)⟩
end Go.Proofs.Ytjmbimgofceanaa

/- NfaOwn: the region that copies two machines, whatever its order. -/
namespace Go.Proofs.Ytjmbimgofceanaa
open Go.RowKit
attribute [local go_sem ↓] Go.wp_at_zero Go.wp_at_succ

def Fr10 (act a : Act) : Prop := a.tmps.size = 322 ∧ a.defers = act.defers ∧ ∀ k, k ≠ 17 → k ≠ 18 → (k < 84 ∨ 88 ≤ k) → a.tmps[k]? = act.tmps[k]?
theorem Fr10.put {act a : Act} (h : Fr10 act a) {k : Nat} (hd : k = 17 ∨ k = 18 ∨ 84 ≤ k ∧ k < 88) (v : Value) : Fr10 act (a.put (some k) v) := by
  obtain ⟨h1, h2, h3⟩ := h
  refine ⟨by simp [Act.put, h1], by simp [Act.put, h2], fun j hj hj2 hj3 => ?_⟩
  simp only [Act.put]
  rw [Array.getElem?_setIfInBounds_ne (by omega)]
  exact h3 j hj hj2 hj3
theorem fr10_T {act a : Act} (h : Fr10 act a) {k : Nat} (hk : k ≠ 17) (hk1 : k ≠ 18) (hk2 : k < 84 ∨ 88 ≤ k) : T a k = T act k := by unfold T; rw [h.2.2 k hk hk1 hk2]
theorem fr10_lit {act a : Act} (h : Fr10 act a) (hs : act.tmps.size = 322) : a = ((((((act.put (some 17) (T a 17)).put (some 18) (T a 18)).put (some 84) (T a 84)).put (some 85) (T a 85)).put (some 86) (T a 86)).put (some 87) (T a 87)) := by
  obtain ⟨h1, h2, h3⟩ := h
  obtain ⟨tmps, defers⟩ := a
  simp only at h1 h2 h3
  simp only [Act.put, Act.mk.injEq]
  refine ⟨?_, h2⟩
  apply Array.ext_getElem?
  intro k
  have hT : ∀ j, j < 322 → tmps[j]? = some (T ⟨tmps, defers⟩ j) := fun j hj => by
    have : j < tmps.size := by omega
    simp [T, this]
  by_cases hk : k ≠ 17 ∧ k ≠ 18 ∧ (k < 84 ∨ 88 ≤ k)
  · rw [h3 k hk.1 hk.2.1 hk.2.2, Array.getElem?_setIfInBounds_ne (by omega), Array.getElem?_setIfInBounds_ne (by omega), Array.getElem?_setIfInBounds_ne (by omega), Array.getElem?_setIfInBounds_ne (by omega), Array.getElem?_setIfInBounds_ne (by omega), Array.getElem?_setIfInBounds_ne (by omega)]
  · have hk' : k = 17 ∨ k = 18 ∨ k = 84 ∨ k = 85 ∨ k = 86 ∨ k = 87 := by omega
    rcases hk' with rfl | rfl | rfl | rfl | rfl | rfl <;> rw [hT _ (by decide)] <;> simp [hs]
/-- in new blocks that hold no machine -/
def Nw (W u : World) (b : Nat) : Prop := W.heap.size ≤ b ∧ ¬ TyB u 38 b
theorem Nw.later {W u u' : World} (hb : Below u.heap.size u u') {b : Nat} (h : Nw W u b) (hlt : b < u.heap.size) : Nw W u' b :=
  ⟨h.1, fun ⟨c, z, e⟩ => h.2 ⟨c, z, (hb.block b hlt).symm.trans e⟩⟩
theorem Cop.laterN {W u u' : World} {M : Ma} {x : Nf} (h : Cop (Nw W u) u M x) (hb : Below u.heap.size u u') : Cop (Nw W u') u' M x := h.keep (fun _ h hlt => h.later hb hlt) (fun b _ hlt => hb.block b hlt)
theorem Cop.put3N {W u : World} {M : Ma} {x : Nf} {X : Nat} {y z : Nf} (h : Cop (Nw W u) u M x) (hX : NFB u X y) : Cop (Nw W (put3 u X z)) (put3 u X z) M x :=
  h.keep (fun b hb hlt => ⟨hb.1, fun ⟨c, q, e⟩ => by
    by_cases hbX : b = X
    · exact hb.2 (hbX ▸ hX.ty)
    · rw [heap_put3 u X z b hbX] at e
      exact hb.2 ⟨c, q, e⟩⟩) (fun b hb _ => heap_put3 u X z b (fun e => hb.2 (e ▸ hX.ty)))
theorem Nf.val_inj {x y : Nf} (h : x.val = y.val) : x = y := by
  obtain ⟨_, _, _, _, _, _, _⟩ := x
  obtain ⟨_, _, _, _, _, _, _⟩ := y
  simp [Nf.val] at h
  obtain ⟨h1, ⟨h2, h3, h4⟩, h5, h6, h7⟩ := h
  subst h1 h2 h3 h4 h5 h6 h7
  rfl
structure I10 (act : Act) (W : World) (x y : Nf) (M N : Ma) (L : Nat → Bool) (a : Act) (u : World) : Prop where
  fr : Fr10 act a
  bl : Below W.heap.size W u
  v0 : L 0 = true → T a 84 = x.val
  v2 : L 2 = true → T a 86 = y.val
  v1 : L 1 = true → ∃ z : Nf, T a 85 = z.val ∧ Cop (Nw W u) u M z
  v3 : L 3 = true → ∃ z : Nf, T a 87 = z.val ∧ Cop (Nw W u) u N z
  v4 : L 4 = true → ∃ X z, T a 17 = .pointer (some ⟨X, 0, none⟩) ∧ W.heap.size ≤ X ∧ NFB u X z ∧ (L 6 = true → T a 85 = z.val)
  v5 : L 5 = true → ∃ Y z, T a 18 = .pointer (some ⟨Y, 0, none⟩) ∧ W.heap.size ≤ Y ∧ NFB u Y z ∧ (L 7 = true → T a 87 = z.val)
  ne : L 4 = true → L 5 = true → T a 17 ≠ T a 18
  c6 : L 6 = true → L 1 = true ∧ L 4 = true
  c7 : L 7 = true → L 3 = true ∧ L 5 = true
def wfB (ops : Array Oper) : Bool := (List.range ops.size).all fun i => match ops[i]? with
  | some o => o.after.all fun e => decide (e.on < i)
  | none => true
theorem wfB_at {ops : Array Oper} (h : wfB ops = true) : ∀ i o e, ops[i]? = some o → e ∈ o.after → Region.binds .any e = true → e.on < i := by
  intro i o e ho he _
  have h1 := List.all_eq_true.1 h i (List.mem_range.2 (Array.getElem?_eq_some_iff.1 ho).1)
  rw [ho] at h1
  have h1 : (o.after.all fun e => decide (e.on < i)) = true := h1
  rw [Array.all_eq_true'] at h1
  exact of_decide_eq_true (h1 e he)
theorem more_true {L : Nat → Bool} {i j : Nat} (h : L j = true) : more L i j = true := by unfold more; split <;> trivial
theorem more_ne {L : Nat → Bool} {i j : Nat} (h : j ≠ i) : more L i j = L j := by unfold more; rw [if_neg h]
section
variable {o : Oper} {a : Act} {w w' : World} {Q : Exit → Act → World → Prop}
attribute [local go_sem] Oper.semAt_some
set_option maxRecDepth 20000 in
theorem oc_loadM {K : Act → World → Prop} {p A : Nat} {x : Nf} (ho : o.op = .load 38 (.tmp p)) (hx : T a p = .pointer (some ⟨A, 0, none⟩)) (hc : NFB w A x) (hr : K (a.put o.dst x.val) w) : o.wp Try.prog a w K Q := by
  obtain ⟨dst, op, type, pos, after, guard⟩ := o
  simp only at ho
  subst ho
  obtain ⟨c0, c1, c2⟩ := hc.cells
  refine oc_value (v := x.val) (w' := w) ?_ hr
  unfold Nf.val
  simp [execOp, Act.eval, hx, go_sem, c0, c1, c2]
set_option maxRecDepth 20000 in
theorem oc_call1 {K : Act → World → Prop} {p f : Nat} {ts : Array TypeId} {v1 : Value} (ho : o.op = .call { callee := .value (.func f), args := #[.tmp p], argTypes := ts }) (hf : Enters f) (h1 : T a p = v1) (hc : Calls Try.prog f #[v1] w fun e w' => ∃ v, e = .returned v ∧ K (a.put o.dst v) w') : o.wp Try.prog a w K Q := by
  obtain ⟨dst, op, type, pos, after, guard⟩ := o
  simp only at ho
  subst ho
  refine oc_enter (args := #[v1]) ?_ hc
  simp [Act.eval, h1, go_sem]
  exact hf _ _
set_option maxRecDepth 20000 in
theorem oc_allocM {K : Act → World → Prop} (ho : o.op = .alloc 38) (hr : K (a.put o.dst (.pointer (some ⟨w.heap.size, 0, none⟩))) (w.alloc (.cells #[.int .i64 0, .slice none 0 0, .slice none 0 0] 38))) : o.wp Try.prog a w K Q := by
  obtain ⟨dst, op, type, pos, after, guard⟩ := o
  simp only at ho
  subst ho
  refine oc_value (w' := w.alloc (.cells #[.int .i64 0, .slice none 0 0, .slice none 0 0] 38)) ?_ hr
  simp [execOp, go_sem]
set_option maxRecDepth 20000 in
theorem oc_storeM {K : Act → World → Prop} {p q X : Nat} {y z : Nf} (ho : o.op = .store 38 (.tmp p) (.tmp q)) (hd : o.dst = none) (hx : T a p = .pointer (some ⟨X, 0, none⟩)) (hq : T a q = z.val) (hc : NFB w X y) (hr : K a (put3 w X z)) : o.wp Try.prog a w K Q := by
  obtain ⟨dst, op, type, pos, after, guard⟩ := o
  simp only at ho hd
  subst ho hd
  obtain ⟨c0, c1, c2⟩ := hc.cells
  have q0 := hc.frozen 0
  have q1 := hc.frozen 1
  have q2 := hc.frozen 2
  unfold Nf.val at hq
  unfold put3 at hr
  have e : (execOp a.eval ⟨none, .store 38 (.tmp p) (.tmp q), type, pos, after, guard⟩).run Try.prog w = .ok .skip (((w.setCell ⟨X, 0, none⟩ (.int .i64 z.S)).setCell ⟨X, 1, none⟩ (.slice z.ea z.en z.ec)).setCell ⟨X, 2, none⟩ (.slice z.ra z.rn z.rc)) := by
    simp [execOp, Act.eval, hx, hq, go_sem, c0, c1, c2, q0, q1, q2]
  unfold Oper.wp
  rw [e]
  exact hr
end
theorem ent20 : Enters 20 := fun args w => by simp [go_sem]
section
variable {act : Act} {W : World} {x y : Nf} {M N : Ma} {L : Nat → Bool} {a : Act} {u u' : World}
/-- what came to a slot of the region: all else stands -/
theorem I10.step (h : I10 act W x y M N L a u) (hb : Below u.heap.size u u') {i d : Nat} {v : Value} (hd : d = 17 ∨ d = 18 ∨ 84 ≤ d ∧ d < 88)
    (k0 : d = 84 ↔ i = 0) (k1 : d = 85 ↔ i = 1) (k2 : d = 86 ↔ i = 2) (k3 : d = 87 ↔ i = 3) (k4 : d = 17 ↔ i = 4) (k5 : d = 18 ↔ i = 5) (i6 : i ≠ 6) (i7 : i ≠ 7) (n6 : i = 1 → L 6 = false) (n7 : i = 3 → L 7 = false)
    (w0 : i = 0 → v = x.val) (w2 : i = 2 → v = y.val) (w1 : i = 1 → ∃ z : Nf, v = z.val ∧ Cop (Nw W u') u' M z) (w3 : i = 3 → ∃ z : Nf, v = z.val ∧ Cop (Nw W u') u' N z)
    (w4 : i = 4 → L 6 = false ∧ ∃ X z, v = .pointer (some ⟨X, 0, none⟩) ∧ W.heap.size ≤ X ∧ NFB u' X z ∧ u.heap.size ≤ X) (w5 : i = 5 → L 7 = false ∧ ∃ X z, v = .pointer (some ⟨X, 0, none⟩) ∧ W.heap.size ≤ X ∧ NFB u' X z ∧ u.heap.size ≤ X) : I10 act W x y M N (more L i) (a.put (some d) v) u' := by
  have hsz : ∀ {k : Nat}, k < 322 → k < a.tmps.size := fun hk => by rw [h.fr.1]; exact hk
  have hd2 : d < 322 := by clear k0 k1 k2 k3 k4 k5 n6 n7 w0 w1 w2 w3 w4 w5 i6 i7; omega
  have hdl : d < a.tmps.size := hsz hd2
  refine ⟨h.fr.put hd v, below_step h.bl hb, fun hL => ?_, fun hL => ?_, fun hL => ?_, fun hL => ?_, fun hL => ?_, fun hL => ?_, fun hL hL2 => ?_, fun q => ?_, fun q => ?_⟩
  · by_cases e : i = 0
    · rw [← k0.2 e, put_T' hdl]; exact w0 e
    · rw [more_ne (Ne.symm e)] at hL
      rw [put_T (fun q => e (k0.1 q))]; exact h.v0 hL
  · by_cases e : i = 2
    · rw [← k2.2 e, put_T' hdl]; exact w2 e
    · rw [more_ne (Ne.symm e)] at hL
      rw [put_T (fun q => e (k2.1 q))]; exact h.v2 hL
  · by_cases e : i = 1
    · obtain ⟨z, hz, hc⟩ := w1 e
      refine ⟨z, ?_, hc⟩
      rw [← k1.2 e, put_T' hdl]; exact hz
    · rw [more_ne (Ne.symm e)] at hL
      obtain ⟨z, hz, hc⟩ := h.v1 hL
      exact ⟨z, by rw [put_T (fun q => e (k1.1 q))]; exact hz, hc.laterN hb⟩
  · by_cases e : i = 3
    · obtain ⟨z, hz, hc⟩ := w3 e
      refine ⟨z, ?_, hc⟩
      rw [← k3.2 e, put_T' hdl]; exact hz
    · rw [more_ne (Ne.symm e)] at hL
      obtain ⟨z, hz, hc⟩ := h.v3 hL
      exact ⟨z, by rw [put_T (fun q => e (k3.1 q))]; exact hz, hc.laterN hb⟩
  · by_cases e : i = 4
    · obtain ⟨h6, X, z, hz, hX, hn, _⟩ := w4 e
      refine ⟨X, z, ?_, hX, hn, fun q => ?_⟩
      · rw [← k4.2 e, put_T' hdl]; exact hz
      · rw [more_ne (Ne.symm i6), h6] at q; cases q
    · rw [more_ne (Ne.symm e)] at hL
      obtain ⟨X, z, hz, hX, hn, hq⟩ := h.v4 hL
      refine ⟨X, z, by rw [put_T (fun q => e (k4.1 q))]; exact hz, hX, hn.later hb, fun q => ?_⟩
      rw [more_ne (Ne.symm i6)] at q
      by_cases e1 : i = 1
      · rw [n6 e1] at q; cases q
      · rw [put_T (fun q => e1 (k1.1 q))]; exact hq q
  · by_cases e : i = 5
    · obtain ⟨h6, X, z, hz, hX, hn, _⟩ := w5 e
      refine ⟨X, z, ?_, hX, hn, fun q => ?_⟩
      · rw [← k5.2 e, put_T' hdl]; exact hz
      · rw [more_ne (Ne.symm i7), h6] at q; cases q
    · rw [more_ne (Ne.symm e)] at hL
      obtain ⟨X, z, hz, hX, hn, hq⟩ := h.v5 hL
      refine ⟨X, z, by rw [put_T (fun q => e (k5.1 q))]; exact hz, hX, hn.later hb, fun q => ?_⟩
      rw [more_ne (Ne.symm i7)] at q
      by_cases e1 : i = 3
      · rw [n7 e1] at q; cases q
      · rw [put_T (fun q => e1 (k3.1 q))]; exact hq q
  · by_cases e : i = 4
    · obtain ⟨_, X, z, hz, hX, hn, hn2⟩ := w4 e
      rw [more_ne (by omega)] at hL2
      obtain ⟨Y, z2, hz2, hY, hm, _⟩ := h.v5 hL2
      have e4 := k4.2 e
      subst e4
      rw [put_T' hdl, put_T (by decide), hz, hz2]
      intro q
      cases q
      exact absurd hm.lt (Nat.not_lt.2 hn2)
    · by_cases e5 : i = 5
      · obtain ⟨_, X, z, hz, hX, hn, hn2⟩ := w5 e5
        rw [more_ne (by omega)] at hL
        obtain ⟨Y, z2, hz2, hY, hm, _⟩ := h.v4 hL
        have e4 := k5.2 e5
        subst e4
        rw [put_T' hdl, put_T (by decide), hz, hz2]
        intro q
        cases q
        exact absurd hm.lt (Nat.not_lt.2 hn2)
      · rw [more_ne (Ne.symm e)] at hL
        rw [more_ne (Ne.symm e5)] at hL2
        rw [put_T (fun q => e (k4.1 q)), put_T (fun q => e5 (k5.1 q))]
        exact h.ne hL hL2
  · rw [more_ne (Ne.symm i6)] at q
    exact ⟨more_true (h.c6 q).1, more_true (h.c6 q).2⟩
  · rw [more_ne (Ne.symm i7)] at q
    exact ⟨more_true (h.c7 q).1, more_true (h.c7 q).2⟩
theorem I10.no6 (h : I10 act W x y M N L a u) (h1 : L 1 = false ∨ L 4 = false) : L 6 = false := by
  cases e : L 6 with
  | false => rfl
  | true =>
    obtain ⟨g1, g4⟩ := h.c6 e
    rcases h1 with q | q
    · rw [q] at g1; cases g1
    · rw [q] at g4; cases g4
theorem I10.no7 (h : I10 act W x y M N L a u) (h1 : L 3 = false ∨ L 5 = false) : L 7 = false := by
  cases e : L 7 with
  | false => rfl
  | true =>
    obtain ⟨g1, g4⟩ := h.c7 e
    rcases h1 with q | q
    · rw [q] at g1; cases g1
    · rw [q] at g4; cases g4
theorem I10.st6 (h : I10 act W x y M N L a u) (h1 : L 1 = true) (h4 : L 4 = true) {X : Nat} {z y0 : Nf} (e17 : T a 17 = .pointer (some ⟨X, 0, none⟩)) (hX : W.heap.size ≤ X) (hn : NFB u X y0) (e85 : T a 85 = z.val) : I10 act W x y M N (more L 6) a (put3 u X z) := by
  refine ⟨h.fr, below_put3 h.bl hX z, fun hL => h.v0 hL, fun hL => h.v2 hL, fun hL => ?_, fun hL => ?_, fun hL => ?_, fun hL => ?_, fun hL hL2 => h.ne hL hL2, fun _ => ⟨more_true h1, more_true h4⟩, fun q => ?_⟩
  · obtain ⟨z', hz, hc⟩ := h.v1 hL
    exact ⟨z', hz, hc.put3N hn⟩
  · obtain ⟨z', hz, hc⟩ := h.v3 hL
    exact ⟨z', hz, hc.put3N hn⟩
  · exact ⟨X, z, e17, hX, hn.put3 z, fun _ => e85⟩
  · have hL5 : L 5 = true := hL
    obtain ⟨Y, z', hz, hY, hm, hq⟩ := h.v5 hL5
    refine ⟨Y, z', hz, hY, (heap_put3 u X z Y (fun e => ?_)).trans hm, fun q => hq q⟩
    exact h.ne h4 hL5 (by rw [e17, hz, e])
  · have q7 : L 7 = true := q
    exact ⟨more_true (h.c7 q7).1, more_true (h.c7 q7).2⟩
theorem I10.st7 (h : I10 act W x y M N L a u) (h1 : L 3 = true) (h4 : L 5 = true) {X : Nat} {z y0 : Nf} (e17 : T a 18 = .pointer (some ⟨X, 0, none⟩)) (hX : W.heap.size ≤ X) (hn : NFB u X y0) (e85 : T a 87 = z.val) : I10 act W x y M N (more L 7) a (put3 u X z) := by
  refine ⟨h.fr, below_put3 h.bl hX z, fun hL => h.v0 hL, fun hL => h.v2 hL, fun hL => ?_, fun hL => ?_, fun hL => ?_, fun hL => ?_, fun hL hL2 => h.ne hL hL2, fun q => ?_, fun _ => ⟨more_true h1, more_true h4⟩⟩
  · obtain ⟨z', hz, hc⟩ := h.v1 hL
    exact ⟨z', hz, hc.put3N hn⟩
  · obtain ⟨z', hz, hc⟩ := h.v3 hL
    exact ⟨z', hz, hc.put3N hn⟩
  · have hL5 : L 4 = true := hL
    obtain ⟨Y, z', hz, hY, hm, hq⟩ := h.v4 hL5
    refine ⟨Y, z', hz, hY, (heap_put3 u X z Y (fun e => ?_)).trans hm, fun q => hq q⟩
    exact h.ne hL5 h4 (by rw [e17, hz, e])
  · exact ⟨X, z, e17, hX, hn.put3 z, fun _ => e85⟩
  · have q7 : L 6 = true := q
    exact ⟨more_true (h.c6 q7).1, more_true (h.c6 q7).2⟩
end
set_option maxRecDepth 100000 in
set_option maxHeartbeats 1000000 in
theorem reg10 {act : Act} {W : World} {A B : Nat} {x y : Nf} {M N : Ma} {Q : Exit → Act → World → Prop} (hsz : act.tmps.size = 322) (hTA : T act 11 = .pointer (some ⟨A, 0, none⟩)) (hTB : T act 13 = .pointer (some ⟨B, 0, none⟩))
    (hA : NFB W A x) (hB : NFB W B y) (hx : MaAt (fun _ => True) W M x) (hy : MaAt (fun _ => True) W N y) (hM1 : M.es.length ≤ 10000000) (hM2 : M.rs.length ≤ 10000000) (hN1 : N.es.length ≤ 10000000) (hN2 : N.rs.length ≤ 10000000)
    (K : ∀ a' W' X Y x' y', Fr10 act a' → Below W.heap.size W W' → T a' 17 = .pointer (some ⟨X, 0, none⟩) → T a' 18 = .pointer (some ⟨Y, 0, none⟩) → NFB W' X x' → NFB W' Y y' → Cop (fun b => W.heap.size ≤ b) W' M x' → Cop (fun b => W.heap.size ≤ b) W' N y' → Q .normal a' W') : (Code.region 10 (opsOf Try.f6 10) true).wp Try.prog Q act W := by
  have hAl : A < W.heap.size := hA.lt
  have hBl : B < W.heap.size := hB.lt
  refine wp_region_inv (by kernel_rfl) (I10 act W x y M N) ?wf ?step ?fin ?zero
  case wf => exact wfB_at (by kernel_rfl)
  case zero =>
    intro L hL
    have hL' : ∀ i, i < 8 → L i = false := fun i hi => hL i hi
    exact ⟨⟨hsz, rfl, fun _ _ _ _ => rfl⟩, (Below.refl _ _).drew, (fun h => by rw [hL' 0 (by decide)] at h; cases h), (fun h => by rw [hL' 2 (by decide)] at h; cases h), (fun h => by rw [hL' 1 (by decide)] at h; cases h), (fun h => by rw [hL' 3 (by decide)] at h; cases h), (fun h => by rw [hL' 4 (by decide)] at h; cases h), (fun h => by rw [hL' 5 (by decide)] at h; cases h), (fun h => by rw [hL' 4 (by decide)] at h; cases h), (fun h => by rw [hL' 6 (by decide)] at h; cases h), (fun h => by rw [hL' 7 (by decide)] at h; cases h)⟩
  case fin =>
    intro L a u hL h
    have hL' : ∀ i, i < 8 → L i = true := fun i hi => hL i hi
    obtain ⟨z1, e1, c1⟩ := h.v1 (hL' 1 (by decide))
    obtain ⟨z3, e3, c3⟩ := h.v3 (hL' 3 (by decide))
    obtain ⟨X, z4, e4, _, n4, q4⟩ := h.v4 (hL' 4 (by decide))
    obtain ⟨Y, z5, e5, _, n5, q5⟩ := h.v5 (hL' 5 (by decide))
    have g1 := Nf.val_inj (e1.symm.trans (q4 (hL' 6 (by decide))))
    have g3 := Nf.val_inj (e3.symm.trans (q5 (hL' 7 (by decide))))
    subst g1 g3
    exact K a u X Y z1 z3 h.fr h.bl e4 e5 n4 n5 (c1.keep (fun _ hb _ => hb.1) (fun _ _ _ => rfl)) (c3.keep (fun _ hb _ => hb.1) (fun _ _ _ => rfl))
  case step =>
    intro i o ho
    have hi : i < 8 := (Array.getElem?_eq_some_iff.1 ho).1
    obtain rfl | rfl | rfl | rfl | rfl | rfl | rfl | rfl : i = 0 ∨ i = 1 ∨ i = 2 ∨ i = 3 ∨ i = 4 ∨ i = 5 ∨ i = 6 ∨ i = 7 := by omega
    · cases ho
      refine ⟨rfl, fun L a u h hL hE => ?_⟩
      refine oc_loadM rfl ((fr10_T h.fr (by decide) (by decide) (by decide)).trans hTA) ((h.bl.block A hAl).trans hA) ?_
      exact h.step (Below.refl _ _) (Or.inr (Or.inr (by decide))) (by decide) (by decide) (by decide) (by decide) (by decide) (by decide) (by decide) (by decide) (fun e => by cases e) (fun e => by cases e) (fun _ => rfl) (fun e => by cases e) (fun e => by cases e) (fun e => by cases e) (fun e => by cases e) (fun e => by cases e)
    · cases ho
      refine ⟨rfl, fun L a u h hL hE => ?_⟩
      have h0 : L 0 = true := hE _ (Array.mem_of_getElem? (i := 0) rfl) rfl
      refine oc_call1 rfl ent20 (h.v0 h0) ((copied_any u (hx.keep (fun _ _ _ => trivial) (fun b _ hlt => h.bl.block b hlt)) hM1 hM2).mono ?_)
      rintro e u' ⟨hb, z, rfl, hc⟩
      exact ⟨_, rfl, h.step hb (Or.inr (Or.inr (by decide))) (by decide) (by decide) (by decide) (by decide) (by decide) (by decide) (by decide) (by decide) (fun _ => h.no6 (Or.inl hL)) (fun e => by cases e) (fun e => by cases e) (fun e => by cases e) (fun _ => ⟨z, rfl, hc.keep (fun b hb2 _ => ⟨Nat.le_trans h.bl.size hb2.1, hb2.2⟩) (fun _ _ _ => rfl)⟩) (fun e => by cases e) (fun e => by cases e) (fun e => by cases e)⟩
    · cases ho
      refine ⟨rfl, fun L a u h hL hE => ?_⟩
      refine oc_loadM rfl ((fr10_T h.fr (by decide) (by decide) (by decide)).trans hTB) ((h.bl.block B hBl).trans hB) ?_
      exact h.step (Below.refl _ _) (Or.inr (Or.inr (by decide))) (by decide) (by decide) (by decide) (by decide) (by decide) (by decide) (by decide) (by decide) (fun e => by cases e) (fun e => by cases e) (fun e => by cases e) (fun _ => rfl) (fun e => by cases e) (fun e => by cases e) (fun e => by cases e) (fun e => by cases e)
    · cases ho
      refine ⟨rfl, fun L a u h hL hE => ?_⟩
      have h0 : L 2 = true := hE _ (Array.mem_of_getElem? (i := 0) rfl) rfl
      refine oc_call1 rfl ent20 (h.v2 h0) ((copied_any u (hy.keep (fun _ _ _ => trivial) (fun b _ hlt => h.bl.block b hlt)) hN1 hN2).mono ?_)
      rintro e u' ⟨hb, z, rfl, hc⟩
      exact ⟨_, rfl, h.step hb (Or.inr (Or.inr (by decide))) (by decide) (by decide) (by decide) (by decide) (by decide) (by decide) (by decide) (by decide) (fun e => by cases e) (fun _ => h.no7 (Or.inl hL)) (fun e => by cases e) (fun e => by cases e) (fun e => by cases e) (fun _ => ⟨z, rfl, hc.keep (fun b hb2 _ => ⟨Nat.le_trans h.bl.size hb2.1, hb2.2⟩) (fun _ _ _ => rfl)⟩) (fun e => by cases e) (fun e => by cases e)⟩
    · cases ho
      refine ⟨rfl, fun L a u h hL hE => ?_⟩
      exact oc_allocM rfl (h.step ((Below.refl _ _).alloc (Nat.le_refl _) _) (Or.inl rfl) (by decide) (by decide) (by decide) (by decide) (by decide) (by decide) (by decide) (by decide) (fun e => by cases e) (fun e => by cases e) (fun e => by cases e) (fun e => by cases e) (fun e => by cases e) (fun e => by cases e) (fun _ => ⟨h.no6 (Or.inr hL), u.heap.size, ⟨0, none, 0, 0, none, 0, 0⟩, rfl, h.bl.size, nfb_new u ⟨0, none, 0, 0, none, 0, 0⟩, Nat.le_refl _⟩) (fun e => by cases e))
    · cases ho
      refine ⟨rfl, fun L a u h hL hE => ?_⟩
      exact oc_allocM rfl (h.step ((Below.refl _ _).alloc (Nat.le_refl _) _) (Or.inr (Or.inl rfl)) (by decide) (by decide) (by decide) (by decide) (by decide) (by decide) (by decide) (by decide) (fun e => by cases e) (fun e => by cases e) (fun e => by cases e) (fun e => by cases e) (fun e => by cases e) (fun e => by cases e) (fun e => by cases e) (fun _ => ⟨h.no7 (Or.inr hL), u.heap.size, ⟨0, none, 0, 0, none, 0, 0⟩, rfl, h.bl.size, nfb_new u ⟨0, none, 0, 0, none, 0, 0⟩, Nat.le_refl _⟩))
    · cases ho
      refine ⟨rfl, fun L a u h hL hE => ?_⟩
      have h4 : L 4 = true := hE _ (Array.mem_of_getElem? (i := 0) rfl) rfl
      have h1 : L 1 = true := hE _ (Array.mem_of_getElem? (i := 1) rfl) rfl
      obtain ⟨z, ez, _⟩ := h.v1 h1
      obtain ⟨X, y0, eX, hX, hn, _⟩ := h.v4 h4
      exact oc_storeM rfl rfl eX ez hn (h.st6 h1 h4 eX hX hn ez)
    · cases ho
      refine ⟨rfl, fun L a u h hL hE => ?_⟩
      have h4 : L 5 = true := hE _ (Array.mem_of_getElem? (i := 0) rfl) rfl
      have h1 : L 3 = true := hE _ (Array.mem_of_getElem? (i := 1) rfl) rfl
      obtain ⟨z, ez, _⟩ := h.v3 h1
      obtain ⟨X, y0, eX, hX, hn, _⟩ := h.v5 h4
      exact oc_storeM rfl rfl eX ez hn (h.st7 h1 h4 eX hX hn ez)
end Go.Proofs.Ytjmbimgofceanaa

