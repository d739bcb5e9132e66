
import Derived.Test.YtmjnobdlgbojoaaGreatDoorG20
import Derived.Test.YtmjnobdlgbojoaaGreatDoorG19
namespace Go.Proofs.YtmjnobdlgbojoaaGreatDoor
open Go.RowKit
attribute [local go_sem ↓] Go.wp_at_zero Go.wp_at_succ
def Fr48 (act a : Act) : Prop := a.tmps.size = 30 ∧ a.defers = act.defers ∧ ∀ k, k ≠ 7 → (k < 17 ∨ 26 ≤ k) → a.tmps[k]? = act.tmps[k]?
theorem Fr48.put {act a : Act} (h : Fr48 act a) {k : Nat} (hd : k = 7 ∨ 17 ≤ k ∧ k < 26) (v : Value) : Fr48 act (a.put (some k) v) := by
  obtain ⟨h1, h2, h3⟩ := h
  refine ⟨by simp [Act.put, h1], by simp [Act.put, h2], fun j hj hj2 => ?_⟩
  simp only [Act.put]
  rw [Array.getElem?_setIfInBounds_ne (by omega)]
  exact h3 j hj hj2
theorem fr48_T {act a : Act} (h : Fr48 act a) {k : Nat} (hk : k ≠ 7) (hk2 : k < 17 ∨ 26 ≤ k) : T a k = T act k := by unfold T; rw [h.2.2 k hk hk2]
theorem fr48_lit {act a : Act} (h : Fr48 act a) (hs : act.tmps.size = 30) : a = ((((((((((act.put (some 7) (T a 7)).put (some 17) (T a 17)).put (some 18) (T a 18)).put (some 19) (T a 19)).put (some 20) (T a 20)).put (some 21) (T a 21)).put (some 22) (T a 22)).put (some 23) (T a 23)).put (some 24) (T a 24)).put (some 25) (T a 25)) := by
  obtain ⟨h1, h2, h3⟩ := h
  obtain ⟨tmps, defers⟩ := a
  simp only at h1 h2 h3
  simp only [Act.put, Act.mk.injEq]
  refine ⟨?_, h2⟩
  apply Array.ext_getElem?
  intro k
  have hT : ∀ j, j < 30 → tmps[j]? = some (T ⟨tmps, defers⟩ j) := fun j hj => by
    have : j < tmps.size := by omega
    simp [T, this]
  by_cases hk : k ≠ 7 ∧ (k < 17 ∨ 26 ≤ k)
  · rw [h3 k hk.1 hk.2, Array.getElem?_setIfInBounds_ne (by omega), Array.getElem?_setIfInBounds_ne (by omega), Array.getElem?_setIfInBounds_ne (by omega), Array.getElem?_setIfInBounds_ne (by omega), Array.getElem?_setIfInBounds_ne (by omega), Array.getElem?_setIfInBounds_ne (by omega), Array.getElem?_setIfInBounds_ne (by omega), Array.getElem?_setIfInBounds_ne (by omega), Array.getElem?_setIfInBounds_ne (by omega), Array.getElem?_setIfInBounds_ne (by omega)]
  · have hk' : k = 7 ∨ k = 17 ∨ k = 18 ∨ k = 19 ∨ k = 20 ∨ k = 21 ∨ k = 22 ∨ k = 23 ∨ k = 24 ∨ k = 25 := by omega
    rcases hk' with rfl | rfl | rfl | rfl | rfl | rfl | rfl | rfl | rfl | rfl <;> rw [hT _ (by decide)] <;> simp [hs]
def R48 (B a : Nat) (V : Value) (v : Nd) : Nat → Value → Prop
  | 0, x => x = V
  | 1, x => x = .pointer (some ⟨B, 0, none⟩)
  | 2, x => x = v.val
  | 3, x => x = .pointer (some ⟨B, 0, none⟩)
  | 4, x => x = .int .i64 (a : Nat)
  | _, _ => True
def S48 (act : Act) (W : World) (V : Value) (s : Nat) (e : Nat) (P1 P2 : World → Prop) (P3 : Nat → World → Prop) (P4 : Value → World → Prop) (j : Nat) (x : Act) (u : World) : Prop :=
  Fr48 act x ∧ (j ≤ 9 → T x 7 = V) ∧ (j = 5 → u = W.drew) ∧ (j = 6 → T x 22 = .int .i64 (s : Nat) ∧ P1 u) ∧ (j = 7 → T x 23 = .int .i64 (e : Nat) ∧ P2 u) ∧ (j = 8 → ∃ g, T x 24 = .slice (some ⟨g, 0, none⟩) 1 1 ∧ P3 g u) ∧ (j = 9 → ∃ V', T x 25 = V' ∧ P4 V' u) ∧ (j = 10 → ∃ V', T x 7 = V' ∧ P4 V' u)
section
variable {o : Oper} {a : Act} {w w' : World} {Q : Exit → Act → World → Prop}
attribute [local go_sem] Oper.semAt_some
set_option maxRecDepth 20000 in
theorem oc_call2 {K : Act → World → Prop} {p q f : Nat} {ts : Array TypeId} {v1 v2 : Value} (ho : o.op = .call { callee := .value (.func f), args := #[.tmp p, .tmp q], argTypes := ts }) (hf : Enters f) (h1 : T a p = v1) (h2 : T a q = v2) (hc : Calls Tryz.prog f #[v1, v2] w fun e w' => ∃ v, e = .returned v ∧ K (a.put o.dst v) w') : o.wp Tryz.prog a w K Q := by
  obtain ⟨dst, op, type, pos, after, guard⟩ := o
  simp only at ho
  subst ho
  refine oc_enter (args := #[v1, v2]) ?_ hc
  simp [Act.eval, h1, h2, go_sem]
  exact hf _ _
set_option maxRecDepth 20000 in
theorem oc_call3 {K : Act → World → Prop} {p q t f : Nat} {ts : Array TypeId} {v1 v2 v3 : Value} (ho : o.op = .call { callee := .value (.func f), args := #[.tmp p, .tmp q, .tmp t], argTypes := ts }) (hf : Enters f) (h1 : T a p = v1) (h2 : T a q = v2) (h3 : T a t = v3) (hc : Calls Tryz.prog f #[v1, v2, v3] w fun e w' => ∃ v, e = .returned v ∧ K (a.put o.dst v) w') : o.wp Tryz.prog a w K Q := by
  obtain ⟨dst, op, type, pos, after, guard⟩ := o
  simp only at ho
  subst ho
  refine oc_enter (args := #[v1, v2, v3]) ?_ hc
  simp [Act.eval, h1, h2, h3, go_sem]
  exact hf _ _
set_option maxRecDepth 20000 in
theorem oc_slice1 {K : Act → World → Prop} {p e : Nat} (ho : o.op = .buildSlice 52 1 #[(0, .tmp p)]) (hty : o.type = 52) (hp : T a p = .int .i64 (e : Nat)) (hr : K (a.put o.dst (.slice (some ⟨w.heap.size, 0, none⟩) 1 1)) (w.alloc (.cells #[.int .i64 (e : Nat)] 3))) : o.wp Tryz.prog a w K Q := by
  obtain ⟨dst, op, type, pos, after, guard⟩ := o
  simp only at ho hty
  subst ho hty
  refine oc_value (w' := w.alloc (.cells #[.int .i64 (e : Nat)] 3)) ?_ hr
  simp [execOp, Act.eval, hp, go_sem]
theorem run_append_int (w : World) (ty : TypeId) (base : Nat) (V : Value) (l : List Nat) (hn : RowI w base V l) (ad : Addr) (cap : Nat) (x : Nat) (hc : w.cell? ad = some (.int .i64 (x : Nat))) (hl : l.length ≤ 2000000) (hb : base ≤ w.heap.size) :
    ∃ g cap' w', (Builtin.append_ #[52, 52] ty #[V, .slice (some ad) 1 cap]).run Tryz.prog w = .ok (.slice (some ⟨g, 0, none⟩) (l.length + 1) cap') w' ∧ RowI w' base (.slice (some ⟨g, 0, none⟩) (l.length + 1) cap') (l ++ [x]) ∧ w.grownBy w' V.ownBlock := by
  obtain ⟨i0, hi, hz0, hz1, hz2⟩ := info_parts info3
  obtain ⟨g, cap', w', hr, ho2, hg, hgg, hlt⟩ := run_append_lies (P := Tryz.prog) w 52 ty base 3 i0 _ 1 8 Tryz.underlying52 hi hz0 hz1 hz2 rfl (by decide) V l.length _ hn ad 1 cap [.int .i64 (x : Nat)] rfl
    (fun j v hj => by
      cases j with
      | zero => simp at hj; subst hj; simpa [Addr.add] using hc
      | succ j => simp at hj) (fun v hv => by simp at hv; subst hv; rfl) (by decide) (by simp only [maxLen]; omega) (by omega) hb w.heap.size rfl
  refine ⟨g, cap', w', hr, ?_, hg⟩
  unfold RowI
  rw [List.length_append, List.map_append]
  exact ho2
theorem oc_append {K : Act → World → Prop} {p q : Nat} {V V' W : Value} (ho : o.op = .call { callee := .builtin .append, args := #[.tmp p, .tmp q], argTypes := #[52, 52] }) (h1 : T a p = V) (h2 : T a q = W) (hrun : (Builtin.append_ #[52, 52] o.type #[V, W]).run Tryz.prog w = .ok V' w') (hr : K (a.put o.dst V') w') : o.wp Tryz.prog a w K Q := by
  obtain ⟨dst, op, type, pos, after, guard⟩ := o
  simp only at ho hrun
  subst ho
  refine oc_value (v := V') (w' := w') ?_ hr
  have g1 : a.eval (.tmp p) = V := by simpa [Act.eval] using h1
  have g2 : a.eval (.tmp q) = W := by simpa [Act.eval] using h2
  simp only [execOp, resolve, invoke, builtin, Sem.run_bind, Sem.run_pure, Result.andThen_ok, List.map_toArray, List.map_cons, List.map_nil, g1, g2, hrun]
end
theorem ent69 : Enters 68 := fun args w => by simp [go_sem]
theorem ent29 : Enters 21 := fun args w => by simp [go_sem]
set_option maxRecDepth 100000 in
set_option maxHeartbeats 1000000 in
theorem reg48 {act : Act} {W : World} {B A a s e : Nat} {V : Value} {v : Nd} {P1 P2 : World → Prop} {P3 : Nat → World → Prop} {P4 : Value → World → Prop} {Q : Exit → Act → World → Prop} (hsz : act.tmps.size = 30) (hT0 : T act 0 = .pointer (some ⟨B, 0, none⟩)) (hT2 : T act 2 = .int .i64 (a : Nat)) (hT7 : T act 7 = V) (hT9 : T act 9 = .pointer (some ⟨A, 0, none⟩))
    (hnb : NB W A v) (hN1 : ∀ u, P1 u → NB u A v)
    (h1 : Calls Tryz.prog 68 #[.pointer (some ⟨B, 0, none⟩), .int .i64 (a : Nat)] W.drew fun x u => x = .returned (.int .i64 (s : Nat)) ∧ P1 u)
    (h2 : ∀ u, P1 u → Calls Tryz.prog 21 #[.pointer (some ⟨B, 0, none⟩), v.val, .int .i64 (s : Nat)] u fun x u => x = .returned (.int .i64 (e : Nat)) ∧ P2 u)
    (h3 : ∀ u, P2 u → P3 u.heap.size (u.alloc (.cells #[.int .i64 (e : Nat)] 3)))
    (h4 : ∀ g u ty, P3 g u → ∃ V' u', (Builtin.append_ #[52, 52] ty #[V, .slice (some ⟨g, 0, none⟩) 1 1]).run Tryz.prog u = .ok V' u' ∧ P4 V' u')
    (K : ∀ a' W' V', Fr48 act a' → T a' 7 = V' → P4 V' W' → Q .normal a' W') : (Code.region 5 (opsOf Tryz.f45 5) true).wp Tryz.prog Q act W := by
  refine wp_region_chain2 (by kernel_rfl) 5 10 (by kernel_rfl) (by decide) (fun i => 17 + i) (R48 B a V v) (S48 act W V s e P1 P2 P3 P4) ?put ?sz ?inj (by kernel_rfl) (fun i => match i with | 0 => 8 | 1 => 6 | 2 => 6 | _ => 5) (by kernel_rfl) ?duty ?fin ⟨⟨hsz, rfl, fun _ _ _ => rfl⟩, fun _ => hT7, fun _ => rfl, fun h => absurd h (by decide), fun h => absurd h (by decide), fun h => absurd h (by decide), fun h => absurd h (by decide), fun h => absurd h (by decide)⟩
  case put =>
    rintro j x u i y hi ⟨g1, g2, g3, g4, g5, g6, g7, g8⟩
    refine ⟨g1.put (Or.inr (by omega)) y, fun h => ?_, g3, fun h => ?_, fun h => ?_, fun h => ?_, fun h => ?_, fun h => ?_⟩
    · rw [put_T (by omega)]; exact g2 h
    · rw [put_T (by omega)]; exact g4 h
    · rw [put_T (by omega)]; exact g5 h
    · rw [put_T (by omega)]; exact g6 h
    · rw [put_T (by omega)]; exact g7 h
    · rw [put_T (by omega)]; exact g8 h
  case sz =>
    intro j x u i hi h
    rw [h.1.1]
    show 17 + i < 30
    omega
  case inj =>
    intro i j _ _ h
    exact Nat.add_left_cancel h
  case fin =>
    intro x u h _
    obtain ⟨V', e1, e2⟩ := h.2.2.2.2.2.2.2 rfl
    exact K x u V' h.1 e1 e2
  case duty =>
    have hTa : ∀ {j : Nat} {x : Act} {u : World}, S48 act W V s e P1 P2 P3 P4 j x u → ∀ {k : Nat}, k ≠ 7 → (k < 17 ∨ 26 ≤ k) → T x k = T act k := fun h k hk hk2 => fr48_T h.1 hk hk2
    refine ⟨⟨rfl, by simp, fun _ => ⟨rfl, fun j x u hj5 hj hS hE Q => ?s0⟩, fun h => absurd h (by decide)⟩, ⟨rfl, by simp, fun _ => ⟨rfl, fun j x u hj5 hj hS hE Q => ?s1⟩, fun h => absurd h (by decide)⟩, ⟨rfl, by simp, fun _ => ⟨rfl, fun j x u hj5 hj hS hE Q => ?s2⟩, fun h => absurd h (by decide)⟩, ⟨rfl, by simp, fun _ => ⟨rfl, fun j x u hj5 hj hS hE Q => ?s3⟩, fun h => absurd h (by decide)⟩, ⟨rfl, by simp, fun _ => ⟨rfl, fun j x u hj5 hj hS hE Q => ?s4⟩, fun h => absurd h (by decide)⟩, ⟨rfl, by simp, fun h => absurd h (by decide), fun _ x u hS hE => ?c5⟩, ⟨rfl, by simp, fun h => absurd h (by decide), fun _ x u hS hE => ?c6⟩, ⟨rfl, by simp, fun h => absurd h (by decide), fun _ x u hS hE => ?c7⟩, ⟨rfl, by simp, fun h => absurd h (by decide), fun _ x u hS hE => ?c8⟩, ⟨rfl, by simp, fun h => absurd h (by decide), fun _ x u hS hE => ?c9⟩, trivial⟩
    case s0 => exact og_move rfl (hS.2.1 (by have := hj; simp only at this; omega)) rfl
    case s1 => exact og_move rfl ((hTa hS (by decide) (by decide)).trans hT0) rfl
    case s2 =>
      refine og_node rfl ((hTa hS (by decide) (by decide)).trans hT9) ?_ rfl
      have hj' : j ≤ 6 := hj
      by_cases h5 : j = 5
      · rw [hS.2.2.1 h5]; exact hnb
      · by_cases h6 : j = 6
        · exact hN1 u (hS.2.2.2.1 h6).2
        · exact absurd hj5 (by omega)
    case s3 => exact og_move rfl ((hTa hS (by decide) (by decide)).trans hT0) rfl
    case s4 => exact og_move rfl ((hTa hS (by decide) (by decide)).trans hT2) rfl
    case c5 =>
      have hu := hS.2.2.1 rfl
      subst hu
      refine oc_call2 rfl ent69 (hE ⟨3, .data⟩ (by simp) (by decide) rfl) (hE ⟨4, .data⟩ (by simp) (by decide) rfl) (h1.mono ?_)
      rintro x' u' ⟨rfl, hP⟩
      exact ⟨_, rfl, ⟨hS.1.put (Or.inr (by decide)) _, fun _ => by rw [put_T (by decide)]; exact hS.2.1 (by decide), fun h => absurd h (by decide), fun _ => ⟨put_T' (by rw [hS.1.1]; decide), hP⟩, fun h => absurd h (by decide), fun h => absurd h (by decide), fun h => absurd h (by decide), fun h => absurd h (by decide)⟩, fun j hj => put_T (by omega)⟩
    case c6 =>
      obtain ⟨hv, hP⟩ := hS.2.2.2.1 rfl
      refine oc_call3 rfl ent29 (hE ⟨1, .data⟩ (by simp) (by decide) rfl) (hE ⟨2, .data⟩ (by simp) (by decide) rfl) hv ((h2 u hP).mono ?_)
      rintro x' u' ⟨rfl, hP⟩
      exact ⟨_, rfl, ⟨hS.1.put (Or.inr (by decide)) _, fun _ => by rw [put_T (by decide)]; exact hS.2.1 (by decide), fun h => absurd h (by decide), fun h => absurd h (by decide), fun _ => ⟨put_T' (by rw [hS.1.1]; decide), hP⟩, fun h => absurd h (by decide), fun h => absurd h (by decide), fun h => absurd h (by decide)⟩, fun j hj => put_T (by omega)⟩
    case c7 =>
      obtain ⟨hv, hP⟩ := hS.2.2.2.2.1 rfl
      refine oc_slice1 rfl rfl hv ⟨⟨hS.1.put (Or.inr (by decide)) _, fun _ => by rw [put_T (by decide)]; exact hS.2.1 (by decide), fun h => absurd h (by decide), fun h => absurd h (by decide), fun h => absurd h (by decide), fun _ => ⟨_, put_T' (by rw [hS.1.1]; decide), h3 u hP⟩, fun h => absurd h (by decide), fun h => absurd h (by decide)⟩, fun j hj => put_T (by omega)⟩
    case c8 =>
      obtain ⟨g, hv, hP⟩ := hS.2.2.2.2.2.1 rfl
      obtain ⟨V', u', hrun, hP'⟩ := h4 g u _ hP
      refine oc_append rfl (hE ⟨0, .data⟩ (by simp) (by decide) rfl) hv hrun ⟨⟨hS.1.put (Or.inr (by decide)) _, fun _ => by rw [put_T (by decide)]; exact hS.2.1 (by decide), fun h => absurd h (by decide), fun h => absurd h (by decide), fun h => absurd h (by decide), fun h => absurd h (by decide), fun _ => ⟨_, put_T' (by rw [hS.1.1]; decide), hP'⟩, fun h => absurd h (by decide)⟩, fun j hj => put_T (by omega)⟩
    case c9 =>
      obtain ⟨V', hv, hP⟩ := hS.2.2.2.2.2.2.1 rfl
      refine oc_assign rfl hv ⟨⟨hS.1.put (Or.inl rfl) _, fun h => absurd h (by decide), fun h => absurd h (by decide), fun h => absurd h (by decide), fun h => absurd h (by decide), fun h => absurd h (by decide), fun h => absurd h (by decide), fun _ => ⟨_, put_T' (by rw [hS.1.1]; decide), hP⟩⟩, fun j hj => put_T (by omega)⟩
end Go.Proofs.YtmjnobdlgbojoaaGreatDoor


namespace Go.Proofs.YtmjnobdlgbojoaaGreatDoor
open Go.RowKit
attribute [local go_sem ↓] Go.wp_at_zero Go.wp_at_succ
set_option maxRecDepth 4000 in
set_option maxHeartbeats 4000000 in
theorem bjoin_any (B b0 Y base : Nat) (m : Mk) (l : List Nat) (oa : Option Addr) (n oc : Nat) (w : World) (hn : l.length = n) (h : BB w b0 B Y m) (hb : b0 ≤ w.heap.size) (hI : RowI w base (.slice oa n oc) l) (hS : (joint (m, l)).1.S ≤ 1000000) (hE : (joint (m, l)).1.es.length ≤ 1000000) : Calls Tryz.prog 69 #[.pointer (some ⟨B, 0, none⟩), .slice oa n oc] w fun e w' => e = .returned (.int .i64 ((joint (m, l)).2 : Nat)) ∧ BB w' b0 B Y (joint (m, l)).1 ∧ Fm b0 B w w' := by
  obtain ⟨z1, z2⟩ := joint_size (m, l)
  simp only at z1 z2
  have hS1 : m.S + 1 ≤ 1000000 := by omega
  have hn6 : n ≤ 1000000 := by omega
  obtain ⟨R, hR⟩ : ∃ R, (joint (m, l)).1 = R := ⟨_, rfl⟩
  have HR : Hid (frees l m.S m.st = R) := by rw [← hR]; rfl
  have HJ : Hid ((joint (m, l)).2 = m.S) := rfl
  have HE : Hid (R.es.length ≤ 1000000) := by rw [← hR]; exact hE
  have HJ1 : Hid ((joint (m, l)).1 = R) := hR
  rw [hR, HJ.out]
  have HB : Hid (BB w b0 B Y m) := h
  have HI : Hid (RowI w base (.slice oa n oc) l) := hI
  have HZ : Hid (b0 ≤ w.heap.size) := hb
  have HN : Hid (l.length = n) := hn
  clear z1 z2 hR h hI hb hS hE hn
  go_enter Tryz.func69, Tryz.ntmps69
  go_wp2_with fail
  refine (bstate_any B b0 Y m w HB.out (by omega)).mono ?_
  rintro e w1 ⟨rfl, h1, f1⟩
  have HB1 : Hid (BB w1 b0 B Y m.st) := h1
  have HF1 : Hid (Fm b0 B w w1) := f1
  have HI1 : Hid (RowI w1 base (.slice oa n oc) l) := HI.out.fmb HB.out f1
  have HZ1 : Hid (b0 ≤ w1.heap.size) := Nat.le_trans HZ.out f1.size
  clear h1 f1 HB HI HZ
  go_wp2_with fail
  go_loopw [12] (fun i u => ∃ (j : Nat) (m3 : Mk), i = .int .i64 (j : Nat) ∧ j ≤ n ∧ Hid (frees (l.drop j) m.S m3 = R) ∧ Hid (RowI u base (.slice oa n oc) l) ∧ Hid (BB u b0 B Y m3) ∧ Hid (Fm b0 B w u) ∧ Hid (b0 ≤ u.heap.size)) (fun i _ => n - (intOf i).toNat)
  case atStart => exact ⟨0, m.st, rfl, Nat.zero_le _, HR, HI1, HB1, HF1, HZ1⟩
  case round =>
    clear HR HI1 HB1 HF1 HZ1
    obtain ⟨j, m3, rfl, hj, HRj, HIj, HBj, HFj, HZj⟩ := hrel
    by_cases hlt : j < n
    · have hlt' : (j : Int) < (n : Int) := by omega
      obtain ⟨x, hx⟩ : ∃ x, l[j]? = some x := ⟨_, List.getElem?_eq_getElem (by rw [HN.out]; exact hlt)⟩
      obtain ⟨g, hg, hc⟩ := HIj.out.at hx
      subst hg
      have HR4 : Hid (frees (l.drop (j + 1)) m.S (m3.fr x m.S) = R) := (frees_step hx m.S m3).symm.trans HRj.out
      have hge : m3.es.length + 1 ≤ 1000000 := by
        have h1 := (frees_le (l.drop (j + 1)) m.S (m3.fr x m.S)).2
        rw [HR4.out] at h1
        have h2 := Nat.le_trans h1 HE.out
        simpa [Mk.fr, Mk.ed] using h2
      clear hx
      go_wp2_with fail
      refine (bfree_any B b0 Y m3 x m.S wr HBj.out HZj.out (by omega)).mono ?_
      rintro e w4 ⟨rfl, h4, f4⟩
      have HB4 : Hid (BB w4 b0 B Y (m3.fr x m.S)) := h4
      have HF4 : Hid (Fm b0 B w w4) := HFj.out.trans f4
      have HI4 : Hid (RowI w4 base (.slice (some ⟨g, 0, none⟩) n oc) l) := HIj.out.fmb HBj.out f4
      have HZ4 : Hid (b0 ≤ w4.heap.size) := Nat.le_trans HZj.out f4.size
      clear h4 f4 HBj HFj HIj HZj hc
      go_wp2
      go_roundw
      case rel => exact ⟨j + 1, m3.fr x m.S, by go_num, by omega, HR4, HI4, HB4, HF4, HZ4⟩
      case measure => simp [intOf]; omega
    · have hlt' : ¬ (j : Int) < (n : Int) := by omega
      have HEq : Hid (R = m3) := by
        show _ = _
        rw [← HRj.out, List.drop_of_length_le (by rw [HN.out]; omega), frees]
      clear HRj
      go_wp2
      go_ret
      rw [HEq.out]
      exact ⟨rfl, HBj.out, HFj.out⟩
end Go.Proofs.YtmjnobdlgbojoaaGreatDoor


namespace Go.Proofs.YtmjnobdlgbojoaaGreatDoor
open Go.RowKit
attribute [local go_sem ↓] Go.wp_at_zero Go.wp_at_succ
theorem alts_next {ts : List Tn} {i : Nat} {t : Tn} (h : ts[i]? = some t) (m : Mk) (a : Nat) (l : List Nat) : alts (ts.drop i) m a l = alts (ts.drop (i + 1)) (lay t (m.st.fr a m.S) m.S).1 a (l ++ [(lay t (m.st.fr a m.S) m.S).2]) := by
  have hlt := (List.getElem?_eq_some_iff.1 h).1
  rw [List.drop_eq_getElem_cons hlt, (List.getElem?_eq_some_iff.1 h).2, alts]
set_option maxRecDepth 20000 in
set_option maxHeartbeats 16000000 in
theorem way_alt {w0 : World} {B : Nat} {s : Oct.S} {subs : List Tn} {mn mx : Int} {a : Option Addr} {n c : Nat} {vs : List Nd} (hn : n = subs.length) (hl : vs.length = n) (hm : n ≤ 1000000) (hr : RowAt (fun b => b ≠ B) w0 a vs) (hs : ∀ (i : Nat) (t : Tn) (v : Nd), subs[i]? = some t → vs[i]? = some v → LayV w0 B t v) : WayV 45 w0 B (.mk 4 s subs mn mx) ⟨4, s, a, n, c, mn, mx⟩ := by
  intro w b0 Y m a0 hlow h0 hb hbb hS hE
  obtain ⟨R, hR⟩ : ∃ R, lay (.mk 4 s subs mn mx) m a0 = R := ⟨_, rfl⟩
  rw [hR] at hS hE ⊢
  have HR : Hid (joint (alts subs m a0 []) = R) := by show _ = _; rw [← hR, lay_mk]; simp
  have HIH : Hid (∀ (i : Nat) (t : Tn) (v : Nd), subs[i]? = some t → vs[i]? = some v → LayV w0 B t v) := hs
  have HRO : Hid (RowAt (fun b => b ≠ B) w0 a vs) := hr
  have HN : Hid (n = subs.length) := hn
  have HL : Hid (vs.length = n) := hl
  have HBS : Hid (R.1.S ≤ 1000000 ∧ R.1.es.length ≤ 1000000) := ⟨hS, hE⟩
  have HM0 : Hid (n ≤ 1000000) := hm
  clear hs hr hn hl hS hE hR
  have HSB : Hid (Sb w0 b0 B Y w.heap.size ⟨4, s, a, n, c, mn, mx⟩ w (w.alloc (.cells #[.int .i64 4, .int .u64 (Oct.word s 0 : Nat), .int .u64 (Oct.word s 1 : Nat), .int .u64 (Oct.word s 2 : Nat), .int .u64 (Oct.word s 3 : Nat), .slice a n c, .int .i64 mn, .int .i64 mx] 30)) m) := sb_start w0 ⟨4, s, a, n, c, mn, mx⟩ hbb hlow hb h0
  obtain ⟨w1, hw1⟩ : ∃ w1, w.alloc (.cells #[.int .i64 4, .int .u64 (Oct.word s 0 : Nat), .int .u64 (Oct.word s 1 : Nat), .int .u64 (Oct.word s 2 : Nat), .int .u64 (Oct.word s 3 : Nat), .slice a n c, .int .i64 mn, .int .i64 mx] 30) = w1 := ⟨_, rfl⟩
  rw [hw1] at HSB
  obtain ⟨A, hA⟩ : ∃ A, w.heap.size = A := ⟨_, rfl⟩
  rw [hA] at HSB
  have HW1 : Hid (w.alloc (.cells #[.int .i64 4, .int .u64 (Oct.word s 0 : Nat), .int .u64 (Oct.word s 1 : Nat), .int .u64 (Oct.word s 2 : Nat), .int .u64 (Oct.word s 3 : Nat), .slice a n c, .int .i64 mn, .int .i64 mx] 30) = w1) := hw1
  have HAA : Hid (w.heap.size = A) := hA
  have HB : Hid (b0 ≤ w.heap.size) := hb
  have H0 : Hid (w0.heap.size ≤ b0) := h0
  clear hw1 hA hb h0 hlow hbb
  obtain ⟨y0, y1, y2, y3, y4, y5, y6, y7⟩ := HSB.out.nb.cells
  simp only at y0 y1 y2 y3 y4 y5 y6 y7
  unfold Nd.val
  simp only
  go_enter Tryz.func45, Tryz.ntmps45
  go_upto_region 1 with fail
  rw [HW1.out, HAA.out]
  clear HW1
  go_wp2_with fail
  clear y0 y1 y2 y3 y4 y5 y6 y7
  go_loopw [7, 13] (fun ve i u => ∃ (j : Nat) (m' : Mk) (l : List Nat), i = .int .i64 (j : Nat) ∧ j ≤ n ∧ Hid (l.length = j) ∧ Hid (joint (alts (subs.drop j) m' a0 l) = R) ∧ Hid (RowI u w.heap.size ve l) ∧ Hid (Sb w0 b0 B Y A ⟨4, s, a, n, c, mn, mx⟩ w u m')) (fun _ i _ => n - (intOf i).toNat)
  case atStart => exact ⟨0, m, [], rfl, Nat.zero_le _, rfl, HR, rowI_nil _ _, HSB⟩
  case round =>
    clear HSB HR
    obtain ⟨j, m', l, rfl, hjn, HLJ, HRj, HIj, HSj⟩ := hrel
    by_cases hlt : j < n
    · have hlt' : (j : Int) < (n : Int) := by omega
      obtain ⟨t, ht⟩ : ∃ t, subs[j]? = some t := ⟨_, List.getElem?_eq_getElem (by rw [← HN.out]; exact hlt)⟩
      obtain ⟨v, hv⟩ : ∃ v, vs[j]? = some v := ⟨_, List.getElem?_eq_getElem (by rw [HL.out]; exact hlt)⟩
      have HT : Hid (subs[j]? = some t ∧ vs[j]? = some v) := ⟨ht, hv⟩
      clear ht hv
      have HRn : Hid (joint (alts (subs.drop (j + 1)) (lay t (m'.st.fr a0 m'.S) m'.S).1 a0 (l ++ [(lay t (m'.st.fr a0 m'.S) m'.S).2])) = R) := by show _ = _; rw [← alts_next HT.out.1]; exact HRj.out
      have HLE : Hid ((lay t (m'.st.fr a0 m'.S) m'.S).1.le R.1) := by rw [← HRn.out]; exact (alts_le _ _ _ _).trans (joint_le _)
      have HLQ : Hid ((m'.st.fr a0 m'.S).le (lay t (m'.st.fr a0 m'.S) m'.S).1) := lay_le t _ _
      have hS : m'.S + 1 ≤ 1000000 := Nat.le_trans (Nat.le_trans HLQ.out.1 HLE.out.1) HBS.out.1
      have hE : m'.es.length + 1 ≤ 1000000 := by have := Nat.le_trans (Nat.le_trans HLQ.out.2 HLE.out.2) HBS.out.2; simpa [Mk.st, Mk.fr, Mk.ed] using this
      obtain ⟨r, hr⟩ : ∃ r, lay t (m'.st.fr a0 m'.S) m'.S = r := ⟨_, rfl⟩
      have HRR : Hid (lay t (m'.st.fr a0 m'.S) m'.S = r) := hr
      rw [hr] at HRn HLE
      clear hr HLQ
      have hrow := (HRO.out.keep (w' := wr) (Y := fun _ => True) (fun _ _ _ => trivial) (fun b hb hlt => HSj.out.low.2 b hlt hb)).nth HT.out.2
      obtain ⟨g, off, rfl, e0, e1, e2, e3, e4, e5, e6, e7⟩ := hrow
      have kk : Below wr.heap.size wr (wr.alloc (.cells #[.int .i64 v.k, .int .u64 (Oct.word v.s 0 : Nat), .int .u64 (Oct.word v.s 1 : Nat), .int .u64 (Oct.word v.s 2 : Nat), .int .u64 (Oct.word v.s 3 : Nat), .slice v.a v.n v.c, .int .i64 v.mn, .int .i64 v.mx] 30)) := (Below.refl _ _).alloc (Nat.le_refl _) _
      have HS2 : Hid (Sb w0 b0 B Y A ⟨4, s, some ⟨g, off, none⟩, n, c, mn, mx⟩ w (wr.alloc (.cells #[.int .i64 v.k, .int .u64 (Oct.word v.s 0 : Nat), .int .u64 (Oct.word v.s 1 : Nat), .int .u64 (Oct.word v.s 2 : Nat), .int .u64 (Oct.word v.s 3 : Nat), .slice v.a v.n v.c, .int .i64 v.mn, .int .i64 v.mx] 30)) m') := HSj.out.later kk
      have HNV : Hid (NB (wr.alloc (.cells #[.int .i64 v.k, .int .u64 (Oct.word v.s 0 : Nat), .int .u64 (Oct.word v.s 1 : Nat), .int .u64 (Oct.word v.s 2 : Nat), .int .u64 (Oct.word v.s 3 : Nat), .slice v.a v.n v.c, .int .i64 v.mn, .int .i64 v.mx] 30)) wr.heap.size v) := nb_new wr v
      have HI2 : Hid (RowI (wr.alloc (.cells #[.int .i64 v.k, .int .u64 (Oct.word v.s 0 : Nat), .int .u64 (Oct.word v.s 1 : Nat), .int .u64 (Oct.word v.s 2 : Nat), .int .u64 (Oct.word v.s 3 : Nat), .slice v.a v.n v.c, .int .i64 v.mn, .int .i64 v.mx] 30)) w.heap.size u7 l) := HIj.out.keep (fun b _ hlt _ => kk.block b hlt)
      go_upto_region 5 with fail
      obtain ⟨w2, hw2⟩ : ∃ w2, wr.alloc (.cells #[.int .i64 v.k, .int .u64 (Oct.word v.s 0 : Nat), .int .u64 (Oct.word v.s 1 : Nat), .int .u64 (Oct.word v.s 2 : Nat), .int .u64 (Oct.word v.s 3 : Nat), .slice v.a v.n v.c, .int .i64 v.mn, .int .i64 v.mx] 30) = w2 := ⟨_, rfl⟩
      obtain ⟨A2, hA2⟩ : ∃ A2, wr.heap.size = A2 := ⟨_, rfl⟩
      rw [hw2] at HS2 HNV HI2 ⊢
      rw [hA2] at HNV ⊢
      clear hw2 hA2 kk HSj HIj e0 e1 e2 e3 e4 e5 e6 e7
      have HSd : Hid (Sb w0 b0 B Y A ⟨4, s, some ⟨g, off, none⟩, n, c, mn, mx⟩ w w2.drew m') := HS2.out.later ((Below.refl _ _).drew)
      have HNd : Hid (NB w2.drew A2 v) := HNV.out
      have HId : Hid (RowI w2.drew w.heap.size u7 l) := HI2.out
      refine reg48 (B := B) (A := A2) (a := a0) (s := m'.S) (e := r.2) (V := u7) (v := v) (P1 := fun u => Sb w0 b0 B Y A ⟨4, s, some ⟨g, off, none⟩, n, c, mn, mx⟩ w u (m'.st.fr a0 m'.S) ∧ NB u A2 v ∧ RowI u w.heap.size u7 l) (P2 := fun u => Sb w0 b0 B Y A ⟨4, s, some ⟨g, off, none⟩, n, c, mn, mx⟩ w u r.1 ∧ RowI u w.heap.size u7 l) (P3 := fun gg u => Sb w0 b0 B Y A ⟨4, s, some ⟨g, off, none⟩, n, c, mn, mx⟩ w u r.1 ∧ RowI u w.heap.size u7 l ∧ u.cell? ⟨gg, 0, none⟩ = some (.int .i64 (r.2 : Nat))) (P4 := fun V' u => Sb w0 b0 B Y A ⟨4, s, some ⟨g, off, none⟩, n, c, mn, mx⟩ w u r.1 ∧ RowI u w.heap.size V' (l ++ [r.2])) rfl rfl rfl rfl rfl HNV.out (fun u h => h.2.1) ?h1 ?h2 ?h3 ?h4 ?K
      case h1 =>
        refine (fork_any B b0 Y m' a0 w2.drew HSd.out.bb HSd.out.sz (by omega) (by omega)).mono ?_
        rintro e u ⟨rfl, g1, g2⟩
        exact ⟨rfl, HSd.out.call g1 g2, g2.keep HNd.out (HSd.out.bb.ne ⟨_, _, HNd.out⟩ (by decide)) (by decide), HId.out.fmb HSd.out.bb g2⟩
      case h2 =>
        rintro u ⟨p1, p2, p3⟩
        have HC := HIH.out j t v HT.out.1 HT.out.2 u b0 Y (m'.st.fr a0 m'.S) m'.S p1.low H0.out p1.sz p1.bb (by rw [HRR.out]; exact Nat.le_trans HLE.out.1 HBS.out.1) (by rw [HRR.out]; exact Nat.le_trans HLE.out.2 HBS.out.2)
        rw [HRR.out] at HC
        refine HC.mono ?_
        rintro e u2 ⟨rfl, g1, g2⟩
        exact ⟨rfl, p1.call g1 g2, p3.fmb p1.bb g2⟩
      case h3 =>
        rintro u ⟨p1, p2⟩
        have kk : Below u.heap.size u (u.alloc (.cells #[.int .i64 (r.2 : Nat)] 3)) := (Below.refl _ _).alloc (Nat.le_refl _) _
        exact ⟨p1.later kk, p2.keep (fun b _ hlt _ => kk.block b hlt), by rw [World.cell?_alloc_mark]; rfl⟩
      case h4 =>
        rintro g' u ty ⟨p1, p2, p3⟩
        obtain ⟨g2, cap, u', q1, q2, q3⟩ := run_append_int u ty w.heap.size u7 l p2 ⟨g', 0, none⟩ 1 r.2 p3 (by have := HLJ.out; have := HM0.out; omega) p1.fm.size
        exact ⟨_, u', q1, p1.own q3 p2.ty HB.out, q2⟩
      case K =>
        rintro a' W' V' hfr h7 ⟨p1, p2⟩
        rw [fr48_lit hfr rfl, h7]
        have HS6 : Hid (Sb w0 b0 B Y A ⟨4, s, some ⟨g, off, none⟩, n, c, mn, mx⟩ w W' r.1) := p1
        have HI6 : Hid (RowI W' w.heap.size V' (l ++ [r.2])) := p2
        clear p1 p2 h7 HS2 HNV HI2 HSd HNd HId
        obtain ⟨v17, e17⟩ : ∃ v, v = T a' 17 := ⟨_, rfl⟩
        obtain ⟨v18, e18⟩ : ∃ v, v = T a' 18 := ⟨_, rfl⟩
        obtain ⟨v19, e19⟩ : ∃ v, v = T a' 19 := ⟨_, rfl⟩
        obtain ⟨v20, e20⟩ : ∃ v, v = T a' 20 := ⟨_, rfl⟩
        obtain ⟨v21, e21⟩ : ∃ v, v = T a' 21 := ⟨_, rfl⟩
        obtain ⟨v22, e22⟩ : ∃ v, v = T a' 22 := ⟨_, rfl⟩
        obtain ⟨v23, e23⟩ : ∃ v, v = T a' 23 := ⟨_, rfl⟩
        obtain ⟨v24, e24⟩ : ∃ v, v = T a' 24 := ⟨_, rfl⟩
        obtain ⟨v25, e25⟩ : ∃ v, v = T a' 25 := ⟨_, rfl⟩
        rw [← e17, ← e18, ← e19, ← e20, ← e21, ← e22, ← e23, ← e24, ← e25]
        clear e17 e18 e19 e20 e21 e22 e23 e24 e25
        clear hfr
        go_wp2
        go_roundw
        case rel => exact ⟨j + 1, r.1, l ++ [r.2], by go_num, by omega, (by have := HLJ.out; show _ = _; simp; omega), HRn, HI6, HS6⟩
        case measure => simp [intOf]; omega
    · have hlt' : ¬ (j : Int) < (n : Int) := by omega
      have HRF : Hid (joint (m', l) = R) := by
        show _ = _
        rw [← HRj.out, List.drop_of_length_le (by rw [← HN.out]; omega), alts]
      clear HIH HRO HRj
      obtain ⟨oa, oc, hV, hlc, hcm⟩ := HIj.out.form
      subst hV
      obtain ⟨N, hN⟩ : ∃ N, l.length = N := ⟨_, rfl⟩
      rw [hN] at HIj hlc ⊢
      simp only [maxLen] at hcm
      have HC : Hid (Calls Tryz.prog 69 #[.pointer (some ⟨B, 0, none⟩), .slice oa N oc] wr _) := bjoin_any B b0 Y w.heap.size m' l oa N oc wr hN HSj.out.bb HSj.out.sz HIj.out (by rw [HRF.out]; exact HBS.out.1) (by rw [HRF.out]; exact HBS.out.2)
      rw [HRF.out] at HC
      clear hN hlc hcm HRF
      go_wp2_with fail
      refine HC.out.mono ?_
      rintro e w4 ⟨rfl, h4, f4⟩
      have HS4 : Hid (Sb w0 b0 B Y A ⟨4, s, a, n, c, mn, mx⟩ w w4 R.1) := HSj.out.call h4 f4
      clear h4 f4 HC HSj HIj
      go_wp2
      go_ret
      exact ⟨rfl, HS4.out.bb, HS4.out.fm⟩
end Go.Proofs.YtmjnobdlgbojoaaGreatDoor


namespace Go.Proofs.YtmjnobdlgbojoaaGreatDoor
open Go.RowKit
attribute [local go_sem ↓] Go.wp_at_zero Go.wp_at_succ
theorem seqs_next {ts : List Tn} {i : Nat} {t : Tn} (h : ts[i]? = some t) (m : Mk) (a : Nat) : seqs (ts.drop i) m a = seqs (ts.drop (i + 1)) (lay t m a).1 (lay t m a).2 := by
  have hlt := (List.getElem?_eq_some_iff.1 h).1
  rw [List.drop_eq_getElem_cons hlt, (List.getElem?_eq_some_iff.1 h).2, seqs]
set_option maxRecDepth 4000 in
set_option maxHeartbeats 8000000 in
theorem way_seq {w0 : World} {B : Nat} {s : Oct.S} {subs : List Tn} {mn mx : Int} {a : Option Addr} {n c : Nat} {vs : List Nd} (hn : n = subs.length) (hl : vs.length = n) (hm : n ≤ 1000000) (hr : RowAt (fun b => b ≠ B) w0 a vs) (hs : ∀ (i : Nat) (t : Tn) (v : Nd), subs[i]? = some t → vs[i]? = some v → LayV w0 B t v) : WayV 44 w0 B (.mk 3 s subs mn mx) ⟨3, s, a, n, c, mn, mx⟩ := by
  intro w b0 Y m a0 hlow h0 hb hbb hS hE
  obtain ⟨R, hR⟩ : ∃ R, lay (.mk 3 s subs mn mx) m a0 = R := ⟨_, rfl⟩
  rw [hR] at hS hE ⊢
  have HR : Hid (seqs subs m a0 = R) := by show _ = _; rw [← hR, lay_mk]; simp
  have HIH : Hid (∀ (i : Nat) (t : Tn) (v : Nd), subs[i]? = some t → vs[i]? = some v → LayV w0 B t v) := hs
  have HRO : Hid (RowAt (fun b => b ≠ B) w0 a vs) := hr
  have HN : Hid (n = subs.length) := hn
  have HL : Hid (vs.length = n) := hl
  have HBS : Hid (R.1.S ≤ 1000000 ∧ R.1.es.length ≤ 1000000) := ⟨hS, hE⟩
  have HM0 : Hid (n ≤ 1000000) := hm
  clear hs hr hn hl hS hE hR
  have HSB : Hid (Sb w0 b0 B Y w.heap.size ⟨3, s, a, n, c, mn, mx⟩ w (w.alloc (.cells #[.int .i64 3, .int .u64 (Oct.word s 0 : Nat), .int .u64 (Oct.word s 1 : Nat), .int .u64 (Oct.word s 2 : Nat), .int .u64 (Oct.word s 3 : Nat), .slice a n c, .int .i64 mn, .int .i64 mx] 30)) m) := sb_start w0 ⟨3, s, a, n, c, mn, mx⟩ hbb hlow hb h0
  obtain ⟨w1, hw1⟩ : ∃ w1, w.alloc (.cells #[.int .i64 3, .int .u64 (Oct.word s 0 : Nat), .int .u64 (Oct.word s 1 : Nat), .int .u64 (Oct.word s 2 : Nat), .int .u64 (Oct.word s 3 : Nat), .slice a n c, .int .i64 mn, .int .i64 mx] 30) = w1 := ⟨_, rfl⟩
  rw [hw1] at HSB
  obtain ⟨A, hA⟩ : ∃ A, w.heap.size = A := ⟨_, rfl⟩
  rw [hA] at HSB
  have HW1 : Hid (w.alloc (.cells #[.int .i64 3, .int .u64 (Oct.word s 0 : Nat), .int .u64 (Oct.word s 1 : Nat), .int .u64 (Oct.word s 2 : Nat), .int .u64 (Oct.word s 3 : Nat), .slice a n c, .int .i64 mn, .int .i64 mx] 30) = w1) := hw1
  have HAA : Hid (w.heap.size = A) := hA
  have HB : Hid (b0 ≤ w.heap.size) := hb
  have H0 : Hid (w0.heap.size ≤ b0) := h0
  clear hw1 hA hb h0 hlow hbb
  obtain ⟨y0, y1, y2, y3, y4, y5, y6, y7⟩ := HSB.out.nb.cells
  simp only at y0 y1 y2 y3 y4 y5 y6 y7
  unfold Nd.val
  simp only
  go_enter Tryz.func44, Tryz.ntmps44
  go_upto_region 1 with fail
  rw [HW1.out, HAA.out]
  clear HW1
  go_wp2_with fail
  clear y0 y1 y2 y3 y4 y5 y6 y7
  go_loopw [2, 12] (fun va i u => ∃ (j : Nat) (m' : Mk) (a' : Nat), va = .int .i64 (a' : Nat) ∧ i = .int .i64 (j : Nat) ∧ j ≤ n ∧ Hid (seqs (subs.drop j) m' a' = R) ∧ Hid (Sb w0 b0 B Y A ⟨3, s, a, n, c, mn, mx⟩ w u m')) (fun _ i _ => n - (intOf i).toNat)
  case atStart => exact ⟨0, m, a0, rfl, rfl, Nat.zero_le _, HR, HSB⟩
  case round =>
    clear HSB HR
    obtain ⟨j, m', a', rfl, rfl, hjn, HRj, HSj⟩ := hrel
    by_cases hlt : j < n
    · have hlt' : (j : Int) < (n : Int) := by omega
      obtain ⟨t, ht⟩ : ∃ t, subs[j]? = some t := ⟨_, List.getElem?_eq_getElem (by rw [← HN.out]; exact hlt)⟩
      obtain ⟨v, hv⟩ : ∃ v, vs[j]? = some v := ⟨_, List.getElem?_eq_getElem (by rw [HL.out]; exact hlt)⟩
      have hrow := (HRO.out.keep (w' := wr) (Y := fun _ => True) (fun _ _ _ => trivial) (fun b hb hlt => HSj.out.low.2 b hlt hb)).nth hv
      obtain ⟨g, off, rfl, e0, e1, e2, e3, e4, e5, e6, e7⟩ := hrow
      have HRn : Hid (seqs (subs.drop (j + 1)) (lay t m' a').1 (lay t m' a').2 = R) := (seqs_next ht m' a').symm.trans HRj.out
      have hle := seqs_le (subs.drop (j + 1)) (lay t m' a').1 (lay t m' a').2
      rw [HRn.out] at hle
      have kk : Below wr.heap.size wr (wr.alloc (.cells #[.int .i64 v.k, .int .u64 (Oct.word v.s 0 : Nat), .int .u64 (Oct.word v.s 1 : Nat), .int .u64 (Oct.word v.s 2 : Nat), .int .u64 (Oct.word v.s 3 : Nat), .slice v.a v.n v.c, .int .i64 v.mn, .int .i64 v.mx] 30)) := (Below.refl _ _).alloc (Nat.le_refl _) _
      have HS2 : Hid (Sb w0 b0 B Y A ⟨3, s, some ⟨g, off, none⟩, n, c, mn, mx⟩ w (wr.alloc (.cells #[.int .i64 v.k, .int .u64 (Oct.word v.s 0 : Nat), .int .u64 (Oct.word v.s 1 : Nat), .int .u64 (Oct.word v.s 2 : Nat), .int .u64 (Oct.word v.s 3 : Nat), .slice v.a v.n v.c, .int .i64 v.mn, .int .i64 v.mx] 30)) m') := HSj.out.later kk
      have HNV : Hid (NB (wr.alloc (.cells #[.int .i64 v.k, .int .u64 (Oct.word v.s 0 : Nat), .int .u64 (Oct.word v.s 1 : Nat), .int .u64 (Oct.word v.s 2 : Nat), .int .u64 (Oct.word v.s 3 : Nat), .slice v.a v.n v.c, .int .i64 v.mn, .int .i64 v.mx] 30)) wr.heap.size v) := nb_new wr v
      go_upto_region 4 with fail
      obtain ⟨w2, hw2⟩ : ∃ w2, wr.alloc (.cells #[.int .i64 v.k, .int .u64 (Oct.word v.s 0 : Nat), .int .u64 (Oct.word v.s 1 : Nat), .int .u64 (Oct.word v.s 2 : Nat), .int .u64 (Oct.word v.s 3 : Nat), .slice v.a v.n v.c, .int .i64 v.mn, .int .i64 v.mx] 30) = w2 := ⟨_, rfl⟩
      obtain ⟨A2, hA2⟩ : ∃ A2, wr.heap.size = A2 := ⟨_, rfl⟩
      rw [hw2] at HS2 HNV ⊢
      rw [hA2] at HNV ⊢
      clear hw2 hA2 kk HSj e0 e1 e2 e3 e4 e5 e6 e7
      obtain ⟨y0, y1, y2, y3, y4, y5, y6, y7⟩ := HNV.out.cells
      have HC : Hid (Calls Tryz.prog 21 #[.pointer (some ⟨B, 0, none⟩), v.val, .int .i64 (a' : Nat)] w2 _) := HIH.out j t v ht hv w2 b0 Y m' a' HS2.out.low H0.out HS2.out.sz HS2.out.bb (Nat.le_trans hle.1 HBS.out.1) (Nat.le_trans hle.2 HBS.out.2)
      obtain ⟨r, hr⟩ : ∃ r, lay t m' a' = r := ⟨_, rfl⟩
      rw [hr] at HC HRn
      clear hr hle ht hv HRj
      unfold Nd.val at HC
      go_wp2_with fail
      refine HC.out.mono ?_
      rintro e w4 ⟨rfl, h4, f4⟩
      have HS4 : Hid (Sb w0 b0 B Y A ⟨3, s, some ⟨g, off, none⟩, n, c, mn, mx⟩ w w4 r.1) := HS2.out.call h4 f4
      clear h4 f4 HC HS2 HNV y0 y1 y2 y3 y4 y5 y6 y7
      go_wp2
      go_roundw
      case rel => exact ⟨j + 1, r.1, r.2, rfl, by go_num, by omega, HRn, HS4⟩
      case measure => simp [intOf]; omega
    · have hlt' : ¬ (j : Int) < (n : Int) := by omega
      have HE : Hid (R = (m', a')) := by
        show _ = _
        rw [← HRj.out, List.drop_of_length_le (by rw [← HN.out]; omega), seqs]
      have HM : Hid (BB wr b0 B Y m' ∧ Fm b0 B w wr) := ⟨HSj.out.bb, HSj.out.fm⟩
      clear HIH HRO HBS HRj
      go_wp2
      go_ret
      rw [HE.out]
      exact ⟨rfl, HM.out.1, HM.out.2⟩
end Go.Proofs.YtmjnobdlgbojoaaGreatDoor
