
import Derived.Test.YtmjnobdlgbojoaaGreatDoorG22
namespace Go.Proofs.YtmjnobdlgbojoaaGreatDoor
open Go.RowKit Go.Maps
attribute [local go_sem ↓] Go.wp_at_zero Go.wp_at_succ
def EB (w : World) (A : Nat) (e : Eg) : Prop := w.heap[A]? = some (.cells #[.int .i64 e.k, .int .i64 e.f, .int .i64 e.t, .int .u64 (Oct.word e.s 0 : Nat), .int .u64 (Oct.word e.s 1 : Nat), .int .u64 (Oct.word e.s 2 : Nat), .int .u64 (Oct.word e.s 3 : Nat)] 66 (0, 0))
theorem EB.lt {w : World} {A : Nat} {e : Eg} (h : EB w A e) : A < w.heap.size := (Array.getElem?_eq_some_iff.1 h).1
theorem EB.ty {w : World} {A : Nat} {e : Eg} (h : EB w A e) : TyB w 66 A := ⟨_, _, h⟩
theorem EB.cells {w : World} {A : Nat} {e : Eg} (h : EB w A e) : w.cell? ⟨A, 0, none⟩ = some (.int .i64 e.k) ∧ w.cell? ⟨A, 1, none⟩ = some (.int .i64 e.f) ∧ w.cell? ⟨A, 2, none⟩ = some (.int .i64 e.t) ∧ w.cell? ⟨A, 3, none⟩ = some (.int .u64 (Oct.word e.s 0 : Nat)) ∧ w.cell? ⟨A, 4, none⟩ = some (.int .u64 (Oct.word e.s 1 : Nat)) ∧ w.cell? ⟨A, 5, none⟩ = some (.int .u64 (Oct.word e.s 2 : Nat)) ∧ w.cell? ⟨A, 6, none⟩ = some (.int .u64 (Oct.word e.s 3 : Nat)) := by
  refine ⟨?_, ?_, ?_, ?_, ?_, ?_, ?_⟩ <;> simp [World.cell?, show w.heap[A]? = _ from h]
section
variable {o : Oper} {a : Act} {w w' : World} {r : Value → Prop} {Q : Exit → Act → World → Prop}
attribute [local go_sem] Oper.semAt_some
theorem oc_skip {K : Act → World → Prop} (h : (execOp a.eval o).run Tryz.prog w = .ok .skip w') (hR : K (a.put o.dst undef) w') : o.wp Tryz.prog a w K Q := by
  unfold Oper.wp
  rw [h]
  exact hR
set_option maxRecDepth 20000 in
theorem og_from {p B : Nat} (ho : o.op = .fieldAddr 66 (.tmp p) 1) (hx : T a p = .pointer (some ⟨B, 0, none⟩)) (hr : r (.pointer (some ⟨B, 1, none⟩))) : o.wp Tryz.prog a w (Got r o a w) Q := by
  obtain ⟨dst, op, type, pos, after, guard⟩ := o
  simp only at ho
  subst ho
  refine og_value (v := .pointer (some ⟨B, 1, none⟩)) ?_ hr
  simp [execOp, Act.eval, hx, go_sem]
set_option maxRecDepth 20000 in
theorem og_edge {p A : Nat} {e : Eg} (ho : o.op = .load 66 (.tmp p)) (hx : T a p = .pointer (some ⟨A, 0, none⟩)) (hc : EB w A e) (hr : r e.val) : o.wp Tryz.prog a w (Got r o a w) Q := by
  obtain ⟨dst, op, type, pos, after, guard⟩ := o
  simp only at ho
  subst ho
  obtain ⟨c0, c1, c2, c3, c4, c5, c6⟩ := hc.cells
  refine og_value (v := e.val) ?_ hr
  unfold Eg.val
  simp [execOp, Act.eval, hx, go_sem, c0, c1, c2, c3, c4, c5, c6]
set_option maxRecDepth 20000 in
theorem og_look {p q B : Nat} {x : Int} {v : Value} (ho : o.op = .lookup 70 (.tmp p) (.tmp q) false) (hx : T a p = .map (some B)) (hy : T a q = .int .i64 x) (hl : (Instr.lookup 70 (.map (some B)) (.int .i64 x) false).run Tryz.prog w = .ok v w) (hr : r v) : o.wp Tryz.prog a w (Got r o a w) Q := by
  obtain ⟨dst, op, type, pos, after, guard⟩ := o
  simp only at ho
  subst ho
  refine og_value (v := v) ?_ hr
  simp [execOp, Act.eval, hx, hy, hl, go_sem]
set_option maxRecDepth 20000 in
theorem oc_sliceE {K : Act → World → Prop} {p : Nat} {e : Eg} (ho : o.op = .buildSlice 34 1 #[(0, .tmp p)]) (hty : o.type = 34) (hp : T a p = e.val) (hr : K (a.put o.dst (.slice (some ⟨w.heap.size, 0, none⟩) 1 1)) (w.alloc (.cells #[.int .i64 e.k, .int .i64 e.f, .int .i64 e.t, .int .u64 (Oct.word e.s 0 : Nat), .int .u64 (Oct.word e.s 1 : Nat), .int .u64 (Oct.word e.s 2 : Nat), .int .u64 (Oct.word e.s 3 : Nat)] 66))) : o.wp Tryz.prog a w K Q := by
  obtain ⟨dst, op, type, pos, after, guard⟩ := o
  simp only at ho hty
  subst ho hty
  unfold Eg.val at hp
  refine oc_value (v := .slice (some ⟨w.heap.size, 0, none⟩) 1 1) ?_ hr
  simp [execOp, Act.eval, hp, go_sem]
theorem oc_appendE {K : Act → World → Prop} {p q : Nat} {V : Value} {es : List Eg} {e : Eg} {base n b cap : Nat} (ho : o.op = .call { callee := .builtin .append, args := #[.tmp p, .tmp q], argTypes := #[34, 34] }) (hx : T a p = V) (hy : T a q = .slice (some ⟨b, 0, none⟩) 1 cap) (hV : RowE w base V es) (hn : es.length = n) (hE : EB w b e) (hl : n ≤ 2513169434900) (hb : base ≤ w.heap.size)
    (h : ∀ g cap' w', RowE w' base (.slice (some ⟨g, 0, none⟩) (n + 1) cap') (es ++ [e]) → w.grownBy w' V.ownBlock → (V.ownBlock = some g ∨ g = w.heap.size) → K (a.put o.dst (.slice (some ⟨g, 0, none⟩) (n + 1) cap')) w') : o.wp Tryz.prog a w K Q := by
  obtain ⟨dst, op, type, pos, after, guard⟩ := o
  simp only at ho
  subst ho hn
  obtain ⟨i0, hi, hz0, hz1, hz2⟩ := info_parts infoE
  obtain ⟨g, cap', w', hr, ho2, hg, hgg, hlt⟩ := run_append_lies (P := Tryz.prog) w 34 type base 66 i0 _ 7 56 Tryz.underlying34 hi hz0 hz1 hz2 rfl (by decide) V es.length _ hV ⟨b, 0, none⟩ 1 cap e.cells rfl
    (fun j v hj => by
      rw [Go.WideShapes.add_plain]
      obtain ⟨c0, c1, c2, c3, c4, c5, c6⟩ := hE.cells
      rcases j with _ | _ | _ | _ | _ | _ | _ | j
      · simp [Eg.cells] at hj; subst hj; exact c0
      · simp [Eg.cells] at hj; subst hj; exact c1
      · simp [Eg.cells] at hj; subst hj; exact c2
      · simp [Eg.cells] at hj; subst hj; exact c3
      · simp [Eg.cells] at hj; subst hj; exact c4
      · simp [Eg.cells] at hj; subst hj; exact c5
      · simp [Eg.cells] at hj; subst hj; exact c6
      · simp [Eg.cells] at hj) (fun v hv => flatE_one [e] v (by simpa [flatE] using hv)) (by decide) (by simp only [maxLen]; omega) (by omega) hb w.heap.size rfl
  refine oc_value (v := .slice (some ⟨g, 0, none⟩) (es.length + 1) cap') (w' := w') ?_ (h g cap' w' ?_ hg hgg)
  · simp only [execOp, resolve, invoke, builtin, Act.eval, Sem.run_bind, Sem.run_pure, Result.andThen_ok, List.map_toArray, List.map_cons, List.map_nil]
    have hx2 : a.tmps[p]?.getD undef = V := hx
    have hy2 : a.tmps[q]?.getD undef = .slice (some ⟨b, 0, none⟩) 1 cap := hy
    simp only [Array.getD_eq_getD_getElem?]
    rw [hx2, hy2, hr]
    rfl
  · unfold RowE
    rw [flatE_append, List.length_append]
    have e2 : flatE [e] = e.cells := by simp [flatE]
    rw [e2]
    exact ho2
set_option maxRecDepth 20000 in
theorem oc_update {K : Act → World → Prop} {p q t B : Nat} {x : Int} {v : Value} (ho : o.op = .mapUpdate 70 (.tmp p) (.tmp q) (.tmp t)) (hx : T a p = .map (some B)) (hy : T a q = .int .i64 x) (hz : T a t = v) (hl : (Instr.mapUpdate 70 (.map (some B)) (.int .i64 x) v).run Tryz.prog w = .ok () w') (hr : K (a.put o.dst undef) w') : o.wp Tryz.prog a w K Q := by
  obtain ⟨dst, op, type, pos, after, guard⟩ := o
  simp only at ho
  subst ho
  refine oc_skip (w' := w') ?_ hr
  have hx2 : a.tmps[p]?.getD undef = .map (some B) := hx
  have hy2 : a.tmps[q]?.getD undef = .int .i64 x := hy
  have hz2 : a.tmps[t]?.getD undef = v := hz
  simp only [execOp, Act.eval, Array.getD_eq_getD_getElem?, hx2, hy2, hz2, Sem.run_bind, hl]
  rfl
end
theorem rowE_lt {w : World} {base b : Nat} {V : Value} {es : List Eg} (h : RowE w base V es) (hb : V.ownBlock = some b) : b < w.heap.size := by
  obtain ⟨_, c, z, hc⟩ := h.ty b hb
  exact (Array.getElem?_eq_some_iff.1 hc).1
theorem rowE_sep {w w' : World} {base : Nat} {V : Value} {es : List Eg} (h : RowE w base V es) (hk : ∀ b, V.ownBlock = some b → b < w.heap.size → w'.heap[b]? = w.heap[b]?) : RowE w' base V es := ownsRow_keep h (fun g hg _ hlt => hk g hg hlt)
def Fr5 (act a : Act) : Prop := a.tmps.size = 25 ∧ a.defers = act.defers ∧ ∀ k, (k < 13 ∨ 23 ≤ k) → a.tmps[k]? = act.tmps[k]?
theorem Fr5.put {act a : Act} (h : Fr5 act a) {k : Nat} (hd : 13 ≤ k ∧ k < 23) (v : Value) : Fr5 act (a.put (some k) v) := by
  obtain ⟨h1, h2, h3⟩ := h
  refine ⟨by simp [Act.put, h1], by simp [Act.put, h2], fun j hj => ?_⟩
  simp only [Act.put]
  rw [Array.getElem?_setIfInBounds_ne (by omega)]
  exact h3 j hj
theorem Fr5.nop {act a : Act} (h : Fr5 act a) (v : Value) : Fr5 act (a.put none v) := by
  obtain ⟨h1, h2, h3⟩ := h
  exact ⟨h1, h2, h3⟩
theorem Fr5.slot {act a : Act} (h : Fr5 act a) {k : Nat} (hk : (k < 13 ∨ 23 ≤ k)) : T a k = Go.Proofs.YtmjnobdlgbojoaaGreatDoor.T act k := by unfold Go.Proofs.YtmjnobdlgbojoaaGreatDoor.T; rw [h.2.2 k hk]
theorem Fr5.lit {act a : Act} (h : Fr5 act a) (hs : act.tmps.size = 25) : a = ((((((((((act.put (some 13) (T a 13)).put (some 14) (T a 14)).put (some 15) (T a 15)).put (some 16) (T a 16)).put (some 17) (T a 17)).put (some 18) (T a 18)).put (some 19) (T a 19)).put (some 20) (T a 20)).put (some 21) (T a 21)).put (some 22) (T a 22)) := by
  obtain ⟨h1, h2, h3⟩ := h
  obtain ⟨tmps, defers⟩ := a
  simp only at h1 h2 h3
  simp only [Act.put, Act.mk.injEq]
  refine ⟨?_, h2⟩
  apply Array.ext_getElem?
  intro k
  have hT : ∀ j, j < 25 → tmps[j]? = some (Go.Proofs.YtmjnobdlgbojoaaGreatDoor.T ⟨tmps, defers⟩ j) := fun j hj => by
    have : j < tmps.size := by omega
    simp [Go.Proofs.YtmjnobdlgbojoaaGreatDoor.T, this]
  by_cases hk : (k < 13 ∨ 23 ≤ k)
  · rw [h3 k hk, Array.getElem?_setIfInBounds_ne (by omega), Array.getElem?_setIfInBounds_ne (by omega), Array.getElem?_setIfInBounds_ne (by omega), Array.getElem?_setIfInBounds_ne (by omega), Array.getElem?_setIfInBounds_ne (by omega), Array.getElem?_setIfInBounds_ne (by omega), Array.getElem?_setIfInBounds_ne (by omega), Array.getElem?_setIfInBounds_ne (by omega), Array.getElem?_setIfInBounds_ne (by omega), Array.getElem?_setIfInBounds_ne (by omega)]
  · have hk' : k = 13 ∨ k = 14 ∨ k = 15 ∨ k = 16 ∨ k = 17 ∨ k = 18 ∨ k = 19 ∨ k = 20 ∨ k = 21 ∨ k = 22 := by omega
    rcases hk' with rfl | rfl | rfl | rfl | rfl | rfl | rfl | rfl | rfl | rfl <;> rw [hT _ (by decide)] <;> simp [hs]
def R5 (Bm A : Nat) (e : Eg) (V : Value) : Nat → Value → Prop
  | 0, x => x = .map (some Bm)
  | 1, x => x = .pointer (some ⟨A, 1, none⟩)
  | 2, x => x = .int .i64 e.f
  | 3, x => x = .map (some Bm)
  | 4, x => x = .pointer (some ⟨A, 1, none⟩)
  | 5, x => x = .int .i64 e.f
  | 6, x => x = V
  | 7, x => x = e.val
  | _, _ => True
def S5 (act : Act) (W : World) (A : Nat) (e : Eg) (P9 : World → Prop) (P10 : Value → World → Prop) (P11 : World → Prop) (j : Nat) (x : Act) (u : World) : Prop :=
  Fr5 act x ∧ EB u A e ∧ (j = 8 → u = W.drew) ∧ (j = 9 → ∃ g, T x 21 = .slice (some ⟨g, 0, none⟩) 1 1 ∧ EB u g e ∧ P9 u) ∧ (j = 10 → ∃ V, T x 22 = V ∧ P10 V u) ∧ (j = 11 → P11 u)
set_option maxRecDepth 100000 in
set_option maxHeartbeats 1000000 in
theorem reg5S {act : Act} {W : World} {Bm A base n k : Nat} {F : Int → Value} {es : List Eg} {e : Eg} {Q : Exit → Act → World → Prop} (hsz : act.tmps.size = 25) (hT3 : T act 3 = .map (some Bm)) (hT5 : T act 5 = .pointer (some ⟨A, 0, none⟩))
    (hG : Gat W Bm base n F es) (hE : EB W A e) (hA : ∀ x, (F x).ownBlock ≠ some A) (hf1 : -9223372036854775808 ≤ e.f) (hf2 : e.f < 9223372036854775808) (hn : n < maxLen) (hk : es.length ≤ k) (hk2 : k ≤ 2513169434900) (hb : base ≤ W.heap.size) (hBm : Bm < base)
    (K : ∀ a' W' F', Fr5 act a' → Gat W' Bm base (n + 1) F' (es ++ [e]) → Below Bm W W' → Q .normal a' W') : (Code.region 5 (opsOf Tryz.f27 5) true).wp Tryz.prog Q act W := by
  have hlen : (fromE es e.f).length ≤ 2513169434900 := by have := fromE_len es e.f; omega
  have hmap : ∀ u, u.heap[Bm]? = W.heap[Bm]? → (Instr.lookup 70 (.map (some Bm)) (.int .i64 e.f) false).run Tryz.prog u = .ok (F e.f) u := fun u hu => (hG.map.same hu).look hf1 hf2
  have hnoB : ∀ {u : World} {A' : Nat} {e' : Eg}, EB u A' e' → u.heap[Bm]? = W.heap[Bm]? → A' ≠ Bm := fun {u A' e'} h hu he => by
    subst he
    exact (hG.map.same hu).no _ h.ty
  refine wp_region_chain2 (by kernel_rfl) 8 11 (by kernel_rfl) (by decide) (fun i => 13 + i) (R5 Bm A e (F e.f))
    (S5 act W A e (fun u => W.grownBy u none ∧ W.heap.size < u.heap.size)
      (fun V u => ∃ g cap, V = .slice (some ⟨g, 0, none⟩) ((fromE es e.f).length + 1) cap ∧ RowE u base V (fromE es e.f ++ [e]) ∧ W.grownBy u (F e.f).ownBlock ∧ ((F e.f).ownBlock = some g ∨ W.heap.size < g))
      (fun u => ∃ F', Gat u Bm base (n + 1) F' (es ++ [e]) ∧ Below Bm W u)) ?put ?sz ?inj (by kernel_rfl) (fun i => if i = 7 then 8 else if i < 3 then 10 else 9) (by kernel_rfl) ?duty ?fin ?zero
  case zero => exact ⟨⟨hsz, rfl, fun _ _ => rfl⟩, hE, fun _ => rfl, fun h => absurd h (by decide), fun h => absurd h (by decide), fun h => absurd h (by decide)⟩
  case put =>
    intro j x u i y hi h
    obtain ⟨h1, h2, h3, h4, h5, h6⟩ := h
    refine ⟨h1.put (by omega) y, h2, h3, fun hj => ?_, fun hj => ?_, h6⟩
    · obtain ⟨g, g1, g2⟩ := h4 hj
      exact ⟨g, by rw [put_T (by omega)]; exact g1, g2⟩
    · obtain ⟨V, g1, g2⟩ := h5 hj
      exact ⟨V, by rw [put_T (by omega)]; exact g1, g2⟩
  case sz =>
    intro j x u i hi h
    rw [h.1.1]
    show 13 + i < 25
    omega
  case inj =>
    intro i j _ _ h
    exact Nat.add_left_cancel h
  case fin =>
    intro x u h _
    obtain ⟨F', h1, h2⟩ := h.2.2.2.2.2 rfl
    exact K x u F' h.1 h1 h2
  case duty =>
    refine ⟨⟨rfl, by simp, fun _ => ⟨rfl, fun j x u hj1 hj2 hS hE Q => ?s0⟩, fun h => absurd h (by decide)⟩, ⟨rfl, by simp, fun _ => ⟨rfl, fun j x u hj1 hj2 hS hE Q => ?s1⟩, fun h => absurd h (by decide)⟩, ⟨rfl, by simp, fun _ => ⟨rfl, fun j x u hj1 hj2 hS hE Q => ?s2⟩, fun h => absurd h (by decide)⟩, ⟨rfl, by simp, fun _ => ⟨rfl, fun j x u hj1 hj2 hS hE Q => ?s3⟩, fun h => absurd h (by decide)⟩, ⟨rfl, by simp, fun _ => ⟨rfl, fun j x u hj1 hj2 hS hE Q => ?s4⟩, fun h => absurd h (by decide)⟩, ⟨rfl, by simp, fun _ => ⟨rfl, fun j x u hj1 hj2 hS hE Q => ?s5⟩, fun h => absurd h (by decide)⟩, ⟨rfl, by simp, fun _ => ⟨rfl, fun j x u hj1 hj2 hS hE Q => ?s6⟩, fun h => absurd h (by decide)⟩, ⟨rfl, by simp, fun _ => ⟨rfl, fun j x u hj1 hj2 hS hE Q => ?s7⟩, fun h => absurd h (by decide)⟩, ⟨rfl, by simp, fun h => absurd h (by decide), fun _ x u hS hE => ?c8⟩, ⟨rfl, by simp, fun h => absurd h (by decide), fun _ x u hS hE => ?c9⟩, ⟨rfl, by simp, fun h => absurd h (by decide), fun _ x u hS hE => ?c10⟩, trivial⟩
    case s0 => exact og_move rfl (by rw [hS.1.slot (by omega)]; exact hT3) rfl
    case s1 => exact og_from rfl (by rw [hS.1.slot (by omega)]; exact hT5) rfl
    case s2 => exact og_load3 rfl (hE ⟨1, .data⟩ (by simp) rfl) hS.2.1.cells.2.1 rfl
    case s3 => exact og_move rfl (by rw [hS.1.slot (by omega)]; exact hT3) rfl
    case s4 => exact og_from rfl (by rw [hS.1.slot (by omega)]; exact hT5) rfl
    case s5 => exact og_load3 rfl (hE ⟨4, .data⟩ (by simp) rfl) hS.2.1.cells.2.1 rfl
    case s6 =>
      refine og_look rfl (hE ⟨3, .data⟩ (by simp) rfl) (hE ⟨5, .data⟩ (by simp) rfl) (hmap u ?_) rfl
      have hj3 : j ≤ 9 := hj2
      by_cases h8 : j = 8
      · rw [hS.2.2.1 h8]; rfl
      · obtain ⟨g, _, _, g3, _⟩ := hS.2.2.2.1 (by omega)
        exact g3.block Bm hG.map.lt (by simp)
    case s7 => exact og_edge rfl (by rw [hS.1.slot (by omega)]; exact hT5) hS.2.1 rfl
    case c8 =>
      obtain ⟨h1, h2, h3, h4, h5, h6⟩ := hS
      have h3 := h3 rfl
      subst h3
      refine oc_sliceE rfl rfl (hE ⟨7, .data⟩ (by simp) (by decide) rfl) ⟨⟨h1.put (by omega) _, ?_, fun h => absurd h (by decide), fun _ => ⟨W.drew.heap.size, put_T' (by rw [h1.1]; decide), heap_alloc_new W.drew _, ⟨rfl, rfl, rfl, by simp, fun k hk _ => Below.heap_alloc W.drew _ k hk⟩, by simp⟩, fun h => absurd h (by decide), fun h => absurd h (by decide)⟩, fun j hj => put_T (by omega)⟩
      exact (Below.heap_alloc W.drew (.cells #[.int .i64 e.k, .int .i64 e.f, .int .i64 e.t, .int .u64 (Oct.word e.s 0 : Nat), .int .u64 (Oct.word e.s 1 : Nat), .int .u64 (Oct.word e.s 2 : Nat), .int .u64 (Oct.word e.s 3 : Nat)] 66) A h2.lt).trans h2
    case c9 =>
      obtain ⟨h1, h2, h3, h4, h5, h6⟩ := hS
      obtain ⟨g, g1, g2, g3, g4⟩ := h4 rfl
      have hrow : RowE u base (F e.f) (fromE es e.f) := (hG.row e.f).keep (fun b _ hb _ => g3.block b hb (by simp))
      refine oc_appendE rfl (hE ⟨6, .data⟩ (by simp) (by decide) rfl) g1 hrow rfl g2 hlen (Nat.le_trans hb (Nat.le_of_lt g4)) ?_
      intro g' cap' u' hr hgr hloc
      have hw : W.grownBy u' (F e.f).ownBlock := ⟨hgr.os.trans g3.os, hgr.tape.trans g3.tape, hgr.output.trans g3.output, Nat.le_trans g3.size hgr.size, fun b hb hne => (hgr.block b (Nat.lt_of_lt_of_le hb g3.size) hne).trans (g3.block b hb (by simp))⟩
      refine ⟨⟨h1.put (by omega) _, ?_, fun h => absurd h (by decide), fun h => absurd h (by decide), fun _ => ⟨_, put_T' (by rw [h1.1]; decide), g', cap', rfl, hr, hw, ?_⟩, fun h => absurd h (by decide)⟩, fun j hj => put_T (by omega)⟩
      · exact (hgr.block A h2.lt (fun h => hA e.f h.symm)).trans h2
      · rcases hloc with h | h
        · exact Or.inl h
        · exact Or.inr (by omega)
    case c10 =>
      obtain ⟨h1, h2, h3, h4, h5, h6⟩ := hS
      obtain ⟨V, g1, g, cap, rfl, g2, g3, g4⟩ := h5 rfl
      have hBe : u.heap[Bm]? = W.heap[Bm]? := g3.block Bm hG.map.lt (fun h => (hG.map.no 66) ((hG.row e.f).ty Bm h.symm).2)
      obtain ⟨u', hrun, hm, hgr⟩ := (hG.map.same hBe).put hn hf1 hf2 (.slice (some ⟨g, 0, none⟩) ((fromE es e.f).length + 1) cap)
      refine oc_update rfl (hE ⟨0, .data⟩ (by simp) (by decide) rfl) (hE ⟨2, .data⟩ (by simp) (by decide) rfl) g1 hrun ⟨⟨h1.nop _, ?_, fun h => absurd h (by decide), fun h => absurd h (by decide), fun h => absurd h (by decide), fun _ => ⟨_, ⟨hm, ?_, ?_⟩, ?_⟩⟩, fun j _ => rfl⟩
      · exact (hgr.block A h2.lt (fun h => hnoB h2 hBe (by cases h; rfl))).trans h2
      · intro x
        have hk : ∀ {V : Value} {l : List Eg}, RowE u base V l → RowE u' base V l := fun {V l} h => h.keep (fun b _ hb ht => hgr.block b hb (fun h => by
          cases h
          exact (hG.map.same hBe).no _ ht))
        rw [fromE_snoc]
        show RowE u' base (if x = e.f then _ else F x) _
        by_cases hx : x = e.f
        · subst hx
          rw [if_pos rfl, if_pos rfl]
          exact hk g2
        · rw [if_neg hx, if_neg (fun h => hx h.symm), List.append_nil]
          refine hk (rowE_sep (hG.row x) (fun b hb1 hb2 => g3.block b hb2 (fun h => hG.sep x e.f b hx hb1 h.symm)))
      · intro x y b hxy hx1 hy1
        have hnew : ∀ z, z ≠ e.f → (F z).ownBlock = some b → b ≠ g := fun z hz hb hbg => by
          subst hbg
          rcases g4 with h | h
          · exact hG.sep z e.f b hz hb h
          · have := rowE_lt (hG.row z) hb
            omega
        have hx1 : (if x = e.f then Value.slice (some ⟨g, 0, none⟩) ((fromE es e.f).length + 1) cap else F x).ownBlock = some b := hx1
        have hy1 : (if y = e.f then Value.slice (some ⟨g, 0, none⟩) ((fromE es e.f).length + 1) cap else F y).ownBlock = some b := hy1
        by_cases hx : x = e.f
        · have hy : y ≠ e.f := fun h => hxy (hx.trans h.symm)
          rw [if_pos hx] at hx1
          rw [if_neg hy] at hy1
          simp [Value.ownBlock] at hx1
          exact hnew y hy hy1 hx1.symm
        · rw [if_neg hx] at hx1
          by_cases hy : y = e.f
          · rw [if_pos hy] at hy1
            simp [Value.ownBlock] at hy1
            exact hnew x hx hx1 hy1.symm
          · rw [if_neg hy] at hy1
            exact hG.sep x y b hxy hx1 hy1
      · refine ⟨hgr.os.trans g3.os, hgr.tape.trans g3.tape, hgr.output.trans g3.output, Nat.le_trans g3.size hgr.size, fun b hb9 => ?_⟩
        have hlt := hG.map.lt
        refine (hgr.block b (by have := g3.size; omega) (fun h => by cases h; omega)).trans (g3.block b (by omega) (fun h => ?_))
        have := ((hG.row e.f).ty b h.symm).1
        omega
theorem gat_later {w w' : World} {B base n : Nat} {F : Int → Value} {es : List Eg} (h : Gat w B base n F es) (hb : Below w.heap.size w w') : Gat w' B base n F es :=
  ⟨h.map.same (hb.block B h.map.lt), fun x => (h.row x).later hb, h.sep⟩
theorem eb_new (w : World) (e : Eg) : EB (w.alloc (.cells #[.int .i64 e.k, .int .i64 e.f, .int .i64 e.t, .int .u64 (Oct.word e.s 0 : Nat), .int .u64 (Oct.word e.s 1 : Nat), .int .u64 (Oct.word e.s 2 : Nat), .int .u64 (Oct.word e.s 3 : Nat)] 66)) w.heap.size e := heap_alloc_new w _
set_option maxRecDepth 20000 in
set_option maxHeartbeats 4000000 in
theorem leaving_any {X : Nat → Prop} (es : List Eg) (a : Option Addr) (n c : Nat) (w : World) (hn : es.length = n) (hm : n ≤ 2513169434900) (hE : EAt X w a es) (hwf : ∀ e ∈ es, -9223372036854775808 ≤ e.f ∧ e.f < 9223372036854775808) :
    Calls Tryz.prog 27 #[.slice a n c] w fun r w' => r = .returned (.map (some w.heap.size)) ∧ ByAt (fun b => w.heap.size ≤ b ∧ TyB w' 66 b) w' w.heap.size es ∧ Below w.heap.size w w' := by
  have HE : Hid (EAt X w a es) := hE
  have HN : Hid (es.length = n) := hn
  have HWF : Hid (∀ e ∈ es, -9223372036854775808 ≤ e.f ∧ e.f < 9223372036854775808) := hwf
  have hmm := @run_makeMap Tryz.prog
  have HB0 : Hid (Below w.heap.size w (w.alloc (.map #[] 0))) := (Below.refl _ _).alloc (Nat.le_refl _) _
  have HG0 : Hid (Gat (w.alloc (.map #[] 0)) w.heap.size (w.heap.size + 1) 0 (fun _ => nilS) []) := gat_start w _
  have hmx : 20000000000000 ≤ maxLen := by decide
  clear hE hn hwf
  go_enter Tryz.func27, Tryz.ntmps27
  go_wp2_with fail
  obtain ⟨M, hM⟩ : ∃ M, w.heap.size = M := ⟨_, rfl⟩
  have HM : Hid (w.heap.size = M) := hM
  rw [hM] at HB0 HG0 ⊢
  clear hM
  go_loopw [9] (fun i u => ∃ j : Nat, ∃ F, i = .int .i64 (j : Nat) ∧ j ≤ n ∧ Hid (Gat u M (M + 1) j F (es.take j)) ∧ Hid (Below M w u)) (fun i _ => n - (intOf i).toNat)
  case atStart => exact ⟨0, _, rfl, Nat.zero_le _, HG0, HB0⟩
  case round =>
    obtain ⟨j, F, rfl, hjn, HG, HB⟩ := hrel
    by_cases hlt : j < n
    · have hlt' : (j : Int) < (n : Int) := by omega
      obtain ⟨e, he⟩ : ∃ e, es[j]? = some e := ⟨_, List.getElem?_eq_getElem (by rw [HN.out]; exact hlt)⟩
      have hrow := (HE.out.keep (w' := wr) (Y := X) (fun _ h _ => h) (fun b _ hlt => HB.out.block b (by rw [← HM.out]; exact hlt))).nth he
      obtain ⟨g, off, rfl, e0, e1, e2, e3, e4, e5, e6⟩ := hrow
      have HF : Hid (-9223372036854775808 ≤ e.f ∧ e.f < 9223372036854775808) := HWF.out e (List.mem_of_getElem? he)
      have HT : Hid (es.take (j + 1) = es.take j ++ [e]) := by show _ = _; rw [List.take_add_one, he]; rfl
      have HL : Hid ((es.take j).length ≤ n) := by show _ ≤ _; rw [List.length_take]; omega
      clear he
      have kk : Below wr.heap.size wr (wr.alloc (.cells #[.int .i64 e.k, .int .i64 e.f, .int .i64 e.t, .int .u64 (Oct.word e.s 0 : Nat), .int .u64 (Oct.word e.s 1 : Nat), .int .u64 (Oct.word e.s 2 : Nat), .int .u64 (Oct.word e.s 3 : Nat)] 66)) := (Below.refl _ _).alloc (Nat.le_refl _) _
      have HG1 : Hid (Gat (wr.alloc (.cells #[.int .i64 e.k, .int .i64 e.f, .int .i64 e.t, .int .u64 (Oct.word e.s 0 : Nat), .int .u64 (Oct.word e.s 1 : Nat), .int .u64 (Oct.word e.s 2 : Nat), .int .u64 (Oct.word e.s 3 : Nat)] 66)) M (M + 1) j F (es.take j)) := gat_later HG.out kk
      have HE1 : Hid (EB (wr.alloc (.cells #[.int .i64 e.k, .int .i64 e.f, .int .i64 e.t, .int .u64 (Oct.word e.s 0 : Nat), .int .u64 (Oct.word e.s 1 : Nat), .int .u64 (Oct.word e.s 2 : Nat), .int .u64 (Oct.word e.s 3 : Nat)] 66)) wr.heap.size e) := eb_new wr e
      have HNE : Hid (∀ x, (F x).ownBlock ≠ some wr.heap.size) := fun x h => by have := rowE_lt (HG.out.row x) h; omega
      have HB1 : Hid (Below M w (wr.alloc (.cells #[.int .i64 e.k, .int .i64 e.f, .int .i64 e.t, .int .u64 (Oct.word e.s 0 : Nat), .int .u64 (Oct.word e.s 1 : Nat), .int .u64 (Oct.word e.s 2 : Nat), .int .u64 (Oct.word e.s 3 : Nat)] 66))) := HB.out.trans (kk.mono (Nat.le_of_lt HG.out.map.lt))
      obtain ⟨w1, hw1⟩ : ∃ w1, wr.alloc (.cells #[.int .i64 e.k, .int .i64 e.f, .int .i64 e.t, .int .u64 (Oct.word e.s 0 : Nat), .int .u64 (Oct.word e.s 1 : Nat), .int .u64 (Oct.word e.s 2 : Nat), .int .u64 (Oct.word e.s 3 : Nat)] 66) = w1 := ⟨_, rfl⟩
      rw [hw1] at HG1 HE1 HB1
      have HW1 : Hid (wr.alloc (.cells #[.int .i64 e.k, .int .i64 e.f, .int .i64 e.t, .int .u64 (Oct.word e.s 0 : Nat), .int .u64 (Oct.word e.s 1 : Nat), .int .u64 (Oct.word e.s 2 : Nat), .int .u64 (Oct.word e.s 3 : Nat)] 66) = w1) := hw1
      obtain ⟨A, hA⟩ : ∃ A, wr.heap.size = A := ⟨_, rfl⟩
      rw [hA] at HE1 HNE
      have HAA : Hid (wr.heap.size = A) := hA
      clear hw1 hA kk HG HB
      go_upto_region 5 with fail
      rw [HW1.out, HAA.out]
      clear HW1 HAA
      refine reg5S (Bm := M) (A := A) (base := M + 1) (n := j) (k := n) (F := F) (es := es.take j) (e := e) rfl rfl rfl HG1.out HE1.out HNE.out HF.out.1 HF.out.2 (by omega) HL.out hm (by have := HG1.out.map.lt; omega) (by omega) ?_
      rintro a' W' F' hfr hg2 hb2
      rw [hfr.lit rfl]
      have HG2 : Hid (Gat W' M (M + 1) (j + 1) F' (es.take (j + 1))) := by rw [HT.out]; exact hg2
      have HB2 : Hid (Below M w W') := HB1.out.trans hb2
      clear hg2 hb2 HG1 HE1 HB1 HNE e0 e1 e2 e3 e4 e5 e6
      obtain ⟨v13, e13⟩ : ∃ v, v = T a' 13 := ⟨_, rfl⟩
      obtain ⟨v14, e14⟩ : ∃ v, v = T a' 14 := ⟨_, rfl⟩
      obtain ⟨v15, e15⟩ : ∃ v, v = T a' 15 := ⟨_, rfl⟩
      obtain ⟨v16, e16⟩ : ∃ v, v = T a' 16 := ⟨_, rfl⟩
      obtain ⟨v17, e17⟩ : ∃ v, v = T a' 17 := ⟨_, rfl⟩
      obtain ⟨v18, e18⟩ : ∃ v, v = T a' 18 := ⟨_, rfl⟩
      obtain ⟨v19, e19⟩ : ∃ v, v = T a' 19 := ⟨_, rfl⟩
      obtain ⟨v20, e20⟩ : ∃ v, v = T a' 20 := ⟨_, rfl⟩
      obtain ⟨v21, e21⟩ : ∃ v, v = T a' 21 := ⟨_, rfl⟩
      obtain ⟨v22, e22⟩ : ∃ v, v = T a' 22 := ⟨_, rfl⟩
      rw [← e13, ← e14, ← e15, ← e16, ← e17, ← e18, ← e19, ← e20, ← e21, ← e22]
      clear e13 e14 e15 e16 e17 e18 e19 e20 e21 e22 hfr
      simp only [Act.put]
      go_wp2
      go_roundw
      case rel => exact ⟨j + 1, F', by go_num, by omega, HG2, HB2⟩
      case measure => simp [intOf]; omega
    · have hlt' : ¬ (j : Int) < (n : Int) := by omega
      have HG3 : Hid (Gat wr M (M + 1) j F es) := by
        have h := HG.out
        rw [List.take_of_length_le (by rw [HN.out]; omega)] at h
        exact h
      go_wp2
      go_ret
      rw [HM.out]
      exact ⟨rfl, HG3.out.by.keep rfl (fun b hb _ => ⟨by omega, hb.2⟩) (fun _ _ _ => rfl), HB.out⟩
end Go.Proofs.YtmjnobdlgbojoaaGreatDoor
