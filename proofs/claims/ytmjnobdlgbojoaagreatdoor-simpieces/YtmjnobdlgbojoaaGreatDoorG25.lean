
import Derived.Test.YtmjnobdlgbojoaaGreatDoorG24
namespace Go.Proofs.YtmjnobdlgbojoaaGreatDoor
open Go.RowKit
attribute [local go_sem ↓] Go.wp_at_zero Go.wp_at_succ
theorem nodup_le {l m : List Nat} (hl : l.Nodup) (h : ∀ x ∈ l, x ∈ m) : l.length ≤ m.length := by
  induction l generalizing m with
  | nil => simp
  | cons x l ih =>
    have hx := h x (by simp)
    obtain ⟨h1, h2⟩ := List.nodup_cons.1 hl
    have := ih (m := m.erase x) h2 (fun y hy => by
      have hne : y ≠ x := fun e => h1 (e ▸ hy)
      exact (List.mem_erase_of_ne hne).2 (h y (by simp [hy])))
    rw [List.length_erase_of_mem hx] at this
    have h3 : 0 < m.length := List.length_pos_of_mem hx
    simp only [List.length_cons]
    omega
theorem els_nodup (g : Oct.S) (n : Nat) : (Oct.els g n).Nodup := List.Pairwise.imp (fun h => Nat.ne_of_lt h) (Oct.els_sorted g n)
theorem cnt_leS {es : List Eg} {g : Oct.S} {n : Nat} (h : ∀ s, g s = true → s = 0 ∨ ∃ y ∈ es, y.t.toNat = s) : (Oct.els g n).length ≤ es.length + 1 := by
  have := nodup_le (els_nodup g n) (m := 0 :: es.map fun y => y.t.toNat) (fun x hx => by
    rcases h x (Oct.mem_els.1 hx).2 with h | ⟨y, hy, h⟩
    · simp [h]
    · exact List.mem_cons_of_mem _ (List.mem_map.2 ⟨y, hy, h⟩))
  simpa using this
theorem rch_cnt {es : List Eg} {p : Eg → Bool} {f : Oct.S} (hf : ∀ s, f s = true → s = 0 ∨ ∃ y ∈ es, y.t.toNat = s) {s : Nat} (h : Rch es p f s) : s = 0 ∨ ∃ y ∈ es, y.t.toNat = s := by
  cases h with
  | base s h => exact hf s h
  | step y h1 _ _ => exact Or.inr ⟨y, h1, rfl⟩
theorem kinds_1 : (fun y : Eg => hasK [1] y.k) = kmov false false := by funext y; unfold hasK kmov; rw [Bool.eq_iff_iff]; simp
theorem kinds_13 : (fun y : Eg => hasK [1, 3] y.k) = kmov true false := by funext y; unfold hasK kmov; rw [Bool.eq_iff_iff]; simp
theorem kinds_14 : (fun y : Eg => hasK [1, 4] y.k) = kmov false true := by funext y; unfold hasK kmov; rw [Bool.eq_iff_iff]; simp
theorem kinds_143 : (fun y : Eg => hasK [1, 4, 3] y.k) = kmov true true := by funext y; unfold hasK kmov; rw [Bool.eq_iff_iff]; simp; omega
theorem ins_none : Oct.ins Oct.none 0 = zeroS := by funext s; unfold Oct.ins Oct.none zeroS; rw [Bool.eq_iff_iff]; simp
def WkAt (base : Nat) (w : World) (Wb : Nat) (M : Ma) (S : Nat) (g : Oct.S) (r : Nat) (bg : Bool) : Prop :=
  base ≤ Wb ∧ ∃ mb ra rc b c, WkB w Wb mb (.slice ra S rc) (.slice (some ⟨b, 0, none⟩) ((S + 63) / 64) c) r bg ∧ base ≤ mb ∧ ByAt (fun k => base ≤ k ∧ TyB w 66 k) w mb M.es ∧ UAt (fun k => base ≤ k ∧ TyB w 44 k) w ra M.rs ∧ RowG w base b ((S + 63) / 64) c g
section
variable {base : Nat} {w w' : World} {Wb : Nat} {M : Ma} {S : Nat} {g : Oct.S} {r : Nat} {bg : Bool}
theorem WkAt.lt (h : WkAt base w Wb M S g r bg) : Wb < w.heap.size := by obtain ⟨_, mb, ra, rc, b, c, h1, _⟩ := h; exact h1.lt
theorem WkAt.ty (h : WkAt base w Wb M S g r bg) : TyB w 76 Wb := by obtain ⟨_, mb, ra, rc, b, c, h1, _⟩ := h; exact h1.ty
theorem WkAt.keep (h : WkAt base w Wb M S g r bg) (hk : ∀ k, base ≤ k → k < w.heap.size → (k = Wb ∨ TyB w 66 k ∨ TyB w 44 k ∨ TyB w 26 k ∨ MpB w k) → w'.heap[k]? = w.heap[k]?) : WkAt base w' Wb M S g r bg := by
  have hlt := h.lt
  obtain ⟨h0, mb, ra, rc, b, c, h1, h2, h3, h4, h5⟩ := h
  refine ⟨h0, mb, ra, rc, b, c, h1.same (hk Wb h0 hlt (Or.inl rfl)), h2, ?_, ?_, h5.same (hk b h5.lt.2.1 h5.lt.1 (by simp [h5.ty]))⟩
  · exact h3.keep (hk mb h2 h3.lt (Or.inr (Or.inr (Or.inr (Or.inr h3.mp))))) (fun k hX hl => ⟨hX.1, hX.2.same (hk k hX.1 hl (by simp [hX.2]))⟩) (fun k hX hl => hk k hX.1 hl (by simp [hX.2]))
  · exact h4.keep (fun k hX hl => ⟨hX.1, hX.2.same (hk k hX.1 hl (by simp [hX.2]))⟩) (fun k hX hl => hk k hX.1 hl (by simp [hX.2]))
theorem WkAt.later (h : WkAt base w Wb M S g r bg) (hb : Below w.heap.size w w') : WkAt base w' Wb M S g r bg := h.keep (fun k _ hl _ => hb.block k hl)
end
section
variable {o : Oper} {a : Act} {w w' : World} {r : Value → World → Prop} {Q : Exit → Act → World → Prop}
attribute [local go_sem] Oper.semAt_some
theorem sx_duty {P : Program} {ops : Array Oper} {w0 : World} {D : Nat → Nat} {R : Nat → Value → World → Prop} {F0 : Act → Prop} {i : Nat} (hd : o.dst = some (D i)) (ha : ∀ e ∈ o.after, e.on < i) (hg : o.guard = none)
    (h : ∀ a w, F0 a → Below w0.heap.size w0 w → (∀ e ∈ o.after, Region.binds .any e = true → R e.on (T a (D e.on)) w) → ∀ Q, o.wp P a w (Leaves (R i) o a w) Q) : Duty P ops w0 D R F0 i o :=
  ⟨hd, ha, fun a w hF hB hE => ⟨fun _ => h a w hF hB hE, fun hw => by rw [wanted_free hg] at hw; cases hw⟩⟩
theorem sx_value {v : Value} (h : (execOp a.eval o).run Tryz.prog w = .ok (.value v) w') (hb : Below w.heap.size w w') (hR : r v w') : o.wp Tryz.prog a w (Leaves r o a w) Q := by
  unfold Oper.wp
  rw [h]
  exact ⟨v, rfl, hb, hR⟩
theorem sx_enter {f : FuncId} {args : Array Value} (h : (execOp a.eval o).run Tryz.prog w = .ok (.enter f args) w) (hc : Calls Tryz.prog f args w fun e w' => ∃ v, e = .returned v ∧ Below w.heap.size w w' ∧ r v w') : o.wp Tryz.prog a w (Leaves r o a w) Q := by
  unfold Oper.wp
  rw [h]
  refine hc.mono ?_
  rintro e w' ⟨v, rfl, hb, hR⟩
  exact ⟨v, rfl, hb, hR⟩
set_option maxRecDepth 20000 in
theorem sx_call1 {p f : Nat} {ts : Array TypeId} (ho : o.op = .call { callee := .value (.func f), args := #[.tmp p], argTypes := ts }) (hf : ∀ (args : Array Value) (w : World), (callFunc f args).run Tryz.prog w = .ok (.enter f args) w) {v : Value} (hx : T a p = v) (hc : Calls Tryz.prog f #[v] w fun e w' => ∃ v, e = .returned v ∧ Below w.heap.size w w' ∧ r v w') : o.wp Tryz.prog a w (Leaves r o a w) Q := by
  obtain ⟨dst, op, type, pos, after, guard⟩ := o
  simp only at ho
  subst ho
  refine sx_enter (args := #[v]) ?_ hc
  simp [Act.eval, hx, go_sem]
  exact hf _ _
set_option maxRecDepth 10000 in
theorem sx_edges {p B : Nat} (ho : o.op = .fieldAddr 37 (.tmp p) 1) (hx : T a p = .pointer (some ⟨B, 0, none⟩)) (hr : r (.pointer (some ⟨B, 1, none⟩)) w) : o.wp Tryz.prog a w (Leaves r o a w) Q := by
  obtain ⟨dst, op, type, pos, after, guard⟩ := o
  simp only at ho
  subst ho
  refine sx_value (v := .pointer (some ⟨B, 1, none⟩)) (w' := w) ?_ (Below.refl _ _) hr
  simp [execOp, Act.eval, hx, go_sem]
set_option maxRecDepth 10000 in
theorem sx_rules {p B : Nat} (ho : o.op = .fieldAddr 37 (.tmp p) 2) (hx : T a p = .pointer (some ⟨B, 0, none⟩)) (hr : r (.pointer (some ⟨B, 2, none⟩)) w) : o.wp Tryz.prog a w (Leaves r o a w) Q := by
  obtain ⟨dst, op, type, pos, after, guard⟩ := o
  simp only at ho
  subst ho
  refine sx_value (v := .pointer (some ⟨B, 2, none⟩)) (w' := w) ?_ (Below.refl _ _) hr
  simp [execOp, Act.eval, hx, go_sem]
theorem sx_loadE {p : Nat} {ad : Addr} {v : Value} (ho : o.op = .load 34 (.tmp p)) (hx : T a p = .pointer (some ad)) (hc : w.cell? ad = some v) (hr : r v w) : o.wp Tryz.prog a w (Leaves r o a w) Q := by
  obtain ⟨dst, op, type, pos, after, guard⟩ := o
  simp only at ho
  subst ho
  refine sx_value (v := v) (w' := w) ?_ (Below.refl _ _) hr
  simp [execOp, Act.eval, hx, go_sem, hc]
theorem sx_loadU {p : Nat} {ad : Addr} {v : Value} (ho : o.op = .load 35 (.tmp p)) (hx : T a p = .pointer (some ad)) (hc : w.cell? ad = some v) (hr : r v w) : o.wp Tryz.prog a w (Leaves r o a w) Q := by
  obtain ⟨dst, op, type, pos, after, guard⟩ := o
  simp only at ho
  subst ho
  refine sx_value (v := v) (w' := w) ?_ (Below.refl _ _) hr
  simp [execOp, Act.eval, hx, go_sem, hc]
set_option maxRecDepth 10000 in
theorem sx_build {p q mb : Nat} {V : Value} (ho : o.op = .build 76 #[(0, .tmp p), (1, .tmp q)]) (hx : T a p = .map (some mb)) (hy : T a q = V) (hV : ∃ x n c, V = .slice x n c) (hr : r (.agg #[.map (some mb), V, .slice none 0 0, .int .u32 0, .bool false]) w) : o.wp Tryz.prog a w (Leaves r o a w) Q := by
  obtain ⟨dst, op, type, pos, after, guard⟩ := o
  simp only at ho
  subst ho
  obtain ⟨x, n, c, rfl⟩ := hV
  refine sx_value (v := .agg #[.map (some mb), .slice x n c, .slice none 0 0, .int .u32 0, .bool false]) (w' := w) ?_ (Below.refl _ _) hr
  simp [execOp, Act.eval, hx, hy, go_sem]
set_option maxRecDepth 10000 in
theorem sx_box {p mb : Nat} {V : Value} (ho : o.op = .box 76 (.tmp p)) (hx : T a p = .agg #[.map (some mb), V, .slice none 0 0, .int .u32 0, .bool false]) (hr : r (.pointer (some ⟨w.heap.size, 0, none⟩)) (w.alloc (.cells #[.map (some mb), V, .slice none 0 0, .int .u32 0, .bool false] 76))) : o.wp Tryz.prog a w (Leaves r o a w) Q := by
  obtain ⟨dst, op, type, pos, after, guard⟩ := o
  simp only at ho
  subst ho
  refine sx_value (v := .pointer (some ⟨w.heap.size, 0, none⟩)) (w' := w.alloc (.cells #[.map (some mb), V, .slice none 0 0, .int .u32 0, .bool false] 76)) ?_ ((Below.refl _ _).alloc (Nat.le_refl _) _) hr
  simp [execOp, Act.eval, hx, go_sem]
end
end Go.Proofs.YtmjnobdlgbojoaaGreatDoor


namespace Go.Proofs.YtmjnobdlgbojoaaGreatDoor
open Go.RowKit
attribute [local go_sem ↓] Go.wp_at_zero Go.wp_at_succ
def FrB (act a : Act) : Prop := a.tmps.size = 23 ∧ a.defers = act.defers ∧ ∀ k, (k < 8 ∨ 16 ≤ k) → a.tmps[k]? = act.tmps[k]?
theorem FrB.put {act a : Act} (h : FrB act a) {k : Nat} (hd : 8 ≤ k ∧ k < 16) (v : Value) : FrB act (a.put (some k) v) := by
  obtain ⟨h1, h2, h3⟩ := h
  refine ⟨by simp [Act.put, h1], by simp [Act.put, h2], fun j hj => ?_⟩
  simp only [Act.put]
  rw [Array.getElem?_setIfInBounds_ne (by omega)]
  exact h3 j hj
theorem FrB.slot {act a : Act} (h : FrB act a) {k : Nat} (hk : (k < 8 ∨ 16 ≤ k)) : T a k = Go.Proofs.YtmjnobdlgbojoaaGreatDoor.T act k := by unfold Go.Proofs.YtmjnobdlgbojoaaGreatDoor.T; rw [h.2.2 k hk]
theorem FrB.lit {act a : Act} (h : FrB act a) (hs : act.tmps.size = 23) : a = ((((((((act.put (some 8) (T a 8)).put (some 9) (T a 9)).put (some 10) (T a 10)).put (some 11) (T a 11)).put (some 12) (T a 12)).put (some 13) (T a 13)).put (some 14) (T a 14)).put (some 15) (T a 15)) := by
  obtain ⟨h1, h2, h3⟩ := h
  obtain ⟨tmps, defers⟩ := a
  simp only at h1 h2 h3
  simp only [Act.put, Act.mk.injEq]
  refine ⟨?_, h2⟩
  apply Array.ext_getElem?
  intro k
  have hT : ∀ j, j < 23 → tmps[j]? = some (Go.Proofs.YtmjnobdlgbojoaaGreatDoor.T ⟨tmps, defers⟩ j) := fun j hj => by
    have : j < tmps.size := by omega
    simp [Go.Proofs.YtmjnobdlgbojoaaGreatDoor.T, this]
  by_cases hk : (k < 8 ∨ 16 ≤ k)
  · rw [h3 k hk, Array.getElem?_setIfInBounds_ne (by omega), Array.getElem?_setIfInBounds_ne (by omega), Array.getElem?_setIfInBounds_ne (by omega), Array.getElem?_setIfInBounds_ne (by omega), Array.getElem?_setIfInBounds_ne (by omega), Array.getElem?_setIfInBounds_ne (by omega), Array.getElem?_setIfInBounds_ne (by omega), Array.getElem?_setIfInBounds_ne (by omega)]
  · have hk' : k = 8 ∨ k = 9 ∨ k = 10 ∨ k = 11 ∨ k = 12 ∨ k = 13 ∨ k = 14 ∨ k = 15 := by omega
    rcases hk' with rfl | rfl | rfl | rfl | rfl | rfl | rfl | rfl <;> rw [hT _ (by decide)] <;> simp [hs]
abbrev ByB (base : Nat) (u : World) (mb : Nat) (es : List Eg) : Prop := ByAt (fun k => base ≤ k ∧ TyB u 66 k) u mb es
abbrev UB (base : Nat) (u : World) (a : Option Addr) (rs : List Nat) : Prop := UAt (fun k => base ≤ k ∧ TyB u 44 k) u a rs
theorem byB_later {base : Nat} {u u' : World} {mb : Nat} {es : List Eg} (h : ByB base u mb es) (hb : Below u.heap.size u u') : ByB base u' mb es := h.keep (hb.block mb h.lt) (fun k hX hl => ⟨hX.1, hX.2.same (hb.block k hl)⟩) (fun k _ hl => hb.block k hl)
theorem uB_later {base : Nat} {u u' : World} {a : Option Addr} {rs : List Nat} (h : UB base u a rs) (hb : Below u.heap.size u u') : UB base u' a rs := h.keep (fun k hX hl => ⟨hX.1, hX.2.same (hb.block k hl)⟩) (fun k _ hl => hb.block k hl)
def RB3 (base A S : Nat) (ve vr : Value) (M : Ma) : Nat → Value → World → Prop
  | 0, v, _ => v = .pointer (some ⟨A, 1, none⟩)
  | 1, v, _ => v = ve
  | 2, v, u => ∃ mb, v = .map (some mb) ∧ base ≤ mb ∧ ByB base u mb M.es
  | 3, v, _ => v = .pointer (some ⟨A, 2, none⟩)
  | 4, v, _ => v = vr
  | 5, v, u => ∃ g cap, v = .slice (some ⟨g, 0, none⟩) S cap ∧ UB base u (some ⟨g, 0, none⟩) M.rs
  | 6, v, u => ∃ mb g cap, v = .agg #[.map (some mb), .slice (some ⟨g, 0, none⟩) S cap, .slice none 0 0, .int .u32 0, .bool false] ∧ base ≤ mb ∧ ByB base u mb M.es ∧ UB base u (some ⟨g, 0, none⟩) M.rs
  | 7, v, u => ∃ Wb mb g cap, v = .pointer (some ⟨Wb, 0, none⟩) ∧ base ≤ Wb ∧ WkB u Wb mb (.slice (some ⟨g, 0, none⟩) S cap) (.slice none 0 0) 0 false ∧ base ≤ mb ∧ ByB base u mb M.es ∧ UB base u (some ⟨g, 0, none⟩) M.rs
  | _, _, _ => True
set_option maxRecDepth 100000 in
set_option maxHeartbeats 1000000 in
theorem regB {act : Act} {W : World} {A S en ec rc : Nat} {ea ra : Option Addr} {M : Ma} {X : Nat → Prop} {Q : Exit → Act → World → Prop} (hT1 : T act 1 = .pointer (some ⟨A, 0, none⟩)) (hsz : act.tmps.size = 23)
    (hA1 : W.cell? ⟨A, 1, none⟩ = some (.slice ea en ec)) (hA2 : W.cell? ⟨A, 2, none⟩ = some (.slice ra S rc)) (hen : M.es.length = en) (hel : en ≤ 2513169434900) (HE0 : EAt X W ea M.es) (hwf : ∀ e ∈ M.es, -9223372036854775808 ≤ e.f ∧ e.f < 9223372036854775808) (hrn : M.rs.length = S) (hS : 1 ≤ S) (hS2 : S ≤ 35184372088832) (hU : UAt X W ra M.rs)
    (K : ∀ a1 W' Wb mb g cap, FrB act a1 → Below W.heap.size W W' → W.heap.size ≤ Wb → WkB W' Wb mb (.slice (some ⟨g, 0, none⟩) S cap) (.slice none 0 0) 0 false → W.heap.size ≤ mb → ByB W.heap.size W' mb M.es → UB W.heap.size W' (some ⟨g, 0, none⟩) M.rs → Q .normal (a1.put (some 4) (.pointer (some ⟨Wb, 0, none⟩))) W') : (Code.region 3 (opsOf Tryz.f12 3) true).wp Tryz.prog Q act W := by
  refine wp_region_last (by kernel_rfl) 8 (by kernel_rfl) (fun i => 8 + i) (RB3 W.heap.size A S (.slice ea en ec) (.slice ra S rc) M) (FrB act) ?up ?f0 ?sz ?inj (by kernel_rfl) ?duty ⟨hsz, rfl, fun _ _ => rfl⟩
  case up =>
    intro i v w w' h hb
    match i, h with
    | 0, h => exact h
    | 1, h => exact h
    | 2, ⟨mb, h1, h2, h3⟩ => exact ⟨mb, h1, h2, byB_later h3 hb⟩
    | 3, h => exact h
    | 4, h => exact h
    | 5, ⟨g, cap, h1, h2⟩ => exact ⟨g, cap, h1, uB_later h2 hb⟩
    | 6, ⟨mb, g, cap, h1, h2, h3, h4⟩ => exact ⟨mb, g, cap, h1, h2, byB_later h3 hb, uB_later h4 hb⟩
    | 7, ⟨Wb, mb, g, cap, h1, h2, h3, h4, h5, h6⟩ => exact ⟨Wb, mb, g, cap, h1, h2, h3.same (hb.block Wb h3.lt), h4, byB_later h5 hb, uB_later h6 hb⟩
    | _ + 8, _ => trivial
  case f0 =>
    intro a i v hi h
    exact h.put (by omega) v
  case sz =>
    intro a i hi h
    rw [h.1]
    show 8 + i < 23
    omega
  case inj =>
    intro i j _ _ h
    exact Nat.add_left_cancel h
  case duty =>
    refine ⟨⟨fun _ => ⟨rfl, sx_duty rfl (by simp) rfl fun a u hF hB hE Q => ?s0⟩, fun h => absurd h (by decide)⟩, ⟨fun _ => ⟨rfl, sx_duty rfl (by simp) rfl fun a u hF hB hE Q => ?s1⟩, fun h => absurd h (by decide)⟩, ⟨fun _ => ⟨rfl, sx_duty rfl (by simp) rfl fun a u hF hB hE Q => ?s2⟩, fun h => absurd h (by decide)⟩, ⟨fun _ => ⟨rfl, sx_duty rfl (by simp) rfl fun a u hF hB hE Q => ?s3⟩, fun h => absurd h (by decide)⟩, ⟨fun _ => ⟨rfl, sx_duty rfl (by simp) rfl fun a u hF hB hE Q => ?s4⟩, fun h => absurd h (by decide)⟩, ⟨fun _ => ⟨rfl, sx_duty rfl (by simp) rfl fun a u hF hB hE Q => ?s5⟩, fun h => absurd h (by decide)⟩, ⟨fun _ => ⟨rfl, sx_duty rfl (by simp) rfl fun a u hF hB hE Q => ?s6⟩, fun h => absurd h (by decide)⟩, ⟨fun _ => ⟨rfl, sx_duty rfl (by simp) rfl fun a u hF hB hE Q => ?s7⟩, fun h => absurd h (by decide)⟩, ⟨fun h => absurd h (by decide), fun _ => ⟨rfl, by simp, fun a u hF hB hR => ?last⟩⟩, trivial⟩
    case s0 => exact sx_edges rfl (by rw [hF.slot (by omega)]; exact hT1) rfl
    case s1 => exact sx_loadE rfl (hE ⟨0, .data⟩ (by simp) rfl) ((hB.cell (p := ⟨A, 1, none⟩) (lt_of_cell hA1)).trans hA1) rfl
    case s2 =>
      refine sx_call1 rfl (fun args w => by simp [go_sem]) (hE ⟨1, .data⟩ (by simp) rfl) ((leaving_any (X := X) M.es ea en ec u hen hel (HE0.keep (fun _ h _ => h) (fun k _ hl => hB.block k hl)) hwf).mono ?_)
      rintro e w' ⟨rfl, h1, h2⟩
      exact ⟨_, rfl, h2, u.heap.size, rfl, hB.size, h1.keep rfl (fun k hX _ => ⟨by have := hX.1; have := hB.size; omega, hX.2⟩) (fun _ _ _ => rfl)⟩
    case s3 => exact sx_rules rfl (by rw [hF.slot (by omega)]; exact hT1) rfl
    case s4 => exact sx_loadU rfl (hE ⟨3, .data⟩ (by simp) rfl) ((hB.cell (p := ⟨A, 2, none⟩) (lt_of_cell hA2)).trans hA2) rfl
    case s5 =>
      have hx := hE ⟨4, .data⟩ (by simp) rfl
      have hU2 : UAt X u ra M.rs := hU.keep (fun _ h _ => h) (fun k _ hl => hB.block k hl)
      rcases hU2 with h | ⟨rb, off, rfl, _, hc⟩
      · rw [h] at hrn; simp at hrn; omega
      · refine sx_call1 rfl (fun args w => by simp [go_sem]) hx ((clone32_any rb off S rc (wds M.rs) u (by rw [wds_length, hrn]) (by omega) (fun j v hj => ?_) (fun v hv => ?_) (by omega)).mono ?_)
        · unfold wds at hj
          rw [List.getElem?_map] at hj
          cases hx2 : M.rs[j]? with
          | none => rw [hx2] at hj; cases hj
          | some y =>
            rw [hx2] at hj
            cases hj
            exact hc j y hx2
        · unfold wds at hv
          obtain ⟨y, _, rfl⟩ := List.mem_map.1 hv
          rfl
        · rintro e w' ⟨g, cap, rfl, h1, h2⟩
          have h3 : RowU w' u.heap.size (.slice (some ⟨g, 0, none⟩) S cap) M.rs := by unfold RowU; rw [hrn]; exact h1
          exact ⟨_, rfl, h2, g, cap, rfl, h3.at2.keep (fun k hX _ => ⟨by have := hX.1; have := hB.size; omega, hX.2⟩) (fun _ _ _ => rfl)⟩
    case s6 =>
      obtain ⟨mb, h1, h2, h3⟩ := hE ⟨2, .data⟩ (by simp) rfl
      obtain ⟨g, cap, h4, h5⟩ := hE ⟨5, .data⟩ (by simp) rfl
      exact sx_build rfl h1 h4 ⟨_, _, _, rfl⟩ ⟨mb, g, cap, rfl, h2, h3, h5⟩
    case s7 =>
      obtain ⟨mb, g, cap, h1, h2, h3, h4⟩ := hE ⟨6, .data⟩ (by simp) rfl
      have kk : ∀ o, Below u.heap.size u (u.alloc o) := fun o => (Below.refl _ _).alloc (Nat.le_refl _) o
      exact sx_box rfl h1 ⟨u.heap.size, mb, g, cap, rfl, hB.size, heap_alloc_new u _, h2, byB_later h3 (kk _), uB_later h4 (kk _)⟩
    case last =>
      obtain ⟨Wb, mb, g, cap, h1, h2, h3, h4, h5, h6⟩ := hR 7 (by decide)
      exact oc_assign rfl h1 (K a u Wb mb g cap hF hB h2 h3 h4 h5 h6)
end Go.Proofs.YtmjnobdlgbojoaaGreatDoor


namespace Go.Proofs.YtmjnobdlgbojoaaGreatDoor
open Go.RowKit
attribute [local go_sem ↓] Go.wp_at_zero Go.wp_at_succ
theorem fits_of {M : Ma} (h : rightOf M = true) (h32 : ∀ x ∈ M.rs, x < 4294967296) : Fits M M.rs.length := by
  obtain ⟨h1, h2, h3⟩ := right_parts h
  exact ⟨by omega, h2.symm, rfl, fun y hy => by have := h3 y hy; omega, h32⟩
theorem ksAt_two (w : World) (t : TypeId) (x y : Int) : KsAt (w.alloc (.cells #[.int .i64 x, .int .i64 y] t)) (some ⟨w.heap.size, 0, none⟩) [x, y] := by
  refine Or.inr ⟨w.heap.size, 0, rfl, fun j z hj => ?_⟩
  have hb : (w.alloc (.cells #[.int .i64 x, .int .i64 y] t)).heap[w.heap.size]? = some (.cells #[.int .i64 x, .int .i64 y] t (0, 0)) := heap_alloc_new w _
  rcases j with _ | _ | j
  · simp at hj; subst hj; exact (cell_of_row _ _ _ _ _ _ hb).trans rfl
  · simp at hj; subst hj; exact (cell_of_row _ _ _ _ _ _ hb).trans rfl
  · simp at hj
theorem ksAt_one (w : World) (t : TypeId) (x : Int) : KsAt (w.alloc (.cells #[.int .i64 x] t)) (some ⟨w.heap.size, 0, none⟩) [x] := by
  refine Or.inr ⟨w.heap.size, 0, rfl, fun j z hj => ?_⟩
  have hb : (w.alloc (.cells #[.int .i64 x] t)).heap[w.heap.size]? = some (.cells #[.int .i64 x] t (0, 0)) := heap_alloc_new w _
  rcases j with _ | j
  · simp at hj; subst hj; exact (cell_of_row _ _ _ _ _ _ hb).trans rfl
  · simp at hj
theorem ksAt_three (w : World) (t : TypeId) (x y v : Int) : KsAt (w.alloc (.cells #[.int .i64 x, .int .i64 y, .int .i64 v] t)) (some ⟨w.heap.size, 0, none⟩) [x, y, v] := by
  refine Or.inr ⟨w.heap.size, 0, rfl, fun j z hj => ?_⟩
  have hb : (w.alloc (.cells #[.int .i64 x, .int .i64 y, .int .i64 v] t)).heap[w.heap.size]? = some (.cells #[.int .i64 x, .int .i64 y, .int .i64 v] t (0, 0)) := heap_alloc_new w _
  rcases j with _ | _ | _ | j
  · simp at hj; subst hj; exact (cell_of_row _ _ _ _ _ _ hb).trans rfl
  · simp at hj; subst hj; exact (cell_of_row _ _ _ _ _ _ hb).trans rfl
  · simp at hj; subst hj; exact (cell_of_row _ _ _ _ _ _ hb).trans rfl
  · simp at hj
def BeginPost (w : World) (M : Ma) (e : Ending) (w' : World) : Prop := Below w.heap.size w w' ∧
  ((rightOf M = false ∧ e = .returned (.tuple #[.pointer none, .int .i64 70])) ∨ (rightOf M = true ∧ ∃ Wb g r, e = .returned (.tuple #[.pointer (some ⟨Wb, 0, none⟩), .int .i64 0]) ∧ Mom M [] g r ∧ WkAt w.heap.size w' Wb M M.rs.length g r false))
set_option maxRecDepth 8000 in
set_option maxHeartbeats 8000000 in
theorem begin_any (M : Ma) (x : Nf) (w : World) (hx : MaAt (fun _ => True) w M x) (he : M.es.length ≤ 2513169434900) (hr : M.rs.length ≤ 35184372088832) (h32 : ∀ z ∈ M.rs, z < 4294967296) (hT : Tab w) : Calls Tryz.prog 12 #[x.val] w (BeginPost w M) := by
  have kk : Below w.heap.size w (w.alloc (.cells #[.int .i64 x.S, .slice x.ea x.en x.ec, .slice x.ra x.rn x.rc] 37)) := (Below.refl _ _).alloc (Nat.le_refl _) _
  have HNX : Hid (NFB (w.alloc (.cells #[.int .i64 x.S, .slice x.ea x.en x.ec, .slice x.ra x.rn x.rc] 37)) w.heap.size x) := nfb_new w x
  have HB : Hid (Below w.heap.size w (w.alloc (.cells #[.int .i64 x.S, .slice x.ea x.en x.ec, .slice x.ra x.rn x.rc] 37))) := kk
  have HMX : Hid (MaAt (fun _ => True) (w.alloc (.cells #[.int .i64 x.S, .slice x.ea x.en x.ec, .slice x.ra x.rn x.rc] 37)) M x) := hx.later kk
  obtain ⟨w1, hw1⟩ : ∃ w1, w.alloc (.cells #[.int .i64 x.S, .slice x.ea x.en x.ec, .slice x.ra x.rn x.rc] 37) = w1 := ⟨_, rfl⟩
  rw [hw1] at HNX HB HMX
  obtain ⟨A, hA⟩ : ∃ A, w.heap.size = A := ⟨_, rfl⟩
  rw [hA] at HNX
  have HW1 : Hid (w.alloc (.cells #[.int .i64 x.S, .slice x.ea x.en x.ec, .slice x.ra x.rn x.rc] 37) = w1) := hw1
  have HAA : Hid (w.heap.size = A) := hA
  have HC : Hid (Calls Tryz.prog 25 #[x.val] w1 _) := pright_any M x w1 HMX.out (by omega) hr
  have HT : Hid (Tab w) := hT
  have H32 : Hid (∀ z ∈ M.rs, z < 4294967296) := h32
  clear kk hx hw1 hA hT h32
  obtain ⟨xS, xa, en, xc, xra, xrn, xrc⟩ := x
  unfold Nf.val at HC
  unfold Nf.val
  simp only at HC HW1 ⊢
  obtain ⟨b0, b1, b2⟩ := HNX.out.cells
  simp only at b0 b1 b2
  obtain ⟨ok, hok⟩ : ∃ ok, rightOf M = ok := ⟨_, rfl⟩
  rw [hok] at HC
  have HOK : Hid (rightOf M = ok) := hok
  clear hok
  go_enter Tryz.func12, Tryz.ntmps12
  go_upto_region 1 with fail
  rw [HW1.out, HAA.out]
  clear HW1
  go_wp2_with fail
  refine HC.out.mono ?_
  rintro e w2 ⟨rfl, k2⟩
  have HB2 : Hid (Below w.heap.size w w2) := below_step HB.out k2
  have HMX2 : Hid (MaAt (fun _ => True) w2 M ⟨xS, xa, en, xc, xra, xrn, xrc⟩) := HMX.out.later k2
  have HNX2 : Hid (NFB w2 A ⟨xS, xa, en, xc, xra, xrn, xrc⟩) := HNX.out.later k2
  clear k2 HC HMX HNX HB b0 b1 b2
  cases ok with
  | false =>
    go_wp2
    go_ret2
    exact ⟨HB2.out, Or.inl ⟨HOK.out, rfl⟩⟩
  | true =>
    obtain ⟨b0, b1, b2⟩ := HNX2.out.cells
    simp only at b0 b1 b2
    have hF := fits_of HOK.out H32.out
    obtain ⟨S, hS⟩ : ∃ S, S = M.rs.length := ⟨_, rfl⟩
    rw [← hS] at hF hr
    obtain ⟨q1, q2, q3, q4, q5⟩ := HMX2.out
    simp only at q1 q2 q3 q4 q5
    have hrs : xrn = S := by rw [q3, hS]
    have hSS : xS = (S : Nat) := by rw [q1]; exact hF.2.1
    subst hrs hSS
    have HE4 : Hid (EAt (fun _ => True) w2 xa M.es) := q4
    have HU5 : Hid (UAt (fun _ => True) w2 xra M.rs) := q5
    have HLE : Hid (M.es.length = en) := q2.symm
    have HFI : Hid (Fits M xrn) := hF
    have HSL : Hid (xrn = M.rs.length) := hS
    have hS1 : 1 ≤ xrn := hF.1
    rw [q2.symm] at he
    have HC2 : Hid (w2.cell? ⟨A, 0, none⟩ = some (.int .i64 (xrn : Nat))) := b0
    clear q1 q2 q3 q4 q5 hF hS HMX2
    go_upto_region 3 with fail
    refine regB (A := A) (S := xrn) (M := M) (X := fun _ => True) rfl rfl b1 b2 HLE.out he HE4.out (fun y hy => by have := HFI.out.2.2.2.1 y hy; omega) HSL.out.symm hS1 hr HU5.out ?_
    rintro a1 w3 Wb mb g cap hfr k3 hWb hwk hmb hby hu
    rw [hfr.lit rfl]
    have HWB : Hid (WkB w3 Wb mb (.slice (some ⟨g, 0, none⟩) xrn cap) (.slice none 0 0) 0 false) := hwk
    have HBY : Hid (ByB w2.heap.size w3 mb M.es) := hby
    have HUB : Hid (UB w2.heap.size w3 (some ⟨g, 0, none⟩) M.rs) := hu
    have HB3 : Hid (Below w.heap.size w w3) := below_step HB2.out k3
    have HPL : Hid (w.heap.size ≤ w2.heap.size ∧ w2.heap.size ≤ Wb ∧ w2.heap.size ≤ mb) := ⟨HB2.out.size, hWb, hmb⟩
    have b0' : w3.cell? ⟨A, 0, none⟩ = some (.int .i64 (xrn : Nat)) := (World.cell?_of_block (a := ⟨A, 0, none⟩) (k3.block A (lt_of_cell HC2.out))).trans HC2.out
    clear k3 hWb hwk hmb hby hu b0 b1 b2 HC2 HE4 HU5
    obtain ⟨v8, e8⟩ : ∃ v, v = T a1 8 := ⟨_, rfl⟩
    obtain ⟨v9, e9⟩ : ∃ v, v = T a1 9 := ⟨_, rfl⟩
    obtain ⟨v10, e10⟩ : ∃ v, v = T a1 10 := ⟨_, rfl⟩
    obtain ⟨v11, e11⟩ : ∃ v, v = T a1 11 := ⟨_, rfl⟩
    obtain ⟨v12, e12⟩ : ∃ v, v = T a1 12 := ⟨_, rfl⟩
    obtain ⟨v13, e13⟩ : ∃ v, v = T a1 13 := ⟨_, rfl⟩
    obtain ⟨v14, e14⟩ : ∃ v, v = T a1 14 := ⟨_, rfl⟩
    obtain ⟨v15, e15⟩ : ∃ v, v = T a1 15 := ⟨_, rfl⟩
    rw [← e8, ← e9, ← e10, ← e11, ← e12, ← e13, ← e14, ← e15]
    clear e8 e9 e10 e11 e12 e13 e14 e15 hfr
    simp only [Act.put]
    have HNR : Hid (Calls Tryz.prog 30 #[.int .i64 (xrn : Nat)] w3 _) := newRow_any xrn w3 (by omega)
    go_wp2_with fail
    refine HNR.out.mono ?_
    rintro e w4 ⟨rfl, hr4, k4⟩
    obtain ⟨n, hn⟩ : ∃ n, n = (xrn + 63) / 64 := ⟨_, rfl⟩
    rw [← hn] at hr4
    rw [← hn]
    have HN : Hid (n = (xrn + 63) / 64) := hn
    have hn1 : xrn ≤ 64 * n := by omega
    have hn2 : n ≤ 2513169434900 := by omega
    -- the kinds
    have kk : Below w4.heap.size w4 (w4.alloc (.cells #[.int .i64 1, .int .i64 3] 3)) := (Below.refl _ _).alloc (Nat.le_refl _) _
    have hks := ksAt_two w4 3 1 3
    obtain ⟨w5, hw5⟩ : ∃ w5, w4.alloc (.cells #[.int .i64 1, .int .i64 3] 3) = w5 := ⟨_, rfl⟩
    rw [hw5] at kk hks
    have HW5 : Hid (w4.alloc (.cells #[.int .i64 1, .int .i64 3] 3) = w5) := hw5
    have k35 : Below w3.heap.size w3 w5 := below_step k4 kk
    have hwk5 := HWB.out.same (k35.block Wb HWB.out.lt)
    have hby5 := byB_later HBY.out k35
    have hub5 := uB_later HUB.out k35
    obtain ⟨R, hR⟩ : ∃ R, R = w3.heap.size := ⟨_, rfl⟩
    rw [← hR] at hr4
    have hr5 : RowG w5 R R n n Oct.none := hr4.later kk
    have HRR : Hid (R = w3.heap.size) := hR
    rw [← hR]
    have hRlt : R < w4.heap.size := hr4.lt.1
    have hRne : R ≠ 0 := by have := HT.out.pos; have := HB3.out.size; omega
    have hWne : Wb ≠ 0 := by have := HT.out.pos; have := HPL.out; omega
    have hT5 : Tab w5 := HT.out.later (below_step HB3.out k35)
    obtain ⟨hS1', hMS, hrsl, hed, h32⟩ := HFI.out
    have HEN : Hid (Calls Tryz.prog 29 #[.pointer (some ⟨Wb, 0, none⟩), .slice (some ⟨R, 0, none⟩) n n, .slice (some ⟨w4.heap.size, 0, none⟩) 2 2] w5 _) :=
      enter_any (X := fun k => TyB w5 66 k ∨ TyB w5 44 k) Wb mb R n n R 2 2 xrn cap 0 (some ⟨g, 0, none⟩) (.slice none 0 0) false (some ⟨w4.heap.size, 0, none⟩) [1, 3] M Oct.none w5 HFI.out hn1 hn2 (by rw [HLE.out]; exact he) hwk5 (hby5.keep rfl (fun k h _ => Or.inl h.2) (fun _ _ _ => rfl)) (hub5.keep (fun k h _ => Or.inr h.2) (fun _ _ _ => rfl))
        (fun k h => ⟨fun e => by subst e; rcases h with h | h <;> exact absurd (TyB.ne h hr5.ty) (by decide), fun e => by subst e; rcases h with h | h <;> exact absurd (TyB.ne h hwk5.ty) (by decide)⟩) hr5 hT5 hRne hWne (by decide) rfl (by decide) hks (fun k off e => by cases e; omega) (fun s hs => by simp [Oct.none] at hs)
        (fun g hg => Nat.le_trans (cnt_leS (es := M.es) (fun s hs => rch_cnt (fun t ht => Or.inl (by unfold Oct.ins Oct.none at ht; simpa using ht)) (hg s hs))) (by rw [HLE.out]; omega))
    have HX : Hid (ByB w2.heap.size w5 mb M.es ∧ UB w2.heap.size w5 (some ⟨g, 0, none⟩) M.rs ∧ TyB w5 76 Wb ∧ TyB w5 26 R ∧ R < w5.heap.size ∧ Below w.heap.size w w5 ∧ w.heap.size ≤ R) := ⟨hby5, hub5, hwk5.ty, hr5.ty, hr5.lt.1, below_step HB3.out k35, by rw [hR]; exact HB3.out.size⟩
    clear HNR hr4 k4 kk hks hw5 k35 hwk5 hby5 hub5 hr5 hT5 hn hR hS1' hMS hrsl hed h32 HWB HBY HUB
    go_wp2_with fail
    rw [HW5.out]
    refine HEN.out.mono ?_
    rintro e w6 ⟨rfl, g2, hcl, hwk6, hr6, hf6⟩
    have hmom : Mom M [] g2 (0 ||| rulesG M.rs g2) := by
      rw [Nat.zero_or]
      refine .beg g2 ?_
      rw [kinds_13, ins_none] at hcl
      exact hcl
    obtain ⟨x1, x2, x3, x4, x5, x6, x7⟩ := HX.out
    have HFIN : Hid (WkAt w.heap.size w6 Wb M xrn g2 (0 ||| rulesG M.rs g2) false) := by
      have hne : ∀ k, k < w5.heap.size → (TyB w5 66 k ∨ TyB w5 44 k ∨ ∀ t, ¬ TyB w5 t k) → w6.heap[k]? = w5.heap[k]? := fun k hl h => hf6.block k hl (fun e => by
        subst e
        rcases h with h | h | h
        · exact absurd (TyB.ne h x3) (by decide)
        · exact absurd (TyB.ne h x3) (by decide)
        · exact h _ x3) (fun e => by
        subst e
        rcases h with h | h | h
        · exact absurd (TyB.ne h x4) (by decide)
        · exact absurd (TyB.ne h x4) (by decide)
        · exact h _ x4)
      obtain ⟨p1, p2, p3⟩ := HPL.out
      refine ⟨by omega, mb, _, _, R, n, by rw [← HN.out]; exact hwk6, by omega, ?_, ?_, by rw [← HN.out]; exact hr6.upon x7⟩
      · exact x1.keep (hne mb x1.lt (Or.inr (Or.inr (fun t => x1.no t)))) (fun k h hl => ⟨by have := h.1; omega, h.2.same (hne k hl (Or.inl h.2))⟩) (fun k h hl => hne k hl (Or.inl h.2))
      · exact x2.keep (fun k h hl => ⟨by have := h.1; omega, h.2.same (hne k hl (Or.inr (Or.inl h.2)))⟩) (fun k h hl => hne k hl (Or.inr (Or.inl h.2)))
    have HBF : Hid (Below w.heap.size w w6) := x6.trans (hf6.to (by have := HPL.out; omega) x7 x6.size)
    have HMM : Hid (Mom M [] g2 (0 ||| rulesG M.rs g2)) := hmom
    clear hcl hwk6 hr6 hf6 hmom HX HEN x1 x2 x3 x4 x5 x6 x7
    go_wp2
    go_ret2
    exact ⟨HBF.out, Or.inr ⟨HOK.out, Wb, g2, _, rfl, HMM.out, by rw [← HSL.out]; exact HFIN.out⟩⟩
end Go.Proofs.YtmjnobdlgbojoaaGreatDoor


namespace Go.Proofs.YtmjnobdlgbojoaaGreatDoor
open Go.RowKit
attribute [local go_sem ↓] Go.wp_at_zero Go.wp_at_succ
theorem rules_any {base : Nat} {M : Ma} {S : Nat} {g : Oct.S} {r : Nat} {bg : Bool} (Wb : Nat) (w : World) (h : WkAt base w Wb M S g r bg) : Calls Tryz.prog 15 #[.pointer (some ⟨Wb, 0, none⟩)] w fun e w' => e = .returned (.int .u32 (r : Nat)) ∧ w' = w := by
  obtain ⟨_, mb, ra, rc, b, c, h1, _⟩ := h
  obtain ⟨_, _, _, c3, _⟩ := h1.cells
  clear h1
  go_enter Tryz.func15, Tryz.ntmps15
  go_wp2
  go_ret
  exact ⟨rfl, rfl⟩
set_option maxHeartbeats 2000000 in
theorem states_any {base : Nat} {M : Ma} {S : Nat} {g : Oct.S} {r : Nat} {bg : Bool} (Wb : Nat) (w : World) (h : WkAt base w Wb M S g r bg) (hT : Tab w) (hS : S ≤ 35184372088832) (hlt : ∀ s, g s = true → s < S) (hcnt : (Oct.els g S).length ≤ 17592186044415) : Calls Tryz.prog 14 #[.pointer (some ⟨Wb, 0, none⟩)] w fun e w' => ∃ v, e = .returned v ∧ Stk w' w.heap.size v (Oct.els g S) ∧ Below w.heap.size w w' := by
  obtain ⟨_, mb, ra, rc, b, c, h1, _, _, _, h5⟩ := h
  obtain ⟨_, _, c2, _, _⟩ := h1.cells
  obtain ⟨n, hn⟩ : ∃ n, n = (S + 63) / 64 := ⟨_, rfl⟩
  rw [← hn] at h5 c2
  have kk : Below w.heap.size w (w.alloc (.cells #[.slice (some ⟨b, 0, none⟩) n c] 74)) := (Below.refl _ _).alloc (Nat.le_refl _) _
  have he : Oct.els g (64 * n) = Oct.els g S := els_all hlt (by omega)
  have HC : Hid (Calls Tryz.prog 34 #[.func (.func 56) #[] #[.pointer (some ⟨w.heap.size, 0, none⟩)]] (w.alloc (.cells #[.slice (some ⟨b, 0, none⟩) n c] 74)) _) :=
    collect_any w.heap.size b n c base g _ (Boxed.new w 74 (.slice (some ⟨b, 0, none⟩) n c)).cell (h5.later kk) (hT.later kk) (by omega) (by rw [he]; omega)
  have HON : Hid (Calls Tryz.prog 31 #[.slice (some ⟨b, 0, none⟩) n c] w _) := on_any b n c w
  have HE : Hid (Oct.els g (64 * n) = Oct.els g S) := he
  have HK : Hid (Below w.heap.size w (w.alloc (.cells #[.slice (some ⟨b, 0, none⟩) n c] 74))) := kk
  clear h1 h5 hT hlt hcnt kk he hn
  go_enter Tryz.func14, Tryz.ntmps14
  go_wp2_with fail
  refine HON.out.mono ?_
  rintro e w1 ⟨rfl, rfl⟩
  clear HON
  go_wp2_with fail
  refine HC.out.mono ?_
  rintro e w1 ⟨V, rfl, hst, hb1⟩
  have H1 : Hid (Stk w1 w.heap.size V (Oct.els g S)) := by
    rw [HE.out] at hst
    exact ownsRow_low hst (by simp)
  have H2 : Hid (Below w.heap.size w w1) := HK.out.trans (hb1.mono (by simp))
  clear hst hb1 HC
  go_wp2
  go_ret
  exact ⟨V, rfl, H1.out, H2.out⟩
set_option maxRecDepth 8000 in
set_option maxHeartbeats 8000000 in
theorem end_any {base : Nat} {M : Ma} {S : Nat} {g : Oct.S} {r : Nat} {bg : Bool} (Wb : Nat) (w : World) (h : WkAt base w Wb M S g r bg) (hM : Fits M S) (hT : Tab w) (hS : S ≤ 35184372088832) (hel : M.es.length ≤ 2513169434900) (hr : r < 4294967296) (hlt : ∀ s, g s = true → s < S) (hcnt : ∀ s, g s = true → s = 0 ∨ ∃ y ∈ M.es, y.t.toNat = s) : Calls Tryz.prog 16 #[.pointer (some ⟨Wb, 0, none⟩)] w fun e w' => ∃ x, e = .returned (.int .u32 (x : Nat)) ∧ EndOf M (!bg) g r x ∧ Below w.heap.size w w' := by
  obtain ⟨hb, mb, ra, rc, b, c, h1, h2, h3, h4, h5⟩ := h
  obtain ⟨c0, c1, c2, c3, c4⟩ := h1.cells
  obtain ⟨n, hn⟩ : ∃ n, n = (S + 63) / 64 := ⟨_, rfl⟩
  rw [← hn] at h1 h5 c2
  have hn1 : S ≤ 64 * n := by omega
  have hn2 : n ≤ 2513169434900 := by omega
  have hn0 : 0 < n := by have := hM.1; omega
  have HCL : Hid (Calls Tryz.prog 35 #[.slice (some ⟨b, 0, none⟩) n c] w _) := cloneRow_any b 0 n c (gws g n) w (gws_length g n) hn0 (fun j u hj => by
    have hjl := (List.getElem?_eq_some_iff.1 hj).1
    rw [gws_length] at hjl
    rw [gws_at g hjl] at hj
    cases hj
    rw [Nat.zero_add]
    exact (h5.cell hjl).1) (fun u hu => by unfold gws at hu; obtain ⟨i, _, rfl⟩ := List.mem_map.1 hu; rfl) (by omega)
  have HT : Hid (Tab w) := hT
  have HWK : Hid (WkB w Wb mb (.slice ra S rc) (.slice (some ⟨b, 0, none⟩) n c) r bg) := h1
  have HBY : Hid (ByB base w mb M.es) := h3
  have HUB : Hid (UB base w ra M.rs) := h4
  have HM : Hid (Fits M S) := hM
  have HLT : Hid (∀ s, g s = true → s < S) := hlt
  have HCN : Hid (∀ s, g s = true → s = 0 ∨ ∃ y ∈ M.es, y.t.toNat = s) := hcnt
  -- spread upon the copy, in whatever world it lies
  have HSPR : Hid (∀ (u : World) (b' cap kb kn : Nat) (ks : List Int), Below w.heap.size w u → w.heap.size ≤ b' → RowG u w.heap.size b' n cap g → ks.length = kn → kn ≤ 1000 → KsAt u (some ⟨kb, 0, none⟩) ks → kb ≠ b' →
      Calls Tryz.prog 36 #[.pointer (some ⟨Wb, 0, none⟩), .slice (some ⟨b', 0, none⟩) n cap, .slice (some ⟨kb, 0, none⟩) kn kn] u fun e w' => e = .returned (.tuple #[]) ∧ ∃ h, IsCl M.es (fun y => hasK ks y.k) g h ∧ RowG w' w.heap.size b' n cap h ∧ u.grownBy w' (some b')) := fun u b' cap kb kn ks hu hb' hr' hkn hk1 hks hkb => by
    have hby := byB_later h3 hu
    have hwk := h1.same (hu.block Wb h1.lt)
    exact spread_any (X := fun k => TyB u 66 k) Wb mb b' n cap w.heap.size kn kn (some ⟨kb, 0, none⟩) ks M.es g u hwk.cells.1 (fun e => by have := h1.lt; omega) (hby.keep rfl (fun k h _ => h.2) (fun _ _ _ => rfl)) (fun k hk e => by subst e; exact absurd (TyB.ne hk hr'.ty) (by decide)) (fun e => by have := h3.lt; omega) hr' (hT.later hu) (by have := hT.pos; omega) hn2 hkn hk1 hks (fun k off e => by cases e; exact hkb) (fun s hs => Nat.lt_of_lt_of_le (hlt s hs) hn1) (fun y hy => by have := hM.2.2.2.1 y hy; omega) hel
      (fun g' hg => Nat.le_trans (cnt_leS (es := M.es) (fun s hs => rch_cnt hcnt (hg s hs))) (by omega))
  have HRUL : Hid (∀ (u : World) (b' cap : Nat) (h : Oct.S), Below w.heap.size w u → RowG u w.heap.size b' n cap h → (∀ s, h s = true → s < S) → Calls Tryz.prog 37 #[.pointer (some ⟨Wb, 0, none⟩), .slice (some ⟨b', 0, none⟩) n cap] u fun e W' => e = .returned (.int .u32 (rulesG M.rs h : Nat)) ∧ Below u.heap.size u W') := fun u b' cap h hu hr' hlt' => by
    have hh := rulesOf_any (X := fun k => base ≤ k ∧ TyB u 44 k) Wb b' n cap w.heap.size S rc ra M.rs h u (h1.same (hu.block Wb h1.lt)).cells.2.1 hM.2.2.1 (uB_later h4 hu) hM.2.2.2.2 hr' (hT.later hu) hn2 hlt'
    rw [els_all hlt' hn1, ← hM.2.2.1] at hh
    exact hh
  have HCELL : Hid (∀ u, Below w.heap.size w u → u.cell? ⟨Wb, 3, none⟩ = some (.int .u32 (r : Nat)) ∧ u.cell? ⟨Wb, 4, none⟩ = some (.bool bg)) := fun u hu => ⟨(h1.same (hu.block Wb h1.lt)).cells.2.2.2.1, (h1.same (hu.block Wb h1.lt)).cells.2.2.2.2⟩
  clear h1 h2 h3 h4 h5 hM hT hlt hcnt hn hb c0 c1
  go_enter Tryz.func16, Tryz.ntmps16
  go_wp2_with fail
  refine HCL.out.mono ?_
  rintro e w1 ⟨b', cap, rfl, hrow, k1⟩
  have HR1 : Hid (RowG w1 w.heap.size b' n cap g) := hrow
  have HB1 : Hid (Below w.heap.size w w1) := k1
  have hb' : w.heap.size ≤ b' ∧ b' < w1.heap.size := ⟨HR1.out.lt.2.1, HR1.out.lt.1⟩
  obtain ⟨d3, d4⟩ := HCELL.out w1 k1
  clear HCL hrow k1 c2 c3 c4
  cases bg with
  | true =>
    have kk : Below w1.heap.size w1 (w1.alloc (.cells #[.int .i64 1, .int .i64 4] 3)) := (Below.refl _ _).alloc (Nat.le_refl _) _
    have hks := ksAt_two w1 3 1 4
    have HB2 : Hid (Below w.heap.size w (w1.alloc (.cells #[.int .i64 1, .int .i64 4] 3))) := below_step HB1.out kk
    have HS : Hid (Calls Tryz.prog 36 #[.pointer (some ⟨Wb, 0, none⟩), .slice (some ⟨b', 0, none⟩) n cap, .slice (some ⟨w1.heap.size, 0, none⟩) 2 2] (w1.alloc (.cells #[.int .i64 1, .int .i64 4] 3)) _) := HSPR.out _ b' cap w1.heap.size 2 [1, 4] HB2.out hb'.1 (HR1.out.later kk) rfl (by decide) hks (by omega)
    clear kk hks HSPR
    go_wp2_with fail
    refine HS.out.mono ?_
    rintro e w2 ⟨rfl, h, hcl, hr2, hg2⟩
    have HB3 : Hid (Below w.heap.size w w2) := HB2.out.grown hg2 HB2.out.size (fun k hk => by cases hk; exact hb'.1)
    have HEN : Hid (EndOf M false g r (r ||| rulesG M.rs h)) := ⟨h, by rw [kinds_14] at hcl; exact hcl, rfl⟩
    have hlt2 : ∀ s, h s = true → s < S := fun s hs => hcl.lt HLT.out (fun y hy => by have := HM.out.2.2.2.1 y hy; omega) hs
    have HRU : Hid (∀ u, Below w2.heap.size w2 u → Calls Tryz.prog 37 #[.pointer (some ⟨Wb, 0, none⟩), .slice (some ⟨b', 0, none⟩) n cap] u fun e W' => e = .returned (.int .u32 (rulesG M.rs h : Nat)) ∧ Below u.heap.size u W') := fun u hu => HRUL.out u b' cap h (below_step HB3.out hu) (hr2.later hu) hlt2
    obtain ⟨d3, d4⟩ := HCELL.out w2 HB3.out
    obtain ⟨ρ, hρ⟩ : ∃ ρ, rulesG M.rs h = ρ := ⟨_, rfl⟩
    have hρl : ρ < 4294967296 := by rw [← hρ]; exact rulesG_lt HM.out.2.2.2.2
    rw [hρ] at HRU HEN
    have HOR : Hid (bits .or .u32 (r : Nat) (ρ : Nat) = ((r ||| ρ : Nat) : Int)) := u32_or_nat r ρ hr hρl
    clear hcl hr2 hg2 hlt2 hρ HS HRUL HR1 HB1 HB2
    go_upto_region 5 with fail
    go_region_with (go_at_call 37; refine (HRU.out _ ((Below.refl _ _).drew)).mono ?_; rintro e u ⟨rfl, hu⟩; have HU : Hid (Below w.heap.size w u) := below_step (HB3.out.trans (((Below.refl _ w2).drew).mono HB3.out.size)) hu; obtain ⟨d5, d6⟩ := HCELL.out u HU.out; clear hu)
    all_goals
      go_wp2
      go_ret
      exact ⟨r ||| ρ, ret_int HOR.out, HEN.out, HU.out⟩
  | false =>
    have kk : Below w1.heap.size w1 (w1.alloc (.cells #[.int .i64 1, .int .i64 4, .int .i64 3] 3)) := (Below.refl _ _).alloc (Nat.le_refl _) _
    have hks := ksAt_three w1 3 1 4 3
    have HB2 : Hid (Below w.heap.size w (w1.alloc (.cells #[.int .i64 1, .int .i64 4, .int .i64 3] 3))) := below_step HB1.out kk
    have HS : Hid (Calls Tryz.prog 36 #[.pointer (some ⟨Wb, 0, none⟩), .slice (some ⟨b', 0, none⟩) n cap, .slice (some ⟨w1.heap.size, 0, none⟩) 3 3] (w1.alloc (.cells #[.int .i64 1, .int .i64 4, .int .i64 3] 3)) _) := HSPR.out _ b' cap w1.heap.size 3 [1, 4, 3] HB2.out hb'.1 (HR1.out.later kk) rfl (by decide) hks (by omega)
    clear kk hks HSPR
    go_wp2_with fail
    refine HS.out.mono ?_
    rintro e w2 ⟨rfl, h, hcl, hr2, hg2⟩
    have HB3 : Hid (Below w.heap.size w w2) := HB2.out.grown hg2 HB2.out.size (fun k hk => by cases hk; exact hb'.1)
    have HEN : Hid (EndOf M true g r (r ||| rulesG M.rs h)) := ⟨h, by rw [kinds_143] at hcl; exact hcl, rfl⟩
    have hlt2 : ∀ s, h s = true → s < S := fun s hs => hcl.lt HLT.out (fun y hy => by have := HM.out.2.2.2.1 y hy; omega) hs
    have HRU : Hid (∀ u, Below w2.heap.size w2 u → Calls Tryz.prog 37 #[.pointer (some ⟨Wb, 0, none⟩), .slice (some ⟨b', 0, none⟩) n cap] u fun e W' => e = .returned (.int .u32 (rulesG M.rs h : Nat)) ∧ Below u.heap.size u W') := fun u hu => HRUL.out u b' cap h (below_step HB3.out hu) (hr2.later hu) hlt2
    obtain ⟨d3, d4⟩ := HCELL.out w2 HB3.out
    obtain ⟨ρ, hρ⟩ : ∃ ρ, rulesG M.rs h = ρ := ⟨_, rfl⟩
    have hρl : ρ < 4294967296 := by rw [← hρ]; exact rulesG_lt HM.out.2.2.2.2
    rw [hρ] at HRU HEN
    have HOR : Hid (bits .or .u32 (r : Nat) (ρ : Nat) = ((r ||| ρ : Nat) : Int)) := u32_or_nat r ρ hr hρl
    clear hcl hr2 hg2 hlt2 hρ HS HRUL HR1 HB1 HB2
    go_upto_region 5 with fail
    go_region_with (go_at_call 37; refine (HRU.out _ ((Below.refl _ _).drew)).mono ?_; rintro e u ⟨rfl, hu⟩; have HU : Hid (Below w.heap.size w u) := below_step (HB3.out.trans (((Below.refl _ w2).drew).mono HB3.out.size)) hu; obtain ⟨d5, d6⟩ := HCELL.out u HU.out; clear hu)
    all_goals
      go_wp2
      go_ret
      exact ⟨r ||| ρ, ret_int HOR.out, HEN.out, HU.out⟩
end Go.Proofs.YtmjnobdlgbojoaaGreatDoor
