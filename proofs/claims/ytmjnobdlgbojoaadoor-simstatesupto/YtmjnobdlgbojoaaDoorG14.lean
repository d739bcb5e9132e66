/- SimStates' drawn regions that write. -/
import Derived.Test.YtmjnobdlgbojoaaDoorG12
namespace Go.Proofs.YtmjnobdlgbojoaaDoor
open Go.RowKit
attribute [local go_sem ↓] Go.wp_at_zero Go.wp_at_succ

section
variable {o : Oper} {a : Act} {w w' : World} {r : Value → World → Prop} {Q : Exit → Act → World → Prop}
attribute [local go_sem] Oper.semAt_some
set_option maxRecDepth 10000 in
theorem sx_move {p : Nat} {v : Value} (ho : o.op = .move (.tmp p)) (hx : T a p = v) (hr : r (v) (w)) : o.wp Tryd.prog a w (Leaves r o a w) Q := by
  obtain ⟨dst, op, type, pos, after, guard⟩ := o
  simp only at ho
  subst ho
  refine sx_value (v := v) (w' := w) ?_ (Below.refl _ _) hr
  simp [execOp, Act.eval, hx, go_sem]
set_option maxRecDepth 10000 in
theorem sx_states {p B : Nat} (ho : o.op = .fieldAddr 25 (.tmp p) 0) (hx : T a p = .pointer (some ⟨B, 0, none⟩)) (hr : r (.pointer (some ⟨B, 0, none⟩)) (w)) : o.wp Tryd.prog a w (Leaves r o a w) Q := by
  obtain ⟨dst, op, type, pos, after, guard⟩ := o
  simp only at ho
  subst ho
  refine sx_value (v := .pointer (some ⟨B, 0, none⟩)) (w' := w) ?_ (Below.refl _ _) hr
  simp [execOp, Act.eval, hx, go_sem]
set_option maxRecDepth 10000 in
theorem sx_load3 {p : Nat} {ad : Addr} {v : Int} (ho : o.op = .load 3 (.tmp p)) (hx : T a p = .pointer (some ad)) (hc : w.cell? ad = some (.int .i64 v)) (hr : r (.int .i64 v) (w)) : o.wp Tryd.prog a w (Leaves r o a w) Q := by
  obtain ⟨dst, op, type, pos, after, guard⟩ := o
  simp only at ho
  subst ho
  refine sx_value (v := .int .i64 v) (w' := w) ?_ (Below.refl _ _) hr
  simp [execOp, Act.eval, hx, go_sem, hc]
set_option maxRecDepth 10000 in
theorem sx_load28 {p : Nat} {ad : Addr} {v : Int} (ho : o.op = .load 28 (.tmp p)) (hx : T a p = .pointer (some ad)) (hc : w.cell? ad = some (.int .u32 v)) (hr : r (.int .u32 v) (w)) : o.wp Tryd.prog a w (Leaves r o a w) Q := by
  obtain ⟨dst, op, type, pos, after, guard⟩ := o
  simp only at ho
  subst ho
  refine sx_value (v := .int .u32 v) (w' := w) ?_ (Below.refl _ _) hr
  simp [execOp, Act.eval, hx, go_sem, hc]
set_option maxRecDepth 10000 in
theorem sx_buildN {p q : Nat} {S : Int} {x : Option Addr} {n c : Nat} (ho : o.op = .build 25 #[(0, .tmp p), (2, .tmp q)]) (hx : T a p = .int .i64 S) (hy : T a q = .slice x n c) (hr : r (.agg #[.int .i64 S, .slice none 0 0, .slice x n c]) (w)) : o.wp Tryd.prog a w (Leaves r o a w) Q := by
  obtain ⟨dst, op, type, pos, after, guard⟩ := o
  simp only at ho
  subst ho
  refine sx_value (v := .agg #[.int .i64 S, .slice none 0 0, .slice x n c]) (w' := w) ?_ (Below.refl _ _) hr
  simp [execOp, Act.eval, hx, hy, go_sem]
set_option maxRecDepth 10000 in
theorem sx_allocN  (ho : o.op = .alloc 25)  (hr : r (.pointer (some ⟨w.heap.size, 0, none⟩)) (w.alloc (.cells #[.int .i64 0, .slice none 0 0, .slice none 0 0] 25))) : o.wp Tryd.prog a w (Leaves r o a w) Q := by
  obtain ⟨dst, op, type, pos, after, guard⟩ := o
  simp only at ho
  subst ho
  refine sx_value (v := .pointer (some ⟨w.heap.size, 0, none⟩)) (w' := w.alloc (.cells #[.int .i64 0, .slice none 0 0, .slice none 0 0] 25)) ?_ ((Below.refl _ _).alloc (Nat.le_refl _) _) hr
  simp [execOp, go_sem]
set_option maxRecDepth 10000 in
theorem sx_allocE  (ho : o.op = .alloc 34)  (hr : r (.pointer (some ⟨w.heap.size, 0, none⟩)) (w.alloc (.cells #[.int .i64 0, .int .i64 0, .int .i64 0, .int .u64 0, .int .u64 0, .int .u64 0, .int .u64 0] 34))) : o.wp Tryd.prog a w (Leaves r o a w) Q := by
  obtain ⟨dst, op, type, pos, after, guard⟩ := o
  simp only at ho
  subst ho
  refine sx_value (v := .pointer (some ⟨w.heap.size, 0, none⟩)) (w' := w.alloc (.cells #[.int .i64 0, .int .i64 0, .int .i64 0, .int .u64 0, .int .u64 0, .int .u64 0, .int .u64 0] 34)) ?_ ((Below.refl _ _).alloc (Nat.le_refl _) _) hr
  simp [execOp, go_sem]
set_option maxRecDepth 10000 in
theorem sx_idxU {p q n c k b off : Nat} (ho : o.op = .indexAddr 23 (.tmp p) (.tmp q)) (hx : T a p = .slice (some ⟨b, off, none⟩) n c) (hy : T a q = .int .i64 (k : Nat)) (hk : (k : Int) < (n : Int)) (hr : r (.pointer (some ⟨b, off + k, none⟩)) (w)) : o.wp Tryd.prog a w (Leaves r o a w) Q := by
  obtain ⟨dst, op, type, pos, after, guard⟩ := o
  simp only at ho
  subst ho
  refine sx_value (v := .pointer (some ⟨b, off + k, none⟩)) (w' := w) ?_ (Below.refl _ _) hr
  simp [execOp, Act.eval, hx, hy, go_sem, hk]
set_option maxRecDepth 10000 in
theorem sx_idxE {p q n c k b off : Nat} (ho : o.op = .indexAddr 22 (.tmp p) (.tmp q)) (hx : T a p = .slice (some ⟨b, off, none⟩) n c) (hy : T a q = .int .i64 (k : Nat)) (hk : (k : Int) < (n : Int)) (hr : r (.pointer (some ⟨b, off + k * 7, none⟩)) (w)) : o.wp Tryd.prog a w (Leaves r o a w) Q := by
  obtain ⟨dst, op, type, pos, after, guard⟩ := o
  simp only at ho
  subst ho
  refine sx_value (v := .pointer (some ⟨b, off + k * 7, none⟩)) (w' := w) ?_ (Below.refl _ _) hr
  simp [execOp, Act.eval, hx, hy, go_sem, hk]
set_option maxRecDepth 10000 in
theorem sx_lenE {p n c : Nat} {x : Option Addr} (ho : o.op = .call { callee := .builtin .len, args := #[.tmp p], argTypes := #[22] }) (hx : T a p = .slice x n c) (hr : r (.int .i64 (n : Nat)) (w)) : o.wp Tryd.prog a w (Leaves r o a w) Q := by
  obtain ⟨dst, op, type, pos, after, guard⟩ := o
  simp only at ho
  subst ho
  refine sx_value (v := .int .i64 (n : Nat)) (w' := w) ?_ (Below.refl _ _) hr
  simp [Act.eval, hx, go_sem]
theorem sx_make {p q n : Nat} (ho : o.op = .makeSlice 23 (.tmp p) (.tmp q)) (hx : T a p = .int .i64 (n : Nat)) (hy : T a q = .int .i64 (n : Nat)) (hn : n ≤ 400) (hr : ∀ w', RowU w' w.heap.size (.slice (some ⟨w.heap.size, 0, none⟩) n n) (List.replicate n 0) → r (.slice (some ⟨w.heap.size, 0, none⟩) n n) w') : o.wp Tryd.prog a w (Leaves r o a w) Q := by
  obtain ⟨dst, op, type, pos, after, guard⟩ := o
  simp only at ho
  subst ho
  obtain ⟨i0, hi, hz0, hz1, hz2⟩ := info_parts infoU
  obtain ⟨w', hrun, r1, r2⟩ := run_make_full (P := Tryd.prog) w w.heap.size 23 28 i0 (.int .u32 0) 1 Tryd.underlying23 hi hz0 hz1 .i64 .i64 n (by rw [hz2]; omega) (by simp only [maxLen]; omega) (Nat.le_refl _)
  rw [madeCells_u32] at r1
  refine sx_value (v := .slice (some ⟨w.heap.size, 0, none⟩) n n) (w' := w') ?_ ((Below.refl _ _).grown r2 (Nat.le_refl _) (fun k hk => by cases hk)) (hr w' (by unfold RowU; rw [List.length_replicate]; exact r1))
  have hx2 : a.tmps[p]?.getD undef = .int .i64 (n : Nat) := hx
  have hy2 : a.tmps[q]?.getD undef = .int .i64 (n : Nat) := hy
  simp [execOp, Act.eval, hx2, hy2, hrun, Result.andThen]
theorem sx_mir {p q i S : Nat} {ts : Array TypeId} (ho : o.op = .call { callee := .value (.func 7), args := #[.tmp p, .tmp q], argTypes := ts }) (hx : T a p = .int .i64 (i : Nat)) (hy : T a q = .int .i64 (S : Nat)) (hi : i ≤ S) (hS : S ≤ 400) (hr : r (.int .i64 (mi S i : Nat)) w) : o.wp Tryd.prog a w (Leaves r o a w) Q := by
  obtain ⟨dst, op, type, pos, after, guard⟩ := o
  simp only at ho
  subst ho
  refine sx_enter (f := 7) (args := #[.int .i64 (i : Nat), .int .i64 (S : Nat)]) ?_ ((mirror_any S i w hi hS).mono ?_)
  · have hx2 : a.tmps[p]?.getD undef = .int .i64 (i : Nat) := hx
    have hy2 : a.tmps[q]?.getD undef = .int .i64 (S : Nat) := hy
    simp [Act.eval, hx2, hy2, go_sem]
  · rintro e w2 ⟨rfl, rfl⟩
    exact ⟨_, rfl, Below.refl _ _, hr⟩
end
def Fr7 (act a : Act) : Prop := a.tmps.size = 230 ∧ a.defers = act.defers ∧ ∀ k, k ∉ ([34, 35, 36, 37, 38, 39, 5] : List Nat) → a.tmps[k]? = act.tmps[k]?
theorem Fr7.put {act a : Act} (h : Fr7 act a) {k : Nat} (hd : k ∈ ([34, 35, 36, 37, 38, 39, 5] : List Nat)) (v : Value) : Fr7 act (a.put (some k) v) := by
  obtain ⟨h1, h2, h3⟩ := h
  refine ⟨by simp [Act.put, h1], by simp [Act.put, h2], fun j hj => ?_⟩
  simp only [Act.put]
  rw [Array.getElem?_setIfInBounds_ne (fun e => hj (by rw [← e]; exact hd))]
  exact h3 j hj
theorem Fr7.nop {act a : Act} (h : Fr7 act a) (v : Value) : Fr7 act (a.put none v) := by
  obtain ⟨h1, h2, h3⟩ := h
  exact ⟨h1, h2, h3⟩
theorem Fr7.slot {act a : Act} (h : Fr7 act a) {k : Nat} (hk : k ∉ ([34, 35, 36, 37, 38, 39, 5] : List Nat)) : T a k = T act k := by unfold T; rw [h.2.2 k hk]
theorem Fr7.lit {act a : Act} (h : Fr7 act a) (hs : act.tmps.size = 230) : a = (((((((act.put (some 34) (T a 34)).put (some 35) (T a 35)).put (some 36) (T a 36)).put (some 37) (T a 37)).put (some 38) (T a 38)).put (some 39) (T a 39)).put (some 5) (T a 5)) := by
  obtain ⟨h1, h2, h3⟩ := h
  obtain ⟨tmps, defers⟩ := a
  simp only at h1 h2 h3
  simp only [Act.put, Act.mk.injEq]
  refine ⟨?_, h2⟩
  apply Array.ext_getElem?
  intro k
  have hT : ∀ j, j < 230 → tmps[j]? = some (T ⟨tmps, defers⟩ j) := fun j hj => by
    have : j < tmps.size := by omega
    simp [T, this]
  by_cases hk : k ∈ ([34, 35, 36, 37, 38, 39, 5] : List Nat)
  · simp only [List.mem_cons, List.not_mem_nil, or_false] at hk
    rcases hk with rfl | rfl | rfl | rfl | rfl | rfl | rfl <;> rw [hT _ (by decide)] <;> simp [hs]
  · rw [h3 k hk]
    simp only [List.mem_cons, List.not_mem_nil, or_false, not_or] at hk
    rw [Array.getElem?_setIfInBounds_ne (by omega), Array.getElem?_setIfInBounds_ne (by omega), Array.getElem?_setIfInBounds_ne (by omega), Array.getElem?_setIfInBounds_ne (by omega), Array.getElem?_setIfInBounds_ne (by omega), Array.getElem?_setIfInBounds_ne (by omega), Array.getElem?_setIfInBounds_ne (by omega)]
def R7 (base A S : Nat) : Nat → Value → World → Prop
  | 0, v, _ => v = .pointer (some ⟨A, 0, none⟩)
  | 1, v, _ => v = .int .i64 (S : Nat)
  | 2, v, _ => v = .pointer (some ⟨A, 0, none⟩)
  | 3, v, _ => v = .int .i64 (S : Nat)
  | 4, v, u => ∃ R, v = .slice (some ⟨R, 0, none⟩) S S ∧ RowU u base v (List.replicate S 0)
  | 5, v, u => ∃ R, v = .agg #[.int .i64 (S : Nat), .slice none 0 0, .slice (some ⟨R, 0, none⟩) S S] ∧ RowU u base (.slice (some ⟨R, 0, none⟩) S S) (List.replicate S 0)
  | 6, v, u => ∃ Z, v = .pointer (some ⟨Z, 0, none⟩) ∧ base ≤ Z ∧ NFB u Z ⟨0, none, 0, 0, none, 0, 0⟩
  | _, _, _ => True
theorem RowU.lo {w : World} {base base' : Nat} {V : Value} {rs : List Nat} (h : RowU w base V rs) (hb : base' ≤ base) : RowU w base' V rs := ownsRow_low h hb
set_option maxRecDepth 100000 in
set_option maxHeartbeats 1000000 in
theorem st7 {act : Act} {W : World} {A S : Nat} {Q : Exit → Act → World → Prop} (hT2 : T act 2 = .pointer (some ⟨A, 0, none⟩)) (hsz : act.tmps.size = 230) (hA : W.cell? ⟨A, 0, none⟩ = some (.int .i64 (S : Nat))) (hS : S ≤ 400)
    (K : ∀ a' W' Z R, Fr7 act a' → T a' 5 = .pointer (some ⟨Z, 0, none⟩) → Below W.heap.size W W' → W.heap.size ≤ Z → NFB W' Z ⟨(S : Nat), none, 0, 0, some ⟨R, 0, none⟩, S, S⟩ → RowU W' W.heap.size (.slice (some ⟨R, 0, none⟩) S S) (List.replicate S 0) → Q .normal a' W') : (Code.region 7 (opsOf Tryd.f3 7) true).wp Tryd.prog Q act W := by
  refine wp_region_last (by kernel_rfl) 7 (by kernel_rfl) (fun i => if i = 0 then 34 else if i = 1 then 35 else if i = 2 then 36 else if i = 3 then 37 else if i = 4 then 38 else if i = 5 then 39 else if i = 6 then 5 else 0) (R7 W.heap.size A S) (Fr7 act) ?up ?f0 ?sz ?inj (by kernel_rfl) ?duty ⟨hsz, rfl, fun _ _ => rfl⟩
  case up =>
    intro i v w w' h hb
    match i, h with
    | 0, h => exact h
    | 1, h => exact h
    | 2, h => exact h
    | 3, h => exact h
    | 4, ⟨R, h1, h2⟩ => exact ⟨R, h1, h2.later hb⟩
    | 5, ⟨R, h1, h2⟩ => exact ⟨R, h1, h2.later hb⟩
    | 6, ⟨Z, h1, h2, h3⟩ => exact ⟨Z, h1, h2, h3.later hb⟩
    | _ + 7, _ => trivial
  case f0 =>
    intro a i v hi h
    refine h.put ?_ v
    match i, hi with
    | 0, _ => exact by decide
    | 1, _ => exact by decide
    | 2, _ => exact by decide
    | 3, _ => exact by decide
    | 4, _ => exact by decide
    | 5, _ => exact by decide
    | 6, _ => exact by decide
    | _ + 7, h => exact absurd h (by omega)
  case sz =>
    intro a i hi h
    rw [h.1]
    match i, hi with
    | 0, _ => exact by decide
    | 1, _ => exact by decide
    | 2, _ => exact by decide
    | 3, _ => exact by decide
    | 4, _ => exact by decide
    | 5, _ => exact by decide
    | 6, _ => exact by decide
    | _ + 7, h => exact absurd h (by omega)
  case inj =>
    intro i j hi hj h
    have hh : ∀ i j : Fin 7, (fun i => if i = 0 then 34 else if i = 1 then 35 else if i = 2 then 36 else if i = 3 then 37 else if i = 4 then 38 else if i = 5 then 39 else if i = 6 then 5 else 0) i.val = (fun i => if i = 0 then 34 else if i = 1 then 35 else if i = 2 then 36 else if i = 3 then 37 else if i = 4 then 38 else if i = 5 then 39 else if i = 6 then 5 else 0) j.val → i = j := by decide
    have := hh ⟨i, hi⟩ ⟨j, hj⟩ h
    exact congrArg Fin.val this
  case duty =>
    refine ⟨⟨fun _ => ⟨rfl, sx_duty rfl (by simp) rfl fun a u hF hB hE Q => ?s0⟩, fun h => absurd h (by decide)⟩, ⟨fun _ => ⟨rfl, sx_duty rfl (by simp) rfl fun a u hF hB hE Q => ?s1⟩, fun h => absurd h (by decide)⟩, ⟨fun _ => ⟨rfl, sx_duty rfl (by simp) rfl fun a u hF hB hE Q => ?s2⟩, fun h => absurd h (by decide)⟩, ⟨fun _ => ⟨rfl, sx_duty rfl (by simp) rfl fun a u hF hB hE Q => ?s3⟩, fun h => absurd h (by decide)⟩, ⟨fun _ => ⟨rfl, sx_duty rfl (by simp) rfl fun a u hF hB hE Q => ?s4⟩, fun h => absurd h (by decide)⟩, ⟨fun _ => ⟨rfl, sx_duty rfl (by simp) rfl fun a u hF hB hE Q => ?s5⟩, fun h => absurd h (by decide)⟩, ⟨fun _ => ⟨rfl, sx_duty rfl (by simp) rfl fun a u hF hB hE Q => ?s6⟩, fun h => absurd h (by decide)⟩, ⟨fun h => absurd h (by decide), fun _ => ⟨rfl, by simp, fun a u hF hB hR => ?last⟩⟩, trivial⟩
    case s0 => exact sx_states rfl (by rw [hF.slot (by decide)]; exact hT2) rfl
    case s1 => exact sx_load3 rfl (hE ⟨0, .data⟩ (by simp) rfl) ((hB.cell (p := ⟨A, 0, none⟩) (lt_of_cell hA)).trans hA) rfl
    case s2 => exact sx_states rfl (by rw [hF.slot (by decide)]; exact hT2) rfl
    case s3 => exact sx_load3 rfl (hE ⟨2, .data⟩ (by simp) rfl) ((hB.cell (p := ⟨A, 0, none⟩) (lt_of_cell hA)).trans hA) rfl
    case s4 => exact sx_make rfl (hE ⟨3, .data⟩ (by simp) rfl) (hE ⟨3, .data⟩ (by simp) rfl) hS (fun w' h => ⟨_, rfl, h.lo hB.size⟩)
    case s5 =>
      obtain ⟨R, h1, h2⟩ := hE ⟨4, .data⟩ (by simp) rfl
      rw [h1] at h2
      exact sx_buildN rfl (hE ⟨1, .data⟩ (by simp) rfl) h1 ⟨R, rfl, h2⟩
    case s6 => exact sx_allocN rfl ⟨_, rfl, hB.size, nfb_new u ⟨0, none, 0, 0, none, 0, 0⟩⟩
    case last =>
      obtain ⟨R, h1, h2⟩ := hR 5 (by decide)
      obtain ⟨Z, h3, h4, h5⟩ := hR 6 (by decide)
      have h1 : T a 39 = .agg #[.int .i64 (S : Nat), .slice none 0 0, .slice (some ⟨R, 0, none⟩) S S] := h1
      have h3 : T a 5 = .pointer (some ⟨Z, 0, none⟩) := h3
      obtain ⟨c0, c1, c2⟩ := h5.cells
      have f0 := h5.frozen 0
      have f1 := h5.frozen 1
      have f2 := h5.frozen 2
      refine oc_skip (w' := put3 u Z ⟨(S : Nat), none, 0, 0, some ⟨R, 0, none⟩, S, S⟩) ?_ ?_
      · unfold T at h1 h3
        simp only at c0 c1 c2
        simp [execOp, Act.eval, h1, h3, go_sem, c0, c1, c2, f0, f1, f2, put3]
      · exact K _ _ Z R (hF.nop _) h3 (below_put3 hB h4 _) h4 (h5.put3 _) (h2.keep (fun k _ _ ht => heap_put3 u Z _ k (fun e => by subst e; exact absurd (TyB.ne ht h5.ty) (by decide))))
def Fr11 (act a : Act) : Prop := a.tmps.size = 230 ∧ a.defers = act.defers ∧ ∀ k, k ∉ ([46, 47, 48, 49, 50, 51, 52, 53, 54, 55, 56, 57] : List Nat) → a.tmps[k]? = act.tmps[k]?
theorem Fr11.put {act a : Act} (h : Fr11 act a) {k : Nat} (hd : k ∈ ([46, 47, 48, 49, 50, 51, 52, 53, 54, 55, 56, 57] : List Nat)) (v : Value) : Fr11 act (a.put (some k) v) := by
  obtain ⟨h1, h2, h3⟩ := h
  refine ⟨by simp [Act.put, h1], by simp [Act.put, h2], fun j hj => ?_⟩
  simp only [Act.put]
  rw [Array.getElem?_setIfInBounds_ne (fun e => hj (by rw [← e]; exact hd))]
  exact h3 j hj
theorem Fr11.nop {act a : Act} (h : Fr11 act a) (v : Value) : Fr11 act (a.put none v) := by
  obtain ⟨h1, h2, h3⟩ := h
  exact ⟨h1, h2, h3⟩
theorem Fr11.slot {act a : Act} (h : Fr11 act a) {k : Nat} (hk : k ∉ ([46, 47, 48, 49, 50, 51, 52, 53, 54, 55, 56, 57] : List Nat)) : T a k = T act k := by unfold T; rw [h.2.2 k hk]
theorem Fr11.lit {act a : Act} (h : Fr11 act a) (hs : act.tmps.size = 230) : a = ((((((((((((act.put (some 46) (T a 46)).put (some 47) (T a 47)).put (some 48) (T a 48)).put (some 49) (T a 49)).put (some 50) (T a 50)).put (some 51) (T a 51)).put (some 52) (T a 52)).put (some 53) (T a 53)).put (some 54) (T a 54)).put (some 55) (T a 55)).put (some 56) (T a 56)).put (some 57) (T a 57)) := by
  obtain ⟨h1, h2, h3⟩ := h
  obtain ⟨tmps, defers⟩ := a
  simp only at h1 h2 h3
  simp only [Act.put, Act.mk.injEq]
  refine ⟨?_, h2⟩
  apply Array.ext_getElem?
  intro k
  have hT : ∀ j, j < 230 → tmps[j]? = some (T ⟨tmps, defers⟩ j) := fun j hj => by
    have : j < tmps.size := by omega
    simp [T, this]
  by_cases hk : k ∈ ([46, 47, 48, 49, 50, 51, 52, 53, 54, 55, 56, 57] : List Nat)
  · simp only [List.mem_cons, List.not_mem_nil, or_false] at hk
    rcases hk with rfl | rfl | rfl | rfl | rfl | rfl | rfl | rfl | rfl | rfl | rfl | rfl <;> rw [hT _ (by decide)] <;> simp [hs]
  · rw [h3 k hk]
    simp only [List.mem_cons, List.not_mem_nil, or_false, not_or] at hk
    rw [Array.getElem?_setIfInBounds_ne (by omega), Array.getElem?_setIfInBounds_ne (by omega), Array.getElem?_setIfInBounds_ne (by omega), Array.getElem?_setIfInBounds_ne (by omega), Array.getElem?_setIfInBounds_ne (by omega), Array.getElem?_setIfInBounds_ne (by omega), Array.getElem?_setIfInBounds_ne (by omega), Array.getElem?_setIfInBounds_ne (by omega), Array.getElem?_setIfInBounds_ne (by omega), Array.getElem?_setIfInBounds_ne (by omega), Array.getElem?_setIfInBounds_ne (by omega), Array.getElem?_setIfInBounds_ne (by omega)]
def R11 (A Z R S i x rb off rc : Nat) : Nat → Value → World → Prop
  | 0, v, _ => v = .pointer (some ⟨Z, 2, none⟩)
  | 1, v, _ => v = .slice (some ⟨R, 0, none⟩) S S
  | 2, v, _ => v = .int .i64 (i : Nat)
  | 3, v, _ => v = .pointer (some ⟨A, 0, none⟩)
  | 4, v, _ => v = .int .i64 (S : Nat)
  | 5, v, _ => v = .int .i64 (mi S i : Nat)
  | 6, v, _ => v = .pointer (some ⟨A, 2, none⟩)
  | 7, v, _ => v = .slice (some ⟨rb, off, none⟩) S rc
  | 8, v, _ => v = .int .i64 (i : Nat)
  | 9, v, _ => v = .pointer (some ⟨rb, off + i, none⟩)
  | 10, v, _ => v = .int .u32 (x : Nat)
  | 11, v, _ => v = .pointer (some ⟨R, mi S i, none⟩)
  | _, _, _ => True
set_option maxRecDepth 100000 in
set_option maxHeartbeats 1000000 in
theorem st11 {act : Act} {W : World} {A Z R S i x rb off rc : Nat} {Q : Exit → Act → World → Prop} (hT2 : T act 2 = .pointer (some ⟨A, 0, none⟩)) (hT5 : T act 5 = .pointer (some ⟨Z, 0, none⟩)) (hT6 : T act 6 = .int .i64 (i : Nat)) (hsz : act.tmps.size = 230) (hA : W.cell? ⟨A, 0, none⟩ = some (.int .i64 (S : Nat))) (hA2 : W.cell? ⟨A, 2, none⟩ = some (.slice (some ⟨rb, off, none⟩) S rc)) (hZ2 : W.cell? ⟨Z, 2, none⟩ = some (.slice (some ⟨R, 0, none⟩) S S)) (hx : W.cell? ⟨rb, off + i, none⟩ = some (.int .u32 (x : Nat))) (hi : i < S) (hS : S ≤ 400) (hc : ∃ y, W.cell? ⟨R, mi S i, none⟩ = some (.int .u32 y)) (hf : W.frozen? ⟨R, mi S i, none⟩ = false)
    (K : ∀ a' u, Fr11 act a' → Below W.heap.size W u → Q .normal a' (u.setCell ⟨R, mi S i, none⟩ (.int .u32 (x : Nat)))) : (Code.region 11 (opsOf Tryd.f3 11) true).wp Tryd.prog Q act W := by
  refine wp_region_last (by kernel_rfl) 12 (by kernel_rfl) (fun i => 46 + i) (R11 A Z R S i x rb off rc) (Fr11 act) ?up ?f0 ?sz ?inj (by kernel_rfl) ?duty ⟨hsz, rfl, fun _ _ => rfl⟩
  case up =>
    intro i v w w' h hb
    match i, h with
    | 0, h => exact h
    | 1, h => exact h
    | 2, h => exact h
    | 3, h => exact h
    | 4, h => exact h
    | 5, h => exact h
    | 6, h => exact h
    | 7, h => exact h
    | 8, h => exact h
    | 9, h => exact h
    | 10, h => exact h
    | 11, h => exact h
    | _ + 12, _ => trivial
  case f0 =>
    intro a i v hi h
    refine h.put ?_ v
    match i, hi with
    | 0, _ => exact by decide
    | 1, _ => exact by decide
    | 2, _ => exact by decide
    | 3, _ => exact by decide
    | 4, _ => exact by decide
    | 5, _ => exact by decide
    | 6, _ => exact by decide
    | 7, _ => exact by decide
    | 8, _ => exact by decide
    | 9, _ => exact by decide
    | 10, _ => exact by decide
    | 11, _ => exact by decide
    | _ + 12, h => exact absurd h (by omega)
  case sz =>
    intro a i hi h
    rw [h.1]
    show 46 + i < 230
    omega
  case inj =>
    intro i j _ _ h
    exact Nat.add_left_cancel h
  case duty =>
    refine ⟨⟨fun _ => ⟨rfl, sx_duty rfl (by simp) rfl fun a u hF hB hE Q => ?s0⟩, fun h => absurd h (by decide)⟩, ⟨fun _ => ⟨rfl, sx_duty rfl (by simp) rfl fun a u hF hB hE Q => ?s1⟩, fun h => absurd h (by decide)⟩, ⟨fun _ => ⟨rfl, sx_duty rfl (by simp) rfl fun a u hF hB hE Q => ?s2⟩, fun h => absurd h (by decide)⟩, ⟨fun _ => ⟨rfl, sx_duty rfl (by simp) rfl fun a u hF hB hE Q => ?s3⟩, fun h => absurd h (by decide)⟩, ⟨fun _ => ⟨rfl, sx_duty rfl (by simp) rfl fun a u hF hB hE Q => ?s4⟩, fun h => absurd h (by decide)⟩, ⟨fun _ => ⟨rfl, sx_duty rfl (by simp) rfl fun a u hF hB hE Q => ?s5⟩, fun h => absurd h (by decide)⟩, ⟨fun _ => ⟨rfl, sx_duty rfl (by simp) rfl fun a u hF hB hE Q => ?s6⟩, fun h => absurd h (by decide)⟩, ⟨fun _ => ⟨rfl, sx_duty rfl (by simp) rfl fun a u hF hB hE Q => ?s7⟩, fun h => absurd h (by decide)⟩, ⟨fun _ => ⟨rfl, sx_duty rfl (by simp) rfl fun a u hF hB hE Q => ?s8⟩, fun h => absurd h (by decide)⟩, ⟨fun _ => ⟨rfl, sx_duty rfl (by simp) rfl fun a u hF hB hE Q => ?s9⟩, fun h => absurd h (by decide)⟩, ⟨fun _ => ⟨rfl, sx_duty rfl (by simp) rfl fun a u hF hB hE Q => ?s10⟩, fun h => absurd h (by decide)⟩, ⟨fun _ => ⟨rfl, sx_duty rfl (by simp) rfl fun a u hF hB hE Q => ?s11⟩, fun h => absurd h (by decide)⟩, ⟨fun h => absurd h (by decide), fun _ => ⟨rfl, by simp, fun a u hF hB hR => ?last⟩⟩, trivial⟩
    case s0 => exact sx_rules rfl (by rw [hF.slot (by decide)]; exact hT5) rfl
    case s1 => exact sx_loadU rfl (hE ⟨0, .data⟩ (by simp) rfl) ((hB.cell (p := ⟨Z, 2, none⟩) (lt_of_cell hZ2)).trans hZ2) rfl
    case s2 => exact sx_move rfl (by rw [hF.slot (by decide)]; exact hT6) rfl
    case s3 => exact sx_states rfl (by rw [hF.slot (by decide)]; exact hT2) rfl
    case s4 => exact sx_load3 rfl (hE ⟨3, .data⟩ (by simp) rfl) ((hB.cell (p := ⟨A, 0, none⟩) (lt_of_cell hA)).trans hA) rfl
    case s5 => exact sx_mir rfl (hE ⟨2, .data⟩ (by simp) rfl) (hE ⟨4, .data⟩ (by simp) rfl) (by omega) hS rfl
    case s6 => exact sx_rules rfl (by rw [hF.slot (by decide)]; exact hT2) rfl
    case s7 => exact sx_loadU rfl (hE ⟨6, .data⟩ (by simp) rfl) ((hB.cell (p := ⟨A, 2, none⟩) (lt_of_cell hA2)).trans hA2) rfl
    case s8 => exact sx_move rfl (by rw [hF.slot (by decide)]; exact hT6) rfl
    case s9 => exact sx_idxU rfl (hE ⟨7, .data⟩ (by simp) rfl) (hE ⟨8, .data⟩ (by simp) rfl) (by omega) rfl
    case s10 => exact sx_load28 rfl (hE ⟨9, .data⟩ (by simp) rfl) ((hB.cell (p := ⟨rb, off + i, none⟩) (lt_of_cell hx)).trans hx) rfl
    case s11 => exact sx_idxU rfl (hE ⟨1, .data⟩ (by simp) rfl) (hE ⟨5, .data⟩ (by simp) rfl) (by have := mi_lt hi; omega) (by show _ = _; rw [Nat.zero_add])
    case last =>
      have h1 : T a 56 = .int .u32 (x : Nat) := hR 10 (by decide)
      have h2 : T a 57 = .pointer (some ⟨R, mi S i, none⟩) := hR 11 (by decide)
      obtain ⟨y, hy⟩ := hc
      have c0 := (hB.cell (p := ⟨R, mi S i, none⟩) (lt_of_cell hy)).trans hy
      have f0 := (hB.frozen (p := ⟨R, mi S i, none⟩) (lt_of_cell hy)).trans hf
      refine oc_skip (w' := u.setCell ⟨R, mi S i, none⟩ (.int .u32 (x : Nat))) ?_ (K _ _ (hF.nop _) hB)
      unfold T at h1 h2
      simp [execOp, Act.eval, h1, h2, go_sem, c0, f0]
def Fr15 (act a : Act) : Prop := a.tmps.size = 230 ∧ a.defers = act.defers ∧ ∀ k, k ∉ ([66, 67, 68, 69, 70, 71, 72, 73, 74, 8] : List Nat) → a.tmps[k]? = act.tmps[k]?
theorem Fr15.put {act a : Act} (h : Fr15 act a) {k : Nat} (hd : k ∈ ([66, 67, 68, 69, 70, 71, 72, 73, 74, 8] : List Nat)) (v : Value) : Fr15 act (a.put (some k) v) := by
  obtain ⟨h1, h2, h3⟩ := h
  refine ⟨by simp [Act.put, h1], by simp [Act.put, h2], fun j hj => ?_⟩
  simp only [Act.put]
  rw [Array.getElem?_setIfInBounds_ne (fun e => hj (by rw [← e]; exact hd))]
  exact h3 j hj
theorem Fr15.nop {act a : Act} (h : Fr15 act a) (v : Value) : Fr15 act (a.put none v) := by
  obtain ⟨h1, h2, h3⟩ := h
  exact ⟨h1, h2, h3⟩
theorem Fr15.slot {act a : Act} (h : Fr15 act a) {k : Nat} (hk : k ∉ ([66, 67, 68, 69, 70, 71, 72, 73, 74, 8] : List Nat)) : T a k = T act k := by unfold T; rw [h.2.2 k hk]
theorem Fr15.lit {act a : Act} (h : Fr15 act a) (hs : act.tmps.size = 230) : a = ((((((((((act.put (some 66) (T a 66)).put (some 67) (T a 67)).put (some 68) (T a 68)).put (some 69) (T a 69)).put (some 70) (T a 70)).put (some 71) (T a 71)).put (some 72) (T a 72)).put (some 73) (T a 73)).put (some 74) (T a 74)).put (some 8) (T a 8)) := by
  obtain ⟨h1, h2, h3⟩ := h
  obtain ⟨tmps, defers⟩ := a
  simp only at h1 h2 h3
  simp only [Act.put, Act.mk.injEq]
  refine ⟨?_, h2⟩
  apply Array.ext_getElem?
  intro k
  have hT : ∀ j, j < 230 → tmps[j]? = some (T ⟨tmps, defers⟩ j) := fun j hj => by
    have : j < tmps.size := by omega
    simp [T, this]
  by_cases hk : k ∈ ([66, 67, 68, 69, 70, 71, 72, 73, 74, 8] : List Nat)
  · simp only [List.mem_cons, List.not_mem_nil, or_false] at hk
    rcases hk with rfl | rfl | rfl | rfl | rfl | rfl | rfl | rfl | rfl | rfl <;> rw [hT _ (by decide)] <;> simp [hs]
  · rw [h3 k hk]
    simp only [List.mem_cons, List.not_mem_nil, or_false, not_or] at hk
    rw [Array.getElem?_setIfInBounds_ne (by omega), Array.getElem?_setIfInBounds_ne (by omega), Array.getElem?_setIfInBounds_ne (by omega), Array.getElem?_setIfInBounds_ne (by omega), Array.getElem?_setIfInBounds_ne (by omega), Array.getElem?_setIfInBounds_ne (by omega), Array.getElem?_setIfInBounds_ne (by omega), Array.getElem?_setIfInBounds_ne (by omega), Array.getElem?_setIfInBounds_ne (by omega), Array.getElem?_setIfInBounds_ne (by omega)]
def R15 (base A n c eb off i : Nat) (e : Eg) : Nat → Value → World → Prop
  | 0, v, _ => v = .pointer (some ⟨A, 1, none⟩)
  | 1, v, _ => v = .slice (some ⟨eb, off, none⟩) n c
  | 2, v, _ => v = .int .i64 (i : Nat)
  | 3, v, _ => v = .pointer (some ⟨A, 1, none⟩)
  | 4, v, _ => v = .slice (some ⟨eb, off, none⟩) n c
  | 5, v, _ => v = .int .i64 (n : Nat)
  | 6, v, _ => v = .int .i64 (i % n : Nat)
  | 7, v, _ => v = .pointer (some ⟨eb, off + (i % n) * 7, none⟩)
  | 8, v, _ => v = e.val
  | 9, v, u => ∃ B, v = .pointer (some ⟨B, 0, none⟩) ∧ base ≤ B ∧ u.heap[B]? = some (.cells #[.int .i64 0, .int .i64 0, .int .i64 0, .int .u64 0, .int .u64 0, .int .u64 0, .int .u64 0] 34 (0, 0))
  | _, _, _ => True
section
variable {o : Oper} {a : Act} {w w' : World} {r : Value → World → Prop} {Q : Exit → Act → World → Prop}
attribute [local go_sem] Oper.semAt_some
set_option maxRecDepth 10000 in
theorem sx_rem {p q i n : Nat} (ho : o.op = .binOp .rem 3 (.tmp p) (.tmp q) 3) (hx : T a p = .int .i64 (i : Nat)) (hy : T a q = .int .i64 (n : Nat)) (hn : 0 < n) (hr : r (.int .i64 (i % n : Nat)) (w)) : o.wp Tryd.prog a w (Leaves r o a w) Q := by
  obtain ⟨dst, op, type, pos, after, guard⟩ := o
  simp only at ho
  subst ho
  refine sx_value (v := .int .i64 (i % n : Nat)) (w' := w) ?_ (Below.refl _ _) hr
  have h1 : ¬ n = 0 := by omega
  have h2 : ((i : Int).tmod (n : Int)) = (i : Int) % (n : Int) := Int.tmod_eq_emod_of_nonneg (by omega)
  simp [execOp, Act.eval, hx, hy, go_sem, h1, h2]
set_option maxRecDepth 20000 in
theorem sx_edge {p b off : Nat} {e : Eg} (ho : o.op = .load 34 (.tmp p)) (hx : T a p = .pointer (some ⟨b, off, none⟩)) (c0 : w.cell? ⟨b, off, none⟩ = some (.int .i64 e.k)) (c1 : w.cell? ⟨b, off + 1, none⟩ = some (.int .i64 e.f)) (c2 : w.cell? ⟨b, off + 2, none⟩ = some (.int .i64 e.t)) (c3 : w.cell? ⟨b, off + 3, none⟩ = some (.int .u64 (Oct.word e.s 0 : Nat))) (c4 : w.cell? ⟨b, off + 4, none⟩ = some (.int .u64 (Oct.word e.s 1 : Nat))) (c5 : w.cell? ⟨b, off + 5, none⟩ = some (.int .u64 (Oct.word e.s 2 : Nat))) (c6 : w.cell? ⟨b, off + 6, none⟩ = some (.int .u64 (Oct.word e.s 3 : Nat))) (hr : r e.val w) : o.wp Tryd.prog a w (Leaves r o a w) Q := by
  obtain ⟨dst, op, type, pos, after, guard⟩ := o
  simp only at ho
  subst ho
  refine sx_value (v := e.val) (w' := w) ?_ (Below.refl _ _) hr
  unfold Eg.val
  simp [execOp, Act.eval, hx, go_sem, c0, c1, c2, c3, c4, c5, c6]
end
def put7 (w : World) (B : Nat) (e : Eg) : World := ((((((w.setCell ⟨B, 0, none⟩ (.int .i64 e.k)).setCell ⟨B, 1, none⟩ (.int .i64 e.f)).setCell ⟨B, 2, none⟩ (.int .i64 e.t)).setCell ⟨B, 3, none⟩ (.int .u64 (Oct.word e.s 0 : Nat))).setCell ⟨B, 4, none⟩ (.int .u64 (Oct.word e.s 1 : Nat))).setCell ⟨B, 5, none⟩ (.int .u64 (Oct.word e.s 2 : Nat))).setCell ⟨B, 6, none⟩ (.int .u64 (Oct.word e.s 3 : Nat))
theorem put7_eb {w : World} {B : Nat} {e : Eg} (h : w.heap[B]? = some (.cells #[.int .i64 0, .int .i64 0, .int .i64 0, .int .u64 0, .int .u64 0, .int .u64 0, .int .u64 0] 34 (0, 0))) : EB (put7 w B e) B e := by
  unfold EB put7
  rw [heap_set (heap_set (heap_set (heap_set (heap_set (heap_set (heap_set h _ _) _ _) _ _) _ _) _ _) _ _) _ _]
  simp
theorem below_put7 {w u : World} {b B : Nat} (h : Below b w u) (hB : b ≤ B) (e : Eg) : Below b w (put7 u B e) := ((((((h.setCell (p := ⟨B, 0, none⟩) hB _).setCell (p := ⟨B, 1, none⟩) hB _).setCell (p := ⟨B, 2, none⟩) hB _).setCell (p := ⟨B, 3, none⟩) hB _).setCell (p := ⟨B, 4, none⟩) hB _).setCell (p := ⟨B, 5, none⟩) hB _).setCell (p := ⟨B, 6, none⟩) hB _
set_option maxRecDepth 100000 in
set_option maxHeartbeats 1000000 in
theorem st15 {act : Act} {W : World} {A n c eb off i : Nat} {e : Eg} {Q : Exit → Act → World → Prop} (hT2 : T act 2 = .pointer (some ⟨A, 0, none⟩)) (hT7 : T act 7 = .int .i64 (i : Nat)) (hsz : act.tmps.size = 230) (hA : W.cell? ⟨A, 1, none⟩ = some (.slice (some ⟨eb, off, none⟩) n c)) (hn : 0 < n)
    (hc : W.cell? ⟨eb, off + (i % n) * 7, none⟩ = some (.int .i64 e.k) ∧ W.cell? ⟨eb, off + (i % n) * 7 + 1, none⟩ = some (.int .i64 e.f) ∧ W.cell? ⟨eb, off + (i % n) * 7 + 2, none⟩ = some (.int .i64 e.t) ∧ W.cell? ⟨eb, off + (i % n) * 7 + 3, none⟩ = some (.int .u64 (Oct.word e.s 0 : Nat)) ∧ W.cell? ⟨eb, off + (i % n) * 7 + 4, none⟩ = some (.int .u64 (Oct.word e.s 1 : Nat)) ∧ W.cell? ⟨eb, off + (i % n) * 7 + 5, none⟩ = some (.int .u64 (Oct.word e.s 2 : Nat)) ∧ W.cell? ⟨eb, off + (i % n) * 7 + 6, none⟩ = some (.int .u64 (Oct.word e.s 3 : Nat)))
    (K : ∀ a' W' B, Fr15 act a' → T a' 8 = .pointer (some ⟨B, 0, none⟩) → Below W.heap.size W W' → W.heap.size ≤ B → EB W' B e → Q .normal a' W') : (Code.region 15 (opsOf Tryd.f3 15) true).wp Tryd.prog Q act W := by
  have hmod : i % n < n := Nat.mod_lt _ hn
  refine wp_region_last (by kernel_rfl) 10 (by kernel_rfl) (fun i => if i = 0 then 66 else if i = 1 then 67 else if i = 2 then 68 else if i = 3 then 69 else if i = 4 then 70 else if i = 5 then 71 else if i = 6 then 72 else if i = 7 then 73 else if i = 8 then 74 else if i = 9 then 8 else 0) (R15 W.heap.size A n c eb off i e) (Fr15 act) ?up ?f0 ?sz ?inj (by kernel_rfl) ?duty ⟨hsz, rfl, fun _ _ => rfl⟩
  case up =>
    intro i v w w' h hb
    match i, h with
    | 0, h => exact h
    | 1, h => exact h
    | 2, h => exact h
    | 3, h => exact h
    | 4, h => exact h
    | 5, h => exact h
    | 6, h => exact h
    | 7, h => exact h
    | 8, h => exact h
    | 9, ⟨B, h1, h2, h3⟩ => exact ⟨B, h1, h2, (hb.block B (Array.getElem?_eq_some_iff.1 h3).1).trans h3⟩
    | _ + 10, _ => trivial
  case f0 =>
    intro a i v hi h
    refine h.put ?_ v
    match i, hi with
    | 0, _ => exact by decide
    | 1, _ => exact by decide
    | 2, _ => exact by decide
    | 3, _ => exact by decide
    | 4, _ => exact by decide
    | 5, _ => exact by decide
    | 6, _ => exact by decide
    | 7, _ => exact by decide
    | 8, _ => exact by decide
    | 9, _ => exact by decide
    | _ + 10, h => exact absurd h (by omega)
  case sz =>
    intro a i hi h
    rw [h.1]
    match i, hi with
    | 0, _ => exact by decide
    | 1, _ => exact by decide
    | 2, _ => exact by decide
    | 3, _ => exact by decide
    | 4, _ => exact by decide
    | 5, _ => exact by decide
    | 6, _ => exact by decide
    | 7, _ => exact by decide
    | 8, _ => exact by decide
    | 9, _ => exact by decide
    | _ + 10, h => exact absurd h (by omega)
  case inj =>
    intro i j hi hj h
    have hh : ∀ i j : Fin 10, (fun i => if i = 0 then 66 else if i = 1 then 67 else if i = 2 then 68 else if i = 3 then 69 else if i = 4 then 70 else if i = 5 then 71 else if i = 6 then 72 else if i = 7 then 73 else if i = 8 then 74 else if i = 9 then 8 else 0) i.val = (fun i => if i = 0 then 66 else if i = 1 then 67 else if i = 2 then 68 else if i = 3 then 69 else if i = 4 then 70 else if i = 5 then 71 else if i = 6 then 72 else if i = 7 then 73 else if i = 8 then 74 else if i = 9 then 8 else 0) j.val → i = j := by decide
    have := hh ⟨i, hi⟩ ⟨j, hj⟩ h
    exact congrArg Fin.val this
  case duty =>
    have hcell : ∀ {u : World}, Below W.heap.size W u → ∀ {j : Nat} {v : Value}, W.cell? ⟨eb, j, none⟩ = some v → u.cell? ⟨eb, j, none⟩ = some v := fun {u} hB {j v} h => (hB.cell (p := ⟨eb, j, none⟩) (lt_of_cell h)).trans h
    obtain ⟨c0, c1, c2, c3, c4, c5, c6⟩ := hc
    refine ⟨⟨fun _ => ⟨rfl, sx_duty rfl (by simp) rfl fun a u hF hB hE Q => ?s0⟩, fun h => absurd h (by decide)⟩, ⟨fun _ => ⟨rfl, sx_duty rfl (by simp) rfl fun a u hF hB hE Q => ?s1⟩, fun h => absurd h (by decide)⟩, ⟨fun _ => ⟨rfl, sx_duty rfl (by simp) rfl fun a u hF hB hE Q => ?s2⟩, fun h => absurd h (by decide)⟩, ⟨fun _ => ⟨rfl, sx_duty rfl (by simp) rfl fun a u hF hB hE Q => ?s3⟩, fun h => absurd h (by decide)⟩, ⟨fun _ => ⟨rfl, sx_duty rfl (by simp) rfl fun a u hF hB hE Q => ?s4⟩, fun h => absurd h (by decide)⟩, ⟨fun _ => ⟨rfl, sx_duty rfl (by simp) rfl fun a u hF hB hE Q => ?s5⟩, fun h => absurd h (by decide)⟩, ⟨fun _ => ⟨rfl, sx_duty rfl (by simp) rfl fun a u hF hB hE Q => ?s6⟩, fun h => absurd h (by decide)⟩, ⟨fun _ => ⟨rfl, sx_duty rfl (by simp) rfl fun a u hF hB hE Q => ?s7⟩, fun h => absurd h (by decide)⟩, ⟨fun _ => ⟨rfl, sx_duty rfl (by simp) rfl fun a u hF hB hE Q => ?s8⟩, fun h => absurd h (by decide)⟩, ⟨fun _ => ⟨rfl, sx_duty rfl (by simp) rfl fun a u hF hB hE Q => ?s9⟩, fun h => absurd h (by decide)⟩, ⟨fun h => absurd h (by decide), fun _ => ⟨rfl, by simp, fun a u hF hB hR => ?last⟩⟩, trivial⟩
    case s0 => exact sx_edges rfl (by rw [hF.slot (by decide)]; exact hT2) rfl
    case s1 => exact sx_loadE rfl (hE ⟨0, .data⟩ (by simp) rfl) ((hB.cell (p := ⟨A, 1, none⟩) (lt_of_cell hA)).trans hA) rfl
    case s2 => exact sx_move rfl (by rw [hF.slot (by decide)]; exact hT7) rfl
    case s3 => exact sx_edges rfl (by rw [hF.slot (by decide)]; exact hT2) rfl
    case s4 => exact sx_loadE rfl (hE ⟨3, .data⟩ (by simp) rfl) ((hB.cell (p := ⟨A, 1, none⟩) (lt_of_cell hA)).trans hA) rfl
    case s5 => exact sx_lenE rfl (hE ⟨4, .data⟩ (by simp) rfl) rfl
    case s6 => exact sx_rem rfl (hE ⟨2, .data⟩ (by simp) rfl) (hE ⟨5, .data⟩ (by simp) rfl) hn rfl
    case s7 => exact sx_idxE rfl (hE ⟨1, .data⟩ (by simp) rfl) (hE ⟨6, .data⟩ (by simp) rfl) (by omega) rfl
    case s8 => exact sx_edge rfl (hE ⟨7, .data⟩ (by simp) rfl) (hcell hB c0) (hcell hB c1) (hcell hB c2) (hcell hB c3) (hcell hB c4) (hcell hB c5) (hcell hB c6) rfl
    case s9 => exact sx_allocE rfl ⟨_, rfl, hB.size, heap_alloc_new u _⟩
    case last =>
      have h1 : T a 74 = e.val := hR 8 (by decide)
      obtain ⟨B, h2, h3, h4⟩ := hR 9 (by decide)
      have h2 : T a 8 = .pointer (some ⟨B, 0, none⟩) := h2
      have cc : ∀ j v, (#[.int .i64 0, .int .i64 0, .int .i64 0, .int .u64 0, .int .u64 0, .int .u64 0, .int .u64 0] : Array Value)[j]? = some v → u.cell? ⟨B, j, none⟩ = some v := fun j v hj => (cell_of_row _ _ _ _ _ _ h4).trans hj
      have ff : ∀ j, u.frozen? ⟨B, j, none⟩ = false := fun j => by simp [World.frozen?, h4]
      refine oc_skip (w' := put7 u B e) ?_ (K _ _ B (hF.nop _) h2 (below_put7 hB h3 e) h3 (put7_eb h4))
      unfold Eg.val at h1
      unfold T at h1 h2
      simp [execOp, Act.eval, h1, h2, go_sem, cc 0 _ rfl, cc 1 _ rfl, cc 2 _ rfl, cc 3 _ rfl, cc 4 _ rfl, cc 5 _ rfl, cc 6 _ rfl, ff, put7]
end Go.Proofs.YtmjnobdlgbojoaaDoor
