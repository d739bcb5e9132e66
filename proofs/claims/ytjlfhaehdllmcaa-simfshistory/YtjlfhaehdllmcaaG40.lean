/- SimfsHistory: the region that looks at two files (typed by gen/sfreg21.py). -/
import Derived.Test.YtjlfhaehdllmcaaG39
namespace Go.Proofs.Ytjlfhaehdllmcaa
open Go.RowKit Go.Maps Sf

theorem wanted_not {ops : Array Oper} {o : Oper} {a : Act} {j d : Nat} {b : Bool} (h : o.guard = some (j, b)) (hd : (ops[j]?).bind (·.dst) = some d) (hT : T a d = .bool (!b)) : Region.wanted o (yielded ops a.tmps) = false := by
  unfold Region.wanted
  rw [h]
  simp [yielded, hd, T_lt hT]
theorem duty_not {P : Program} {ops : Array Oper} {w0 : World} {D : Nat → Nat} {R : Nat → Value → World → Prop} {F0 : Act → Prop} {i : Nat} {o : Oper} {j : Nat} {b : Bool} (hd : o.dst = some (D i)) (ha : ∀ e ∈ o.after, e.on < i) (hg : o.guard = some (j, b)) (hj : (ops[j]?).bind (·.dst) = some (D j)) (he : ⟨j, .guard⟩ ∈ o.after) (hR : ∀ v w, R j v w → v = .bool (!b)) (hu : ∀ w, R i undef w) : Duty P ops w0 D R F0 i o :=
  ⟨hd, ha, fun a w hF hB hE => ⟨fun hw => (by rw [wanted_not hg hj (hR _ _ (hE _ he rfl))] at hw; cases hw), fun _ => hu w⟩⟩
theorem wrap_sub1 (hp : Nat) (h : hp ≤ 81) : IntKind.i64.wrap ((hp : Int) - 1) = (hp : Int) - 1 := by simp [IntKind.wrap, IntKind.bits, IntKind.signed]; omega
def Fr21 (act a : Act) : Prop := a.tmps.size = 195 ∧ a.defers = act.defers ∧ ∀ k, (k < 76 ∨ 102 < k) → a.tmps[k]? = act.tmps[k]?
theorem Fr21.put {act a : Act} (h : Fr21 act a) {k : Nat} (hk : 76 ≤ k ∧ k ≤ 102) (v : Value) : Fr21 act (a.put (some k) v) := by
  obtain ⟨h1, h2, h3⟩ := h
  refine ⟨by simp [Act.put, h1], by simp [Act.put, h2], fun j hj => ?_⟩
  simp only [Act.put]
  rw [Array.getElem?_setIfInBounds_ne (by omega)]
  exact h3 j hj
theorem Fr21.slot {act a : Act} (h : Fr21 act a) {k : Nat} (hk : k < 76) {v : Value} (hv : T act k = v) : T a k = v := by unfold T at hv ⊢; rw [h.2.2 k (.inl hk)]; exact hv
/-- the frame with the region's own slots laid anew -/
def laid (t : Array Value) (l : List Value) : Array Value := (t.toList.take 76 ++ (l ++ t.toList.drop 103)).toArray
theorem laid_all {act a : Act} (h : Fr21 act a) (hs : act.tmps.size = 195) (l : List Value) (hl : l.length = 27) (hv : ∀ i v, l[i]? = some v → T a (76 + i) = v) : a = ⟨laid act.tmps l, act.defers⟩ := by
  have hs' : act.tmps.toList.length = 195 := by simpa using hs
  have ht : a.tmps = laid act.tmps l := by
    apply Array.ext_getElem?
    intro j
    unfold laid
    show a.tmps[j]? = (act.tmps.toList.take 76 ++ (l ++ act.tmps.toList.drop 103)).toArray[j]?
    rw [show (act.tmps.toList.take 76 ++ (l ++ act.tmps.toList.drop 103)).toArray[j]? = (act.tmps.toList.take 76 ++ (l ++ act.tmps.toList.drop 103))[j]? from List.getElem?_toArray]
    by_cases h1 : j < 76
    · rw [List.getElem?_append_left (by rw [List.length_take]; omega), List.getElem?_take_of_lt h1, h.2.2 j (.inl h1)]
      simp
    · rw [List.getElem?_append_right (by rw [List.length_take]; omega), List.length_take, show min 76 act.tmps.toList.length = 76 by omega]
      by_cases h2 : j < 103
      · rw [List.getElem?_append_left (by omega)]
        have e := hv (j - 76) l[j - 76] (List.getElem?_eq_getElem (by omega))
        rw [List.getElem?_eq_getElem (by omega), ← e]
        unfold T
        rw [show 76 + (j - 76) = j by omega, Array.getElem?_eq_getElem (by rw [h.1]; omega)]
        rfl
      · rw [List.getElem?_append_right (by omega), List.getElem?_drop, hl, show 103 + (j - 76 - 27) = j by omega, h.2.2 j (.inr (by omega))]
        simp
  cases a
  simp only at ht
  have := h.2.1
  simp only at this
  rw [ht, this]
def R21a (n hp hi A g7 c7 g13 c13 : Nat) (kind : Int) (i1 s1 g1 z1 i2 s2 g2 z2 : Nat) (y1 y2 : ByteArray) : Nat → Value → World → Prop
  | 0, v, _ => v = .int .i64 (n : Nat)
  | 1, v, _ => v = (.int .i64 (hp : Nat))
  | 2, v, _ => v = .bool true
  | 3, v, _ => v = .bool true
  | 4, v, _ => v = .pointer (some ⟨A, 0, none⟩)
  | 5, v, _ => v = .int .i64 kind
  | 6, v, _ => v = .bool true
  | 7, v, _ => v = .bool true
  | 8, v, _ => v = .int .i64 (n : Nat)
  | 9, v, _ => v = (.int .i64 (hp : Nat))
  | 10, v, _ => v = .int .i64 ((hp : Int) - 1)
  | 11, v, _ => v = .bool false
  | 12, v, _ => v = .bool false
  | 13, v, _ => v = .bool true
  | 14, v, _ => v = .bool true
  | 15, v, _ => v = .bool true
  | 16, v, _ => v = .slice (some ⟨g7, 0, none⟩) (hi + 1) c7
  | 17, v, _ => v = .int .i64 (n : Nat)
  | 18, v, _ => v = .pointer (some ⟨g7, n * 5, none⟩)
  | 19, v, _ => v = .agg #[.int .i64 (i1 : Nat), .int .i64 (s1 : Nat), .int .i64 (g1 : Nat), .int .i64 (z1 : Nat), .string y1]
  | 20, v, _ => v = .slice (some ⟨g13, 0, none⟩) (hp + 1) c13
  | 21, v, _ => v = .int .i64 (n : Nat)
  | 22, v, _ => v = .pointer (some ⟨g13, n * 5, none⟩)
  | 23, v, _ => v = .agg #[.int .i64 (i2 : Nat), .int .i64 (s2 : Nat), .int .i64 (g2 : Nat), .int .i64 (z2 : Nat), .string y2]
  | 24, v, _ => v = .bool true
  | 25, v, _ => v = .bool false
  | 26, v, _ => v = .bool false
  | _, _, _ => True
set_option linter.unusedVariables false in
set_option maxRecDepth 100000 in
set_option maxHeartbeats 4000000 in
theorem reg21a (n hp hi A g7 c7 g13 c13 : Nat) (kind : Int) (i1 s1 g1 z1 i2 s2 g2 z2 : Nat) (y1 y2 : ByteArray) {act : Act} {w0 : World} {Q : Exit → Act → World → Prop} {ops : Array Oper} {new : Array Value} (hops : ops = opsOf Try.f3 21) (hsz : act.tmps.size = 195) (q4 : T act 4 = (.int .i64 (hp : Nat))) (q6 : T act 6 = (.pointer (some ⟨A, 0, none⟩))) (q7 : T act 7 = (.slice (some ⟨g7, 0, none⟩) (hi + 1) c7)) (q13 : T act 13 = (.slice (some ⟨g13, 0, none⟩) (hp + 1) c13)) (q14 : T act 14 = (.int .i64 (n : Nat))) (l1 : (n : Int) < (hi : Int) + 1) (l2 : (n : Int) < (hp : Int) + 1) (l3 : (n : Int) < (hp : Int)) (hb : hp ≤ 81) (t0 : (kind == (0 : Int)) = true) (t1 : ((n : Int) == (hp : Int) - 1) = false) (ck : w0.cell? ⟨A, 0, none⟩ = some (.int .i64 kind)) (a0 : w0.cell? ⟨g7, n * 5, none⟩ = some (.int .i64 (i1 : Nat))) (a1 : w0.cell? ⟨g7, n * 5 + 1, none⟩ = some (.int .i64 (s1 : Nat))) (a2 : w0.cell? ⟨g7, n * 5 + 2, none⟩ = some (.int .i64 (g1 : Nat))) (a3 : w0.cell? ⟨g7, n * 5 + 3, none⟩ = some (.int .i64 (z1 : Nat))) (a4 : w0.cell? ⟨g7, n * 5 + 4, none⟩ = some (.string y1)) (b0 : w0.cell? ⟨g13, n * 5, none⟩ = some (.int .i64 (i2 : Nat))) (b1 : w0.cell? ⟨g13, n * 5 + 1, none⟩ = some (.int .i64 (s2 : Nat))) (b2 : w0.cell? ⟨g13, n * 5 + 2, none⟩ = some (.int .i64 (g2 : Nat))) (b3 : w0.cell? ⟨g13, n * 5 + 3, none⟩ = some (.int .i64 (z2 : Nat))) (b4 : w0.cell? ⟨g13, n * 5 + 4, none⟩ = some (.string y2)) (HG : ∀ u, Calls Try.prog 10 #[.agg #[.int .i64 (i1 : Nat), .int .i64 (s1 : Nat), .int .i64 (g1 : Nat), .int .i64 (z1 : Nat), .string y1], .agg #[.int .i64 (i2 : Nat), .int .i64 (s2 : Nat), .int .i64 (g2 : Nat), .int .i64 (z2 : Nat), .string y2]] u fun e u' => e = .returned (.bool true) ∧ Below u.heap.size u u')
    (hnew : laid act.tmps [.int .i64 (n : Nat), (.int .i64 (hp : Nat)), .bool true, .bool true, .pointer (some ⟨A, 0, none⟩), .int .i64 kind, .bool true, .bool true, .int .i64 (n : Nat), (.int .i64 (hp : Nat)), .int .i64 ((hp : Int) - 1), .bool false, .bool false, .bool true, .bool true, .bool true, .slice (some ⟨g7, 0, none⟩) (hi + 1) c7, .int .i64 (n : Nat), .pointer (some ⟨g7, n * 5, none⟩), .agg #[.int .i64 (i1 : Nat), .int .i64 (s1 : Nat), .int .i64 (g1 : Nat), .int .i64 (z1 : Nat), .string y1], .slice (some ⟨g13, 0, none⟩) (hp + 1) c13, .int .i64 (n : Nat), .pointer (some ⟨g13, n * 5, none⟩), .agg #[.int .i64 (i2 : Nat), .int .i64 (s2 : Nat), .int .i64 (g2 : Nat), .int .i64 (z2 : Nat), .string y2], .bool true, .bool false, .bool false] = new) (K : ∀ w', Below w0.heap.size w0 w' → Q .normal ⟨new, act.defers⟩ w') : (Code.region 21 ops true).wp Try.prog Q act w0 := by
  subst hops
  subst hnew
  have hnn : (opsOf Try.f3 21).size = 27 := by kernel_rfl
  refine wp_region_slots (by kernel_rfl) (fun i => 76 + i) (R21a n hp hi A g7 c7 g13 c13 kind i1 s1 g1 z1 i2 s2 g2 z2 y1 y2) (Fr21 act) (fun i v w w' h _ => ?_) (fun _ i v hi h => h.put (by omega) v) (fun _ i hi h => by rw [h.1]; show 76 + i < 195; omega) (fun i j _ _ h => by have h : 76 + i = 76 + j := h; omega) ?_ (fun y w h1 h2 h3 => ?_) ⟨hsz, rfl, fun _ _ => rfl⟩
  · unfold R21a at h ⊢
    split at h <;> exact h
  rotate_left
  · have e := laid_all h1 hsz [.int .i64 (n : Nat), (.int .i64 (hp : Nat)), .bool true, .bool true, .pointer (some ⟨A, 0, none⟩), .int .i64 kind, .bool true, .bool true, .int .i64 (n : Nat), (.int .i64 (hp : Nat)), .int .i64 ((hp : Int) - 1), .bool false, .bool false, .bool true, .bool true, .bool true, .slice (some ⟨g7, 0, none⟩) (hi + 1) c7, .int .i64 (n : Nat), .pointer (some ⟨g7, n * 5, none⟩), .agg #[.int .i64 (i1 : Nat), .int .i64 (s1 : Nat), .int .i64 (g1 : Nat), .int .i64 (z1 : Nat), .string y1], .slice (some ⟨g13, 0, none⟩) (hp + 1) c13, .int .i64 (n : Nat), .pointer (some ⟨g13, n * 5, none⟩), .agg #[.int .i64 (i2 : Nat), .int .i64 (s2 : Nat), .int .i64 (g2 : Nat), .int .i64 (z2 : Nat), .string y2], .bool true, .bool false, .bool false] rfl (fun i v hv => ?_)
    · rw [e]; exact K w h2
    · have hi : i < 27 := (List.getElem?_eq_some_iff.1 hv).1
      have h := h3 i (by omega)
      match i, hi, hv, h with
      | 0, _, hv, h => exact (show T y (76 + 0) = _ from h).trans (Option.some.inj hv)
      | 1, _, hv, h => exact (show T y (76 + 1) = _ from h).trans (Option.some.inj hv)
      | 2, _, hv, h => exact (show T y (76 + 2) = _ from h).trans (Option.some.inj hv)
      | 3, _, hv, h => exact (show T y (76 + 3) = _ from h).trans (Option.some.inj hv)
      | 4, _, hv, h => exact (show T y (76 + 4) = _ from h).trans (Option.some.inj hv)
      | 5, _, hv, h => exact (show T y (76 + 5) = _ from h).trans (Option.some.inj hv)
      | 6, _, hv, h => exact (show T y (76 + 6) = _ from h).trans (Option.some.inj hv)
      | 7, _, hv, h => exact (show T y (76 + 7) = _ from h).trans (Option.some.inj hv)
      | 8, _, hv, h => exact (show T y (76 + 8) = _ from h).trans (Option.some.inj hv)
      | 9, _, hv, h => exact (show T y (76 + 9) = _ from h).trans (Option.some.inj hv)
      | 10, _, hv, h => exact (show T y (76 + 10) = _ from h).trans (Option.some.inj hv)
      | 11, _, hv, h => exact (show T y (76 + 11) = _ from h).trans (Option.some.inj hv)
      | 12, _, hv, h => exact (show T y (76 + 12) = _ from h).trans (Option.some.inj hv)
      | 13, _, hv, h => exact (show T y (76 + 13) = _ from h).trans (Option.some.inj hv)
      | 14, _, hv, h => exact (show T y (76 + 14) = _ from h).trans (Option.some.inj hv)
      | 15, _, hv, h => exact (show T y (76 + 15) = _ from h).trans (Option.some.inj hv)
      | 16, _, hv, h => exact (show T y (76 + 16) = _ from h).trans (Option.some.inj hv)
      | 17, _, hv, h => exact (show T y (76 + 17) = _ from h).trans (Option.some.inj hv)
      | 18, _, hv, h => exact (show T y (76 + 18) = _ from h).trans (Option.some.inj hv)
      | 19, _, hv, h => exact (show T y (76 + 19) = _ from h).trans (Option.some.inj hv)
      | 20, _, hv, h => exact (show T y (76 + 20) = _ from h).trans (Option.some.inj hv)
      | 21, _, hv, h => exact (show T y (76 + 21) = _ from h).trans (Option.some.inj hv)
      | 22, _, hv, h => exact (show T y (76 + 22) = _ from h).trans (Option.some.inj hv)
      | 23, _, hv, h => exact (show T y (76 + 23) = _ from h).trans (Option.some.inj hv)
      | 24, _, hv, h => exact (show T y (76 + 24) = _ from h).trans (Option.some.inj hv)
      | 25, _, hv, h => exact (show T y (76 + 25) = _ from h).trans (Option.some.inj hv)
      | 26, _, hv, h => exact (show T y (76 + 26) = _ from h).trans (Option.some.inj hv)
  refine ⟨duty_free rfl (by simp) rfl (fun act' w hF hB hE Q => by have f14 := hF.slot (k := 14) (by omega) q14; exact ob_value (v := .int .i64 (n : Nat)) (w' := w) (by simp [execOp, Act.eval, go_sem, f14]) (Below.refl _ _) rfl), ?_⟩
  refine ⟨duty_free rfl (by simp) rfl (fun act' w hF hB hE Q => by have f4 := hF.slot (k := 4) (by omega) q4; exact ob_value (v := (.int .i64 (hp : Nat))) (w' := w) (by simp [execOp, Act.eval, go_sem, f4]) (Below.refl _ _) rfl), ?_⟩
  refine ⟨duty_free rfl (by simp) rfl (fun act' w hF hB hE Q => by have h0 : T act' 76 = .int .i64 (n : Nat) := hE ⟨0, .data⟩ (by simp) rfl; have h1 : T act' 77 = (.int .i64 (hp : Nat)) := hE ⟨1, .data⟩ (by simp) rfl; exact ob_value (v := .bool true) (w' := w) (by simp [execOp, Act.eval, go_sem, h0, h1, l3]) (Below.refl _ _) rfl), ?_⟩
  refine ⟨duty_free rfl (by simp) rfl (fun act' w hF hB hE Q => by have h2 : T act' 78 = .bool true := hE ⟨2, .data⟩ (by simp) rfl; exact ob_value (v := .bool true) (w' := w) (by simp [execOp, Act.eval, go_sem, h2]) (Below.refl _ _) rfl), ?_⟩
  refine ⟨duty_met (j := 3) (b := true) rfl (by simp) rfl rfl (by simp) (fun _ _ h => h) (fun act' w hF hB hE Q => by have f6 := hF.slot (k := 6) (by omega) q6; exact ob_value (v := .pointer (some ⟨A, 0, none⟩)) (w' := w) (by simp [execOp, Act.eval, go_sem, f6]) (Below.refl _ _) rfl), ?_⟩
  refine ⟨duty_met (j := 3) (b := true) rfl (by simp) rfl rfl (by simp) (fun _ _ h => h) (fun act' w hF hB hE Q => by have h4 : T act' 80 = .pointer (some ⟨A, 0, none⟩) := hE ⟨4, .data⟩ (by simp) rfl; have x0 := cell_later hB _ _ _ ck; exact ob_value (v := .int .i64 kind) (w' := w) (by simp [execOp, Act.eval, go_sem, h4, x0]) (Below.refl _ _) rfl), ?_⟩
  refine ⟨duty_met (j := 3) (b := true) rfl (by simp) rfl rfl (by simp) (fun _ _ h => h) (fun act' w hF hB hE Q => by have h5 : T act' 81 = .int .i64 kind := hE ⟨5, .data⟩ (by simp) rfl; exact ob_value (v := .bool true) (w' := w) (by simp [execOp, Act.eval, go_sem, h5, t0]) (Below.refl _ _) rfl), ?_⟩
  refine ⟨duty_met (j := 3) (b := true) rfl (by simp) rfl rfl (by simp) (fun _ _ h => h) (fun act' w hF hB hE Q => by have h6 : T act' 82 = .bool true := hE ⟨6, .data⟩ (by simp) rfl; exact ob_value (v := .bool true) (w' := w) (by simp [execOp, Act.eval, go_sem, h6]) (Below.refl _ _) rfl), ?_⟩
  refine ⟨duty_met (j := 7) (b := true) rfl (by simp) rfl rfl (by simp) (fun _ _ h => h) (fun act' w hF hB hE Q => by have f14 := hF.slot (k := 14) (by omega) q14; exact ob_value (v := .int .i64 (n : Nat)) (w' := w) (by simp [execOp, Act.eval, go_sem, f14]) (Below.refl _ _) rfl), ?_⟩
  refine ⟨duty_met (j := 7) (b := true) rfl (by simp) rfl rfl (by simp) (fun _ _ h => h) (fun act' w hF hB hE Q => by have f4 := hF.slot (k := 4) (by omega) q4; exact ob_value (v := (.int .i64 (hp : Nat))) (w' := w) (by simp [execOp, Act.eval, go_sem, f4]) (Below.refl _ _) rfl), ?_⟩
  refine ⟨duty_met (j := 7) (b := true) rfl (by simp) rfl rfl (by simp) (fun _ _ h => h) (fun act' w hF hB hE Q => by have h9 : T act' 85 = (.int .i64 (hp : Nat)) := hE ⟨9, .data⟩ (by simp) rfl; exact ob_value (v := .int .i64 ((hp : Int) - 1)) (w' := w) (by simp [execOp, Act.eval, go_sem, h9, wrap_sub1 hp hb]) (Below.refl _ _) rfl), ?_⟩
  refine ⟨duty_met (j := 7) (b := true) rfl (by simp) rfl rfl (by simp) (fun _ _ h => h) (fun act' w hF hB hE Q => by have h8 : T act' 84 = .int .i64 (n : Nat) := hE ⟨8, .data⟩ (by simp) rfl; have h10 : T act' 86 = .int .i64 ((hp : Int) - 1) := hE ⟨10, .data⟩ (by simp) rfl; exact ob_value (v := .bool false) (w' := w) (by simp [execOp, Act.eval, go_sem, h8, h10, t1]) (Below.refl _ _) rfl), ?_⟩
  refine ⟨duty_met (j := 3) (b := true) rfl (by simp) rfl rfl (by simp) (fun _ _ h => h) (fun act' w hF hB hE Q => by have h7 : T act' 83 = .bool true := hE ⟨7, .data⟩ (by simp) rfl; have h11 : T act' 87 = .bool false := hE ⟨11, .data⟩ (by simp) rfl; exact ob_value (v := .bool false) (w' := w) (by simp [execOp, Act.eval, go_sem, h7, h11]) (Below.refl _ _) rfl), ?_⟩
  refine ⟨duty_met (j := 3) (b := true) rfl (by simp) rfl rfl (by simp) (fun _ _ h => h) (fun act' w hF hB hE Q => by have h12 : T act' 88 = .bool false := hE ⟨12, .data⟩ (by simp) rfl; exact ob_value (v := .bool true) (w' := w) (by simp [execOp, Act.eval, go_sem, h12]) (Below.refl _ _) rfl), ?_⟩
  refine ⟨duty_free rfl (by simp) rfl (fun act' w hF hB hE Q => by have h3 : T act' 79 = .bool true := hE ⟨3, .data⟩ (by simp) rfl; have h13 : T act' 89 = .bool true := hE ⟨13, .data⟩ (by simp) rfl; exact ob_value (v := .bool true) (w' := w) (by simp [execOp, Act.eval, go_sem, h3, h13]) (Below.refl _ _) rfl), ?_⟩
  refine ⟨duty_free rfl (by simp) rfl (fun act' w hF hB hE Q => by have h14 : T act' 90 = .bool true := hE ⟨14, .data⟩ (by simp) rfl; exact ob_value (v := .bool true) (w' := w) (by simp [execOp, Act.eval, go_sem, h14]) (Below.refl _ _) rfl), ?_⟩
  refine ⟨duty_met (j := 15) (b := true) rfl (by simp) rfl rfl (by simp) (fun _ _ h => h) (fun act' w hF hB hE Q => by have f7 := hF.slot (k := 7) (by omega) q7; exact ob_value (v := .slice (some ⟨g7, 0, none⟩) (hi + 1) c7) (w' := w) (by simp [execOp, Act.eval, go_sem, f7]) (Below.refl _ _) rfl), ?_⟩
  refine ⟨duty_met (j := 15) (b := true) rfl (by simp) rfl rfl (by simp) (fun _ _ h => h) (fun act' w hF hB hE Q => by have f14 := hF.slot (k := 14) (by omega) q14; exact ob_value (v := .int .i64 (n : Nat)) (w' := w) (by simp [execOp, Act.eval, go_sem, f14]) (Below.refl _ _) rfl), ?_⟩
  refine ⟨duty_met (j := 15) (b := true) rfl (by simp) rfl rfl (by simp) (fun _ _ h => h) (fun act' w hF hB hE Q => by have h16 : T act' 92 = .slice (some ⟨g7, 0, none⟩) (hi + 1) c7 := hE ⟨16, .data⟩ (by simp) rfl; have h17 : T act' 93 = .int .i64 (n : Nat) := hE ⟨17, .data⟩ (by simp) rfl; exact ob_value (v := .pointer (some ⟨g7, n * 5, none⟩)) (w' := w) (by simp [execOp, Act.eval, go_sem, h16, h17, l1]) (Below.refl _ _) rfl), ?_⟩
  refine ⟨duty_met (j := 15) (b := true) rfl (by simp) rfl rfl (by simp) (fun _ _ h => h) (fun act' w hF hB hE Q => by have h18 : T act' 94 = .pointer (some ⟨g7, n * 5, none⟩) := hE ⟨18, .data⟩ (by simp) rfl; have x0 := cell_later hB _ _ _ a0; have x1 := cell_later hB _ _ _ a1; have x2 := cell_later hB _ _ _ a2; have x3 := cell_later hB _ _ _ a3; have x4 := cell_later hB _ _ _ a4; exact ob_value (v := .agg #[.int .i64 (i1 : Nat), .int .i64 (s1 : Nat), .int .i64 (g1 : Nat), .int .i64 (z1 : Nat), .string y1]) (w' := w) (by simp [execOp, Act.eval, go_sem, h18, x0, x1, x2, x3, x4]) (Below.refl _ _) rfl), ?_⟩
  refine ⟨duty_met (j := 15) (b := true) rfl (by simp) rfl rfl (by simp) (fun _ _ h => h) (fun act' w hF hB hE Q => by have f13 := hF.slot (k := 13) (by omega) q13; exact ob_value (v := .slice (some ⟨g13, 0, none⟩) (hp + 1) c13) (w' := w) (by simp [execOp, Act.eval, go_sem, f13]) (Below.refl _ _) rfl), ?_⟩
  refine ⟨duty_met (j := 15) (b := true) rfl (by simp) rfl rfl (by simp) (fun _ _ h => h) (fun act' w hF hB hE Q => by have f14 := hF.slot (k := 14) (by omega) q14; exact ob_value (v := .int .i64 (n : Nat)) (w' := w) (by simp [execOp, Act.eval, go_sem, f14]) (Below.refl _ _) rfl), ?_⟩
  refine ⟨duty_met (j := 15) (b := true) rfl (by simp) rfl rfl (by simp) (fun _ _ h => h) (fun act' w hF hB hE Q => by have h20 : T act' 96 = .slice (some ⟨g13, 0, none⟩) (hp + 1) c13 := hE ⟨20, .data⟩ (by simp) rfl; have h21 : T act' 97 = .int .i64 (n : Nat) := hE ⟨21, .data⟩ (by simp) rfl; exact ob_value (v := .pointer (some ⟨g13, n * 5, none⟩)) (w' := w) (by simp [execOp, Act.eval, go_sem, h20, h21, l2]) (Below.refl _ _) rfl), ?_⟩
  refine ⟨duty_met (j := 15) (b := true) rfl (by simp) rfl rfl (by simp) (fun _ _ h => h) (fun act' w hF hB hE Q => by have h22 : T act' 98 = .pointer (some ⟨g13, n * 5, none⟩) := hE ⟨22, .data⟩ (by simp) rfl; have x0 := cell_later hB _ _ _ b0; have x1 := cell_later hB _ _ _ b1; have x2 := cell_later hB _ _ _ b2; have x3 := cell_later hB _ _ _ b3; have x4 := cell_later hB _ _ _ b4; exact ob_value (v := .agg #[.int .i64 (i2 : Nat), .int .i64 (s2 : Nat), .int .i64 (g2 : Nat), .int .i64 (z2 : Nat), .string y2]) (w' := w) (by simp [execOp, Act.eval, go_sem, h22, x0, x1, x2, x3, x4]) (Below.refl _ _) rfl), ?_⟩
  refine ⟨duty_met (j := 15) (b := true) rfl (by simp) rfl rfl (by simp) (fun _ _ h => h) (fun act' w hF hB hE Q => by have h19 : T act' 95 = .agg #[.int .i64 (i1 : Nat), .int .i64 (s1 : Nat), .int .i64 (g1 : Nat), .int .i64 (z1 : Nat), .string y1] := hE ⟨19, .data⟩ (by simp) rfl; have h23 : T act' 99 = .agg #[.int .i64 (i2 : Nat), .int .i64 (s2 : Nat), .int .i64 (g2 : Nat), .int .i64 (z2 : Nat), .string y2] := hE ⟨23, .data⟩ (by simp) rfl; exact ob_call2 rfl (fun args w => by simp [go_sem]) h19 h23 ((HG w).mono (fun e w' h => ⟨.bool true, h.1, h.2, rfl⟩))), ?_⟩
  refine ⟨duty_met (j := 15) (b := true) rfl (by simp) rfl rfl (by simp) (fun _ _ h => h) (fun act' w hF hB hE Q => by have h24 : T act' 100 = .bool true := hE ⟨24, .data⟩ (by simp) rfl; exact ob_value (v := .bool false) (w' := w) (by simp [execOp, Act.eval, go_sem, h24]) (Below.refl _ _) rfl), ?_⟩
  refine ⟨duty_free rfl (by simp) rfl (fun act' w hF hB hE Q => by have h15 : T act' 91 = .bool true := hE ⟨15, .data⟩ (by simp) rfl; have h25 : T act' 101 = .bool false := hE ⟨25, .data⟩ (by simp) rfl; exact ob_value (v := .bool false) (w' := w) (by simp [execOp, Act.eval, go_sem, h15, h25]) (Below.refl _ _) rfl), ?_⟩
  exact trivial
def R21b (n hp hi A g7 c7 g13 c13 : Nat) (kind : Int) (i1 s1 g1 z1 i2 s2 g2 z2 : Nat) (y1 y2 : ByteArray) : Nat → Value → World → Prop
  | 0, v, _ => v = .int .i64 (n : Nat)
  | 1, v, _ => v = (.int .i64 (hp : Nat))
  | 2, v, _ => v = .bool true
  | 3, v, _ => v = .bool true
  | 4, v, _ => v = .pointer (some ⟨A, 0, none⟩)
  | 5, v, _ => v = .int .i64 kind
  | 6, v, _ => v = .bool false
  | 7, v, _ => v = .bool false
  | 8, v, _ => v = undef
  | 9, v, _ => v = undef
  | 10, v, _ => v = undef
  | 11, v, _ => v = undef
  | 12, v, _ => v = .bool false
  | 13, v, _ => v = .bool true
  | 14, v, _ => v = .bool true
  | 15, v, _ => v = .bool true
  | 16, v, _ => v = .slice (some ⟨g7, 0, none⟩) (hi + 1) c7
  | 17, v, _ => v = .int .i64 (n : Nat)
  | 18, v, _ => v = .pointer (some ⟨g7, n * 5, none⟩)
  | 19, v, _ => v = .agg #[.int .i64 (i1 : Nat), .int .i64 (s1 : Nat), .int .i64 (g1 : Nat), .int .i64 (z1 : Nat), .string y1]
  | 20, v, _ => v = .slice (some ⟨g13, 0, none⟩) (hp + 1) c13
  | 21, v, _ => v = .int .i64 (n : Nat)
  | 22, v, _ => v = .pointer (some ⟨g13, n * 5, none⟩)
  | 23, v, _ => v = .agg #[.int .i64 (i2 : Nat), .int .i64 (s2 : Nat), .int .i64 (g2 : Nat), .int .i64 (z2 : Nat), .string y2]
  | 24, v, _ => v = .bool true
  | 25, v, _ => v = .bool false
  | 26, v, _ => v = .bool false
  | _, _, _ => True
set_option linter.unusedVariables false in
set_option maxRecDepth 100000 in
set_option maxHeartbeats 4000000 in
theorem reg21b (n hp hi A g7 c7 g13 c13 : Nat) (kind : Int) (i1 s1 g1 z1 i2 s2 g2 z2 : Nat) (y1 y2 : ByteArray) {act : Act} {w0 : World} {Q : Exit → Act → World → Prop} {ops : Array Oper} {new : Array Value} (hops : ops = opsOf Try.f3 21) (hsz : act.tmps.size = 195) (q4 : T act 4 = (.int .i64 (hp : Nat))) (q6 : T act 6 = (.pointer (some ⟨A, 0, none⟩))) (q7 : T act 7 = (.slice (some ⟨g7, 0, none⟩) (hi + 1) c7)) (q13 : T act 13 = (.slice (some ⟨g13, 0, none⟩) (hp + 1) c13)) (q14 : T act 14 = (.int .i64 (n : Nat))) (l1 : (n : Int) < (hi : Int) + 1) (l2 : (n : Int) < (hp : Int) + 1) (l3 : (n : Int) < (hp : Int)) (hb : hp ≤ 81) (t0 : (kind == (0 : Int)) = false) (ck : w0.cell? ⟨A, 0, none⟩ = some (.int .i64 kind)) (a0 : w0.cell? ⟨g7, n * 5, none⟩ = some (.int .i64 (i1 : Nat))) (a1 : w0.cell? ⟨g7, n * 5 + 1, none⟩ = some (.int .i64 (s1 : Nat))) (a2 : w0.cell? ⟨g7, n * 5 + 2, none⟩ = some (.int .i64 (g1 : Nat))) (a3 : w0.cell? ⟨g7, n * 5 + 3, none⟩ = some (.int .i64 (z1 : Nat))) (a4 : w0.cell? ⟨g7, n * 5 + 4, none⟩ = some (.string y1)) (b0 : w0.cell? ⟨g13, n * 5, none⟩ = some (.int .i64 (i2 : Nat))) (b1 : w0.cell? ⟨g13, n * 5 + 1, none⟩ = some (.int .i64 (s2 : Nat))) (b2 : w0.cell? ⟨g13, n * 5 + 2, none⟩ = some (.int .i64 (g2 : Nat))) (b3 : w0.cell? ⟨g13, n * 5 + 3, none⟩ = some (.int .i64 (z2 : Nat))) (b4 : w0.cell? ⟨g13, n * 5 + 4, none⟩ = some (.string y2)) (HG : ∀ u, Calls Try.prog 10 #[.agg #[.int .i64 (i1 : Nat), .int .i64 (s1 : Nat), .int .i64 (g1 : Nat), .int .i64 (z1 : Nat), .string y1], .agg #[.int .i64 (i2 : Nat), .int .i64 (s2 : Nat), .int .i64 (g2 : Nat), .int .i64 (z2 : Nat), .string y2]] u fun e u' => e = .returned (.bool true) ∧ Below u.heap.size u u')
    (hnew : laid act.tmps [.int .i64 (n : Nat), (.int .i64 (hp : Nat)), .bool true, .bool true, .pointer (some ⟨A, 0, none⟩), .int .i64 kind, .bool false, .bool false, undef, undef, undef, undef, .bool false, .bool true, .bool true, .bool true, .slice (some ⟨g7, 0, none⟩) (hi + 1) c7, .int .i64 (n : Nat), .pointer (some ⟨g7, n * 5, none⟩), .agg #[.int .i64 (i1 : Nat), .int .i64 (s1 : Nat), .int .i64 (g1 : Nat), .int .i64 (z1 : Nat), .string y1], .slice (some ⟨g13, 0, none⟩) (hp + 1) c13, .int .i64 (n : Nat), .pointer (some ⟨g13, n * 5, none⟩), .agg #[.int .i64 (i2 : Nat), .int .i64 (s2 : Nat), .int .i64 (g2 : Nat), .int .i64 (z2 : Nat), .string y2], .bool true, .bool false, .bool false] = new) (K : ∀ w', Below w0.heap.size w0 w' → Q .normal ⟨new, act.defers⟩ w') : (Code.region 21 ops true).wp Try.prog Q act w0 := by
  subst hops
  subst hnew
  have hnn : (opsOf Try.f3 21).size = 27 := by kernel_rfl
  refine wp_region_slots (by kernel_rfl) (fun i => 76 + i) (R21b n hp hi A g7 c7 g13 c13 kind i1 s1 g1 z1 i2 s2 g2 z2 y1 y2) (Fr21 act) (fun i v w w' h _ => ?_) (fun _ i v hi h => h.put (by omega) v) (fun _ i hi h => by rw [h.1]; show 76 + i < 195; omega) (fun i j _ _ h => by have h : 76 + i = 76 + j := h; omega) ?_ (fun y w h1 h2 h3 => ?_) ⟨hsz, rfl, fun _ _ => rfl⟩
  · unfold R21b at h ⊢
    split at h <;> exact h
  rotate_left
  · have e := laid_all h1 hsz [.int .i64 (n : Nat), (.int .i64 (hp : Nat)), .bool true, .bool true, .pointer (some ⟨A, 0, none⟩), .int .i64 kind, .bool false, .bool false, undef, undef, undef, undef, .bool false, .bool true, .bool true, .bool true, .slice (some ⟨g7, 0, none⟩) (hi + 1) c7, .int .i64 (n : Nat), .pointer (some ⟨g7, n * 5, none⟩), .agg #[.int .i64 (i1 : Nat), .int .i64 (s1 : Nat), .int .i64 (g1 : Nat), .int .i64 (z1 : Nat), .string y1], .slice (some ⟨g13, 0, none⟩) (hp + 1) c13, .int .i64 (n : Nat), .pointer (some ⟨g13, n * 5, none⟩), .agg #[.int .i64 (i2 : Nat), .int .i64 (s2 : Nat), .int .i64 (g2 : Nat), .int .i64 (z2 : Nat), .string y2], .bool true, .bool false, .bool false] rfl (fun i v hv => ?_)
    · rw [e]; exact K w h2
    · have hi : i < 27 := (List.getElem?_eq_some_iff.1 hv).1
      have h := h3 i (by omega)
      match i, hi, hv, h with
      | 0, _, hv, h => exact (show T y (76 + 0) = _ from h).trans (Option.some.inj hv)
      | 1, _, hv, h => exact (show T y (76 + 1) = _ from h).trans (Option.some.inj hv)
      | 2, _, hv, h => exact (show T y (76 + 2) = _ from h).trans (Option.some.inj hv)
      | 3, _, hv, h => exact (show T y (76 + 3) = _ from h).trans (Option.some.inj hv)
      | 4, _, hv, h => exact (show T y (76 + 4) = _ from h).trans (Option.some.inj hv)
      | 5, _, hv, h => exact (show T y (76 + 5) = _ from h).trans (Option.some.inj hv)
      | 6, _, hv, h => exact (show T y (76 + 6) = _ from h).trans (Option.some.inj hv)
      | 7, _, hv, h => exact (show T y (76 + 7) = _ from h).trans (Option.some.inj hv)
      | 8, _, hv, h => exact (show T y (76 + 8) = _ from h).trans (Option.some.inj hv)
      | 9, _, hv, h => exact (show T y (76 + 9) = _ from h).trans (Option.some.inj hv)
      | 10, _, hv, h => exact (show T y (76 + 10) = _ from h).trans (Option.some.inj hv)
      | 11, _, hv, h => exact (show T y (76 + 11) = _ from h).trans (Option.some.inj hv)
      | 12, _, hv, h => exact (show T y (76 + 12) = _ from h).trans (Option.some.inj hv)
      | 13, _, hv, h => exact (show T y (76 + 13) = _ from h).trans (Option.some.inj hv)
      | 14, _, hv, h => exact (show T y (76 + 14) = _ from h).trans (Option.some.inj hv)
      | 15, _, hv, h => exact (show T y (76 + 15) = _ from h).trans (Option.some.inj hv)
      | 16, _, hv, h => exact (show T y (76 + 16) = _ from h).trans (Option.some.inj hv)
      | 17, _, hv, h => exact (show T y (76 + 17) = _ from h).trans (Option.some.inj hv)
      | 18, _, hv, h => exact (show T y (76 + 18) = _ from h).trans (Option.some.inj hv)
      | 19, _, hv, h => exact (show T y (76 + 19) = _ from h).trans (Option.some.inj hv)
      | 20, _, hv, h => exact (show T y (76 + 20) = _ from h).trans (Option.some.inj hv)
      | 21, _, hv, h => exact (show T y (76 + 21) = _ from h).trans (Option.some.inj hv)
      | 22, _, hv, h => exact (show T y (76 + 22) = _ from h).trans (Option.some.inj hv)
      | 23, _, hv, h => exact (show T y (76 + 23) = _ from h).trans (Option.some.inj hv)
      | 24, _, hv, h => exact (show T y (76 + 24) = _ from h).trans (Option.some.inj hv)
      | 25, _, hv, h => exact (show T y (76 + 25) = _ from h).trans (Option.some.inj hv)
      | 26, _, hv, h => exact (show T y (76 + 26) = _ from h).trans (Option.some.inj hv)
  refine ⟨duty_free rfl (by simp) rfl (fun act' w hF hB hE Q => by have f14 := hF.slot (k := 14) (by omega) q14; exact ob_value (v := .int .i64 (n : Nat)) (w' := w) (by simp [execOp, Act.eval, go_sem, f14]) (Below.refl _ _) rfl), ?_⟩
  refine ⟨duty_free rfl (by simp) rfl (fun act' w hF hB hE Q => by have f4 := hF.slot (k := 4) (by omega) q4; exact ob_value (v := (.int .i64 (hp : Nat))) (w' := w) (by simp [execOp, Act.eval, go_sem, f4]) (Below.refl _ _) rfl), ?_⟩
  refine ⟨duty_free rfl (by simp) rfl (fun act' w hF hB hE Q => by have h0 : T act' 76 = .int .i64 (n : Nat) := hE ⟨0, .data⟩ (by simp) rfl; have h1 : T act' 77 = (.int .i64 (hp : Nat)) := hE ⟨1, .data⟩ (by simp) rfl; exact ob_value (v := .bool true) (w' := w) (by simp [execOp, Act.eval, go_sem, h0, h1, l3]) (Below.refl _ _) rfl), ?_⟩
  refine ⟨duty_free rfl (by simp) rfl (fun act' w hF hB hE Q => by have h2 : T act' 78 = .bool true := hE ⟨2, .data⟩ (by simp) rfl; exact ob_value (v := .bool true) (w' := w) (by simp [execOp, Act.eval, go_sem, h2]) (Below.refl _ _) rfl), ?_⟩
  refine ⟨duty_met (j := 3) (b := true) rfl (by simp) rfl rfl (by simp) (fun _ _ h => h) (fun act' w hF hB hE Q => by have f6 := hF.slot (k := 6) (by omega) q6; exact ob_value (v := .pointer (some ⟨A, 0, none⟩)) (w' := w) (by simp [execOp, Act.eval, go_sem, f6]) (Below.refl _ _) rfl), ?_⟩
  refine ⟨duty_met (j := 3) (b := true) rfl (by simp) rfl rfl (by simp) (fun _ _ h => h) (fun act' w hF hB hE Q => by have h4 : T act' 80 = .pointer (some ⟨A, 0, none⟩) := hE ⟨4, .data⟩ (by simp) rfl; have x0 := cell_later hB _ _ _ ck; exact ob_value (v := .int .i64 kind) (w' := w) (by simp [execOp, Act.eval, go_sem, h4, x0]) (Below.refl _ _) rfl), ?_⟩
  refine ⟨duty_met (j := 3) (b := true) rfl (by simp) rfl rfl (by simp) (fun _ _ h => h) (fun act' w hF hB hE Q => by have h5 : T act' 81 = .int .i64 kind := hE ⟨5, .data⟩ (by simp) rfl; exact ob_value (v := .bool false) (w' := w) (by simp [execOp, Act.eval, go_sem, h5, t0]) (Below.refl _ _) rfl), ?_⟩
  refine ⟨duty_met (j := 3) (b := true) rfl (by simp) rfl rfl (by simp) (fun _ _ h => h) (fun act' w hF hB hE Q => by have h6 : T act' 82 = .bool false := hE ⟨6, .data⟩ (by simp) rfl; exact ob_value (v := .bool false) (w' := w) (by simp [execOp, Act.eval, go_sem, h6]) (Below.refl _ _) rfl), ?_⟩
  refine ⟨duty_not (j := 7) (b := true) rfl (by simp) rfl rfl (by simp) (fun _ _ h => h) (fun _ => rfl), ?_⟩
  refine ⟨duty_not (j := 7) (b := true) rfl (by simp) rfl rfl (by simp) (fun _ _ h => h) (fun _ => rfl), ?_⟩
  refine ⟨duty_not (j := 7) (b := true) rfl (by simp) rfl rfl (by simp) (fun _ _ h => h) (fun _ => rfl), ?_⟩
  refine ⟨duty_not (j := 7) (b := true) rfl (by simp) rfl rfl (by simp) (fun _ _ h => h) (fun _ => rfl), ?_⟩
  refine ⟨duty_met (j := 3) (b := true) rfl (by simp) rfl rfl (by simp) (fun _ _ h => h) (fun act' w hF hB hE Q => by have h7 : T act' 83 = .bool false := hE ⟨7, .data⟩ (by simp) rfl; exact ob_value (v := .bool false) (w' := w) (by simp [execOp, Act.eval, go_sem, h7]) (Below.refl _ _) rfl), ?_⟩
  refine ⟨duty_met (j := 3) (b := true) rfl (by simp) rfl rfl (by simp) (fun _ _ h => h) (fun act' w hF hB hE Q => by have h12 : T act' 88 = .bool false := hE ⟨12, .data⟩ (by simp) rfl; exact ob_value (v := .bool true) (w' := w) (by simp [execOp, Act.eval, go_sem, h12]) (Below.refl _ _) rfl), ?_⟩
  refine ⟨duty_free rfl (by simp) rfl (fun act' w hF hB hE Q => by have h3 : T act' 79 = .bool true := hE ⟨3, .data⟩ (by simp) rfl; have h13 : T act' 89 = .bool true := hE ⟨13, .data⟩ (by simp) rfl; exact ob_value (v := .bool true) (w' := w) (by simp [execOp, Act.eval, go_sem, h3, h13]) (Below.refl _ _) rfl), ?_⟩
  refine ⟨duty_free rfl (by simp) rfl (fun act' w hF hB hE Q => by have h14 : T act' 90 = .bool true := hE ⟨14, .data⟩ (by simp) rfl; exact ob_value (v := .bool true) (w' := w) (by simp [execOp, Act.eval, go_sem, h14]) (Below.refl _ _) rfl), ?_⟩
  refine ⟨duty_met (j := 15) (b := true) rfl (by simp) rfl rfl (by simp) (fun _ _ h => h) (fun act' w hF hB hE Q => by have f7 := hF.slot (k := 7) (by omega) q7; exact ob_value (v := .slice (some ⟨g7, 0, none⟩) (hi + 1) c7) (w' := w) (by simp [execOp, Act.eval, go_sem, f7]) (Below.refl _ _) rfl), ?_⟩
  refine ⟨duty_met (j := 15) (b := true) rfl (by simp) rfl rfl (by simp) (fun _ _ h => h) (fun act' w hF hB hE Q => by have f14 := hF.slot (k := 14) (by omega) q14; exact ob_value (v := .int .i64 (n : Nat)) (w' := w) (by simp [execOp, Act.eval, go_sem, f14]) (Below.refl _ _) rfl), ?_⟩
  refine ⟨duty_met (j := 15) (b := true) rfl (by simp) rfl rfl (by simp) (fun _ _ h => h) (fun act' w hF hB hE Q => by have h16 : T act' 92 = .slice (some ⟨g7, 0, none⟩) (hi + 1) c7 := hE ⟨16, .data⟩ (by simp) rfl; have h17 : T act' 93 = .int .i64 (n : Nat) := hE ⟨17, .data⟩ (by simp) rfl; exact ob_value (v := .pointer (some ⟨g7, n * 5, none⟩)) (w' := w) (by simp [execOp, Act.eval, go_sem, h16, h17, l1]) (Below.refl _ _) rfl), ?_⟩
  refine ⟨duty_met (j := 15) (b := true) rfl (by simp) rfl rfl (by simp) (fun _ _ h => h) (fun act' w hF hB hE Q => by have h18 : T act' 94 = .pointer (some ⟨g7, n * 5, none⟩) := hE ⟨18, .data⟩ (by simp) rfl; have x0 := cell_later hB _ _ _ a0; have x1 := cell_later hB _ _ _ a1; have x2 := cell_later hB _ _ _ a2; have x3 := cell_later hB _ _ _ a3; have x4 := cell_later hB _ _ _ a4; exact ob_value (v := .agg #[.int .i64 (i1 : Nat), .int .i64 (s1 : Nat), .int .i64 (g1 : Nat), .int .i64 (z1 : Nat), .string y1]) (w' := w) (by simp [execOp, Act.eval, go_sem, h18, x0, x1, x2, x3, x4]) (Below.refl _ _) rfl), ?_⟩
  refine ⟨duty_met (j := 15) (b := true) rfl (by simp) rfl rfl (by simp) (fun _ _ h => h) (fun act' w hF hB hE Q => by have f13 := hF.slot (k := 13) (by omega) q13; exact ob_value (v := .slice (some ⟨g13, 0, none⟩) (hp + 1) c13) (w' := w) (by simp [execOp, Act.eval, go_sem, f13]) (Below.refl _ _) rfl), ?_⟩
  refine ⟨duty_met (j := 15) (b := true) rfl (by simp) rfl rfl (by simp) (fun _ _ h => h) (fun act' w hF hB hE Q => by have f14 := hF.slot (k := 14) (by omega) q14; exact ob_value (v := .int .i64 (n : Nat)) (w' := w) (by simp [execOp, Act.eval, go_sem, f14]) (Below.refl _ _) rfl), ?_⟩
  refine ⟨duty_met (j := 15) (b := true) rfl (by simp) rfl rfl (by simp) (fun _ _ h => h) (fun act' w hF hB hE Q => by have h20 : T act' 96 = .slice (some ⟨g13, 0, none⟩) (hp + 1) c13 := hE ⟨20, .data⟩ (by simp) rfl; have h21 : T act' 97 = .int .i64 (n : Nat) := hE ⟨21, .data⟩ (by simp) rfl; exact ob_value (v := .pointer (some ⟨g13, n * 5, none⟩)) (w' := w) (by simp [execOp, Act.eval, go_sem, h20, h21, l2]) (Below.refl _ _) rfl), ?_⟩
  refine ⟨duty_met (j := 15) (b := true) rfl (by simp) rfl rfl (by simp) (fun _ _ h => h) (fun act' w hF hB hE Q => by have h22 : T act' 98 = .pointer (some ⟨g13, n * 5, none⟩) := hE ⟨22, .data⟩ (by simp) rfl; have x0 := cell_later hB _ _ _ b0; have x1 := cell_later hB _ _ _ b1; have x2 := cell_later hB _ _ _ b2; have x3 := cell_later hB _ _ _ b3; have x4 := cell_later hB _ _ _ b4; exact ob_value (v := .agg #[.int .i64 (i2 : Nat), .int .i64 (s2 : Nat), .int .i64 (g2 : Nat), .int .i64 (z2 : Nat), .string y2]) (w' := w) (by simp [execOp, Act.eval, go_sem, h22, x0, x1, x2, x3, x4]) (Below.refl _ _) rfl), ?_⟩
  refine ⟨duty_met (j := 15) (b := true) rfl (by simp) rfl rfl (by simp) (fun _ _ h => h) (fun act' w hF hB hE Q => by have h19 : T act' 95 = .agg #[.int .i64 (i1 : Nat), .int .i64 (s1 : Nat), .int .i64 (g1 : Nat), .int .i64 (z1 : Nat), .string y1] := hE ⟨19, .data⟩ (by simp) rfl; have h23 : T act' 99 = .agg #[.int .i64 (i2 : Nat), .int .i64 (s2 : Nat), .int .i64 (g2 : Nat), .int .i64 (z2 : Nat), .string y2] := hE ⟨23, .data⟩ (by simp) rfl; exact ob_call2 rfl (fun args w => by simp [go_sem]) h19 h23 ((HG w).mono (fun e w' h => ⟨.bool true, h.1, h.2, rfl⟩))), ?_⟩
  refine ⟨duty_met (j := 15) (b := true) rfl (by simp) rfl rfl (by simp) (fun _ _ h => h) (fun act' w hF hB hE Q => by have h24 : T act' 100 = .bool true := hE ⟨24, .data⟩ (by simp) rfl; exact ob_value (v := .bool false) (w' := w) (by simp [execOp, Act.eval, go_sem, h24]) (Below.refl _ _) rfl), ?_⟩
  refine ⟨duty_free rfl (by simp) rfl (fun act' w hF hB hE Q => by have h15 : T act' 91 = .bool true := hE ⟨15, .data⟩ (by simp) rfl; have h25 : T act' 101 = .bool false := hE ⟨25, .data⟩ (by simp) rfl; exact ob_value (v := .bool false) (w' := w) (by simp [execOp, Act.eval, go_sem, h15, h25]) (Below.refl _ _) rfl), ?_⟩
  exact trivial
end Go.Proofs.Ytjlfhaehdllmcaa
