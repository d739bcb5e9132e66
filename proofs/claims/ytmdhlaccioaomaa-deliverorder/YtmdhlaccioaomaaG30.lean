/- DeliverOrder: the region that holds the deliverer against its watch (typed by gen/dlreg.py). -/
import Derived.Test.YtmdhlaccioaomaaG29
namespace Go.Proofs.Ytmdhlaccioaomaa
open Go.RowKit Go.Maps Rg Bo

theorem same_q {w : World} {a b : Option Addr} {c d q : Nat} {l : List Al} (ha : AlAt w a l) (hb : AlAt w b l) (hq : l.length = q) (hl : q ≤ 64) : Calls Try.prog 11 #[.slice a q c, .slice b q d] w fun e w' => e = .returned (.bool true) ∧ Below w.heap.size w w' := by
  subst hq
  exact same_any ha hb (by omega)
def FrG (lo hi : Nat) (act a : Act) : Prop := a.tmps.size = 235 ∧ a.defers = act.defers ∧ ∀ k, (k < lo ∨ hi ≤ k) → a.tmps[k]? = act.tmps[k]?
theorem FrG.put {lo hi : Nat} {act a : Act} (h : FrG lo hi act a) {k : Nat} (hk : lo ≤ k ∧ k < hi) (v : Value) : FrG lo hi act (a.put (some k) v) := by
  obtain ⟨h1, h2, h3⟩ := h
  refine ⟨by simp [Act.put, h1], by simp [Act.put, h2], fun j hj => ?_⟩
  simp only [Act.put]
  rw [Array.getElem?_setIfInBounds_ne (by omega)]
  exact h3 j hj
theorem FrG.slot {lo hi : Nat} {act a : Act} (h : FrG lo hi act a) {k : Nat} (hk : k < lo) {v : Value} (hv : T act k = v) : T a k = v := by unfold T at hv ⊢; rw [h.2.2 k (.inl hk)]; exact hv
def laid29 (t : Array Value) (l : List Value) : Array Value := (t.toList.take 144 ++ (l ++ t.toList.drop 172)).toArray
set_option maxRecDepth 20000 in
theorem laid29_all {act a : Act} (h : FrG 144 172 act a) (hs : act.tmps.size = 235) (l : List Value) (hl : l.length = 28) (hv : ∀ i v, l[i]? = some v → T a (144 + i) = v) : a = ⟨laid29 act.tmps l, act.defers⟩ := by
  have hs' : act.tmps.toList.length = 235 := by simpa using hs
  have ht : a.tmps = laid29 act.tmps l := by
    apply Array.ext_getElem?
    intro j
    unfold laid29
    show a.tmps[j]? = (act.tmps.toList.take 144 ++ (l ++ act.tmps.toList.drop 172)).toArray[j]?
    rw [show (act.tmps.toList.take 144 ++ (l ++ act.tmps.toList.drop 172)).toArray[j]? = (act.tmps.toList.take 144 ++ (l ++ act.tmps.toList.drop 172))[j]? from List.getElem?_toArray]
    by_cases h1 : j < 144
    · rw [List.getElem?_append_left (by rw [List.length_take]; omega), List.getElem?_take_of_lt h1, h.2.2 j (.inl h1)]
      simp
    · rw [List.getElem?_append_right (by rw [List.length_take]; omega), List.length_take, show min 144 act.tmps.toList.length = 144 by omega]
      by_cases h2 : j < 172
      · rw [List.getElem?_append_left (by omega)]
        have e := hv (j - 144) l[j - 144] (List.getElem?_eq_getElem (by omega))
        rw [List.getElem?_eq_getElem (by omega), ← e]
        unfold T
        rw [show 144 + (j - 144) = j by omega, Array.getElem?_eq_getElem (by rw [h.1]; omega)]
        rfl
      · rw [List.getElem?_append_right (by omega), List.getElem?_drop, hl, show 172 + (j - 144 - 28) = j by omega, h.2.2 j (.inr (by omega))]
        simp
  cases a
  simp only at ht
  have := h.2.1
  simp only at this
  rw [ht, this]
set_option linter.unusedVariables false in
def R29 (D W S q n wt c7 : Nat) (a7 : Option Addr) (b : Bool) (l : List Al) : Nat → Value → World → Prop
  | 0, v, _ => v = .bool true
  | 1, v, _ => v = .bool false
  | 2, v, _ => v = .bool false
  | 3, v, _ => v = .pointer (some ⟨D, 0, none⟩)
  | 4, v, w => ∃ A2, v = .slice (some ⟨A2, 0, none⟩) q q ∧ AlAt w (some ⟨A2, 0, none⟩) l
  | 5, v, _ => v = .slice a7 q c7
  | 6, v, _ => v = .bool true
  | 7, v, _ => v = .bool false
  | 8, v, _ => v = .bool false
  | 9, v, _ => v = .bool false
  | 10, v, _ => v = .pointer (some ⟨D, 0, none⟩)
  | 11, v, _ => v = .bool b
  | 12, v, _ => v = .slice a7 q c7
  | 13, v, _ => v = .int .i64 (q : Nat)
  | 14, v, _ => v = .pointer (some ⟨S, 0, none⟩)
  | 15, v, _ => v = .int .i64 (n : Nat)
  | 16, v, _ => v = .bool b
  | 17, v, _ => v = .bool false
  | 18, v, _ => v = .bool false
  | 19, v, _ => v = .bool false
  | 20, v, _ => v = .pointer (some ⟨D, 0, none⟩)
  | 21, v, _ => v = .int .i64 (wt : Nat)
  | 22, v, _ => v = .pointer (some ⟨W, 0, none⟩)
  | 23, v, _ => v = .pointer (some ⟨W, 0, none⟩)
  | 24, v, _ => v = .pointer (some ⟨W, 8, none⟩)
  | 25, v, _ => v = .int .i64 (wt : Nat)
  | 26, v, _ => v = .bool false
  | 27, v, _ => v = .bool false
  | _, _, _ => True
set_option linter.unusedVariables false in
set_option linter.unusedSimpArgs false in
set_option maxRecDepth 100000 in
set_option maxHeartbeats 8000000 in
theorem reg29 (D W S q n wt c7 : Nat) (a7 : Option Addr) (b : Bool) (l : List Al) {act : Act} {w0 : World} {Q : Exit → Act → World → Prop} {ops : Array Oper} {new : Nat → Array Value} (hops : ops = opsOf Try.f3 29) (hsz : act.tmps.size = 235) (q2 : T act 2 = .pointer (some ⟨S, 0, none⟩)) (q5 : T act 5 = .pointer (some ⟨D, 0, none⟩)) (q7 : T act 7 = .pointer (some ⟨W, 0, none⟩)) (q11 : T act 11 = .bool true) (q14 : T act 14 = .slice a7 q c7) (hq : l.length = q) (hq9 : q ≤ 64) (hb : ((q : Int) == (n : Int)) = b) (hY : AlAt w0 a7 l) (cS : w0.cell? ⟨S, 0, none⟩ = some (.int .i64 (n : Nat))) (c8 : w0.cell? ⟨W, 8, none⟩ = some (.int .i64 (wt : Nat))) (HQ : ∀ u, Below w0.heap.size w0 u → Calls Try.prog 12 #[.pointer (some ⟨D, 0, none⟩)] u fun e u' => ∃ A2, e = .returned (.slice (some ⟨A2, 0, none⟩) q q) ∧ Below u.heap.size u u' ∧ AlAt u' (some ⟨A2, 0, none⟩) l) (HFU : ∀ u, Below w0.heap.size w0 u → Calls Try.prog 13 #[.pointer (some ⟨D, 0, none⟩)] u fun e u' => e = .returned (.bool b) ∧ Below u.heap.size u u') (HWT : ∀ u, Below w0.heap.size w0 u → Calls Try.prog 14 #[.pointer (some ⟨D, 0, none⟩)] u fun e u' => e = .returned (.int .i64 (wt : Nat)) ∧ Below u.heap.size u u')
    (hnew : ∀ A2, laid29 act.tmps [.bool true, .bool false, .bool false, .pointer (some ⟨D, 0, none⟩), .slice (some ⟨A2, 0, none⟩) q q, .slice a7 q c7, .bool true, .bool false, .bool false, .bool false, .pointer (some ⟨D, 0, none⟩), .bool b, .slice a7 q c7, .int .i64 (q : Nat), .pointer (some ⟨S, 0, none⟩), .int .i64 (n : Nat), .bool b, .bool false, .bool false, .bool false, .pointer (some ⟨D, 0, none⟩), .int .i64 (wt : Nat), .pointer (some ⟨W, 0, none⟩), .pointer (some ⟨W, 0, none⟩), .pointer (some ⟨W, 8, none⟩), .int .i64 (wt : Nat), .bool false, .bool false] = new A2) (K : ∀ A2 w', Below w0.heap.size w0 w' → Q .normal ⟨new A2, act.defers⟩ w') : (Code.region 29 ops true).wp Try.prog Q act w0 := by
  subst hops
  have hnn : (opsOf Try.f3 29).size = 28 := by kernel_rfl
  refine wp_region_slots (by kernel_rfl) (fun i => 144 + i) (R29 D W S q n wt c7 a7 b l) (FrG 144 172 act) (fun i v w w' h hbw => ?_) (fun _ i v hi h => h.put (by omega) v) (fun _ i hi h => by rw [h.1]; show 144 + i < 235; omega) (fun i j _ _ h => by have h : 144 + i = 144 + j := h; omega) ?_ (fun y w h1 h2 h3 => ?_) ⟨hsz, rfl, fun _ _ => rfl⟩
  · match i, h with
    | 0, h => exact h
    | 1, h => exact h
    | 2, h => exact h
    | 3, h => exact h
    | 4, ⟨A2, h1, h2⟩ => exact ⟨A2, h1, h2.later hbw⟩
    | 5, h => exact h
    | 6, h => exact h
    | 7, h => exact h
    | 8, h => exact h
    | 9, h => exact h
    | 10, h => exact h
    | 11, h => exact h
    | 12, h => exact h
    | 13, h => exact h
    | 14, h => exact h
    | 15, h => exact h
    | 16, h => exact h
    | 17, h => exact h
    | 18, h => exact h
    | 19, h => exact h
    | 20, h => exact h
    | 21, h => exact h
    | 22, h => exact h
    | 23, h => exact h
    | 24, h => exact h
    | 25, h => exact h
    | 26, h => exact h
    | 27, h => exact h
    | _ + 28, _ => trivial
  rotate_left
  · obtain ⟨A2, hA2, -⟩ := (h3 4 (by omega) : ∃ A2, T y 148 = .slice (some ⟨A2, 0, none⟩) q q ∧ AlAt w (some ⟨A2, 0, none⟩) l)
    have e := laid29_all h1 hsz [.bool true, .bool false, .bool false, .pointer (some ⟨D, 0, none⟩), .slice (some ⟨A2, 0, none⟩) q q, .slice a7 q c7, .bool true, .bool false, .bool false, .bool false, .pointer (some ⟨D, 0, none⟩), .bool b, .slice a7 q c7, .int .i64 (q : Nat), .pointer (some ⟨S, 0, none⟩), .int .i64 (n : Nat), .bool b, .bool false, .bool false, .bool false, .pointer (some ⟨D, 0, none⟩), .int .i64 (wt : Nat), .pointer (some ⟨W, 0, none⟩), .pointer (some ⟨W, 0, none⟩), .pointer (some ⟨W, 8, none⟩), .int .i64 (wt : Nat), .bool false, .bool false] rfl (fun i v hv => ?_)
    · rw [e, hnew A2]; exact K A2 w h2
    · have hi : i < 28 := (List.getElem?_eq_some_iff.1 hv).1
      have h := h3 i (by omega)
      match i, hi, hv, h with
      | 0, _, hv, h => exact (show T y (144 + 0) = _ from h).trans (Option.some.inj hv)
      | 1, _, hv, h => exact (show T y (144 + 1) = _ from h).trans (Option.some.inj hv)
      | 2, _, hv, h => exact (show T y (144 + 2) = _ from h).trans (Option.some.inj hv)
      | 3, _, hv, h => exact (show T y (144 + 3) = _ from h).trans (Option.some.inj hv)
      | 4, _, hv, h => exact (show T y (144 + 4) = _ from hA2).trans (Option.some.inj hv)
      | 5, _, hv, h => exact (show T y (144 + 5) = _ from h).trans (Option.some.inj hv)
      | 6, _, hv, h => exact (show T y (144 + 6) = _ from h).trans (Option.some.inj hv)
      | 7, _, hv, h => exact (show T y (144 + 7) = _ from h).trans (Option.some.inj hv)
      | 8, _, hv, h => exact (show T y (144 + 8) = _ from h).trans (Option.some.inj hv)
      | 9, _, hv, h => exact (show T y (144 + 9) = _ from h).trans (Option.some.inj hv)
      | 10, _, hv, h => exact (show T y (144 + 10) = _ from h).trans (Option.some.inj hv)
      | 11, _, hv, h => exact (show T y (144 + 11) = _ from h).trans (Option.some.inj hv)
      | 12, _, hv, h => exact (show T y (144 + 12) = _ from h).trans (Option.some.inj hv)
      | 13, _, hv, h => exact (show T y (144 + 13) = _ from h).trans (Option.some.inj hv)
      | 14, _, hv, h => exact (show T y (144 + 14) = _ from h).trans (Option.some.inj hv)
      | 15, _, hv, h => exact (show T y (144 + 15) = _ from h).trans (Option.some.inj hv)
      | 16, _, hv, h => exact (show T y (144 + 16) = _ from h).trans (Option.some.inj hv)
      | 17, _, hv, h => exact (show T y (144 + 17) = _ from h).trans (Option.some.inj hv)
      | 18, _, hv, h => exact (show T y (144 + 18) = _ from h).trans (Option.some.inj hv)
      | 19, _, hv, h => exact (show T y (144 + 19) = _ from h).trans (Option.some.inj hv)
      | 20, _, hv, h => exact (show T y (144 + 20) = _ from h).trans (Option.some.inj hv)
      | 21, _, hv, h => exact (show T y (144 + 21) = _ from h).trans (Option.some.inj hv)
      | 22, _, hv, h => exact (show T y (144 + 22) = _ from h).trans (Option.some.inj hv)
      | 23, _, hv, h => exact (show T y (144 + 23) = _ from h).trans (Option.some.inj hv)
      | 24, _, hv, h => exact (show T y (144 + 24) = _ from h).trans (Option.some.inj hv)
      | 25, _, hv, h => exact (show T y (144 + 25) = _ from h).trans (Option.some.inj hv)
      | 26, _, hv, h => exact (show T y (144 + 26) = _ from h).trans (Option.some.inj hv)
      | 27, _, hv, h => exact (show T y (144 + 27) = _ from h).trans (Option.some.inj hv)
  refine ⟨duty_free rfl (by simp) rfl (fun act' w hF hB hE Q => by have f11 := hF.slot (k := 11) (by omega) q11; exact ob_value (v := .bool true) (w' := w) (by simp [execOp, Act.eval, go_sem, f11]) (Below.refl _ _) rfl), ?_⟩
  refine ⟨duty_free rfl (by simp) rfl (fun act' w hF hB hE Q => by have h0 : T act' 144 = .bool true := hE ⟨0, .data⟩ (by simp) rfl; exact ob_value (v := .bool false) (w' := w) (by simp [execOp, Act.eval, go_sem, h0]) (Below.refl _ _) rfl), ?_⟩
  refine ⟨duty_free rfl (by simp) rfl (fun act' w hF hB hE Q => by have h1 : T act' 145 = .bool false := hE ⟨1, .data⟩ (by simp) rfl; exact ob_value (v := .bool false) (w' := w) (by simp [execOp, Act.eval, go_sem, h1]) (Below.refl _ _) rfl), ?_⟩
  refine ⟨duty_met (j := 2) (b := false) rfl (by simp) rfl rfl (by simp) (fun _ _ h => h) (fun act' w hF hB hE Q => by have f5 := hF.slot (k := 5) (by omega) q5; exact ob_value (v := .pointer (some ⟨D, 0, none⟩)) (w' := w) (by simp [execOp, Act.eval, go_sem, f5]) (Below.refl _ _) rfl), ?_⟩
  refine ⟨duty_met (j := 2) (b := false) rfl (by simp) rfl rfl (by simp) (fun _ _ h => h) (fun act' w hF hB hE Q => by have h3 : T act' 147 = .pointer (some ⟨D, 0, none⟩) := hE ⟨3, .data⟩ (by simp) rfl; exact ob_call1 rfl (fun args w => by simp [go_sem]) h3 ((HQ w hB).mono (fun e w' h => by obtain ⟨A2, h1, h2, h3⟩ := h; exact ⟨_, h1, h2, A2, rfl, h3⟩))), ?_⟩
  refine ⟨duty_met (j := 2) (b := false) rfl (by simp) rfl rfl (by simp) (fun _ _ h => h) (fun act' w hF hB hE Q => by have f14 := hF.slot (k := 14) (by omega) q14; exact ob_value (v := .slice a7 q c7) (w' := w) (by simp [execOp, Act.eval, go_sem, f14]) (Below.refl _ _) rfl), ?_⟩
  refine ⟨duty_met (j := 2) (b := false) rfl (by simp) rfl rfl (by simp) (fun _ _ h => h) (fun act' w hF hB hE Q => by have h4 : ∃ A2, T act' 148 = .slice (some ⟨A2, 0, none⟩) q q ∧ AlAt w (some ⟨A2, 0, none⟩) l := hE ⟨4, .data⟩ (by simp) rfl; have h5 : T act' 149 = .slice a7 q c7 := hE ⟨5, .data⟩ (by simp) rfl; obtain ⟨A2, h4, hat⟩ := h4; exact ob_call2 rfl (fun args w => by simp [go_sem]) h4 h5 ((same_q hat (hY.later hB) hq hq9).mono (fun e w' h => ⟨.bool true, h.1, h.2, rfl⟩))), ?_⟩
  refine ⟨duty_met (j := 2) (b := false) rfl (by simp) rfl rfl (by simp) (fun _ _ h => h) (fun act' w hF hB hE Q => by have h6 : T act' 150 = .bool true := hE ⟨6, .data⟩ (by simp) rfl; exact ob_value (v := .bool false) (w' := w) (by simp [execOp, Act.eval, go_sem, h6]) (Below.refl _ _) rfl), ?_⟩
  refine ⟨duty_free rfl (by simp) rfl (fun act' w hF hB hE Q => by have h2 : T act' 146 = .bool false := hE ⟨2, .data⟩ (by simp) rfl; have h7 : T act' 151 = .bool false := hE ⟨7, .data⟩ (by simp) rfl; exact ob_value (v := .bool false) (w' := w) (by simp [execOp, Act.eval, go_sem, h2, h7]) (Below.refl _ _) rfl), ?_⟩
  refine ⟨duty_free rfl (by simp) rfl (fun act' w hF hB hE Q => by have h8 : T act' 152 = .bool false := hE ⟨8, .data⟩ (by simp) rfl; exact ob_value (v := .bool false) (w' := w) (by simp [execOp, Act.eval, go_sem, h8]) (Below.refl _ _) rfl), ?_⟩
  refine ⟨duty_met (j := 9) (b := false) rfl (by simp) rfl rfl (by simp) (fun _ _ h => h) (fun act' w hF hB hE Q => by have f5 := hF.slot (k := 5) (by omega) q5; exact ob_value (v := .pointer (some ⟨D, 0, none⟩)) (w' := w) (by simp [execOp, Act.eval, go_sem, f5]) (Below.refl _ _) rfl), ?_⟩
  refine ⟨duty_met (j := 9) (b := false) rfl (by simp) rfl rfl (by simp) (fun _ _ h => h) (fun act' w hF hB hE Q => by have h10 : T act' 154 = .pointer (some ⟨D, 0, none⟩) := hE ⟨10, .data⟩ (by simp) rfl; exact ob_call1 rfl (fun args w => by simp [go_sem]) h10 ((HFU w hB).mono (fun e w' h => ⟨_, h.1, h.2, rfl⟩))), ?_⟩
  refine ⟨duty_met (j := 9) (b := false) rfl (by simp) rfl rfl (by simp) (fun _ _ h => h) (fun act' w hF hB hE Q => by have f14 := hF.slot (k := 14) (by omega) q14; exact ob_value (v := .slice a7 q c7) (w' := w) (by simp [execOp, Act.eval, go_sem, f14]) (Below.refl _ _) rfl), ?_⟩
  refine ⟨duty_met (j := 9) (b := false) rfl (by simp) rfl rfl (by simp) (fun _ _ h => h) (fun act' w hF hB hE Q => by have h12 : T act' 156 = .slice a7 q c7 := hE ⟨12, .data⟩ (by simp) rfl; exact ob_value (v := .int .i64 (q : Nat)) (w' := w) (by simp [execOp, Act.eval, go_sem, h12]) (Below.refl _ _) rfl), ?_⟩
  refine ⟨duty_met (j := 9) (b := false) rfl (by simp) rfl rfl (by simp) (fun _ _ h => h) (fun act' w hF hB hE Q => by have f2 := hF.slot (k := 2) (by omega) q2; exact ob_value (v := .pointer (some ⟨S, 0, none⟩)) (w' := w) (by simp [execOp, Act.eval, go_sem, f2]) (Below.refl _ _) rfl), ?_⟩
  refine ⟨duty_met (j := 9) (b := false) rfl (by simp) rfl rfl (by simp) (fun _ _ h => h) (fun act' w hF hB hE Q => by have h14 : T act' 158 = .pointer (some ⟨S, 0, none⟩) := hE ⟨14, .data⟩ (by simp) rfl; have x0 := cell_later hB _ _ _ cS; exact ob_value (v := .int .i64 (n : Nat)) (w' := w) (by simp [execOp, Act.eval, go_sem, h14, x0]) (Below.refl _ _) rfl), ?_⟩
  refine ⟨duty_met (j := 9) (b := false) rfl (by simp) rfl rfl (by simp) (fun _ _ h => h) (fun act' w hF hB hE Q => by have h13 : T act' 157 = .int .i64 (q : Nat) := hE ⟨13, .data⟩ (by simp) rfl; have h15 : T act' 159 = .int .i64 (n : Nat) := hE ⟨15, .data⟩ (by simp) rfl; exact ob_value (v := .bool b) (w' := w) (by simp [execOp, Act.eval, go_sem, h13, h15, hb]) (Below.refl _ _) rfl), ?_⟩
  refine ⟨duty_met (j := 9) (b := false) rfl (by simp) rfl rfl (by simp) (fun _ _ h => h) (fun act' w hF hB hE Q => by have h11 : T act' 155 = .bool b := hE ⟨11, .data⟩ (by simp) rfl; have h16 : T act' 160 = .bool b := hE ⟨16, .data⟩ (by simp) rfl; have hbb : (binOp .neq 4 (.bool b) (.bool b)).run Try.prog w = .ok (.bool false) w := (by cases b <;> kernel_rfl); exact ob_value (v := .bool false) (w' := w) (by cases b <;> simp [execOp, Act.eval, go_sem, h11, h16]) (Below.refl _ _) rfl), ?_⟩
  refine ⟨duty_free rfl (by simp) rfl (fun act' w hF hB hE Q => by have h9 : T act' 153 = .bool false := hE ⟨9, .data⟩ (by simp) rfl; have h17 : T act' 161 = .bool false := hE ⟨17, .data⟩ (by simp) rfl; exact ob_value (v := .bool false) (w' := w) (by simp [execOp, Act.eval, go_sem, h9, h17]) (Below.refl _ _) rfl), ?_⟩
  refine ⟨duty_free rfl (by simp) rfl (fun act' w hF hB hE Q => by have h18 : T act' 162 = .bool false := hE ⟨18, .data⟩ (by simp) rfl; exact ob_value (v := .bool false) (w' := w) (by simp [execOp, Act.eval, go_sem, h18]) (Below.refl _ _) rfl), ?_⟩
  refine ⟨duty_met (j := 19) (b := false) rfl (by simp) rfl rfl (by simp) (fun _ _ h => h) (fun act' w hF hB hE Q => by have f5 := hF.slot (k := 5) (by omega) q5; exact ob_value (v := .pointer (some ⟨D, 0, none⟩)) (w' := w) (by simp [execOp, Act.eval, go_sem, f5]) (Below.refl _ _) rfl), ?_⟩
  refine ⟨duty_met (j := 19) (b := false) rfl (by simp) rfl rfl (by simp) (fun _ _ h => h) (fun act' w hF hB hE Q => by have h20 : T act' 164 = .pointer (some ⟨D, 0, none⟩) := hE ⟨20, .data⟩ (by simp) rfl; exact ob_call1 rfl (fun args w => by simp [go_sem]) h20 ((HWT w hB).mono (fun e w' h => ⟨_, h.1, h.2, rfl⟩))), ?_⟩
  refine ⟨duty_met (j := 19) (b := false) rfl (by simp) rfl rfl (by simp) (fun _ _ h => h) (fun act' w hF hB hE Q => by have f7 := hF.slot (k := 7) (by omega) q7; exact ob_value (v := .pointer (some ⟨W, 0, none⟩)) (w' := w) (by simp [execOp, Act.eval, go_sem, f7]) (Below.refl _ _) rfl), ?_⟩
  refine ⟨duty_met (j := 19) (b := false) rfl (by simp) rfl rfl (by simp) (fun _ _ h => h) (fun act' w hF hB hE Q => by have h22 : T act' 166 = .pointer (some ⟨W, 0, none⟩) := hE ⟨22, .data⟩ (by simp) rfl; exact ob_value (v := .pointer (some ⟨W, 0, none⟩)) (w' := w) (by simp [execOp, Act.eval, go_sem, h22]) (Below.refl _ _) rfl), ?_⟩
  refine ⟨duty_met (j := 19) (b := false) rfl (by simp) rfl rfl (by simp) (fun _ _ h => h) (fun act' w hF hB hE Q => by have h23 : T act' 167 = .pointer (some ⟨W, 0, none⟩) := hE ⟨23, .data⟩ (by simp) rfl; exact ob_value (v := .pointer (some ⟨W, 8, none⟩)) (w' := w) (by simp [execOp, Act.eval, go_sem, h23]) (Below.refl _ _) rfl), ?_⟩
  refine ⟨duty_met (j := 19) (b := false) rfl (by simp) rfl rfl (by simp) (fun _ _ h => h) (fun act' w hF hB hE Q => by have h24 : T act' 168 = .pointer (some ⟨W, 8, none⟩) := hE ⟨24, .data⟩ (by simp) rfl; have x0 := cell_later hB _ _ _ c8; exact ob_value (v := .int .i64 (wt : Nat)) (w' := w) (by simp [execOp, Act.eval, go_sem, h24, x0]) (Below.refl _ _) rfl), ?_⟩
  refine ⟨duty_met (j := 19) (b := false) rfl (by simp) rfl rfl (by simp) (fun _ _ h => h) (fun act' w hF hB hE Q => by have h21 : T act' 165 = .int .i64 (wt : Nat) := hE ⟨21, .data⟩ (by simp) rfl; have h25 : T act' 169 = .int .i64 (wt : Nat) := hE ⟨25, .data⟩ (by simp) rfl; exact ob_value (v := .bool false) (w' := w) (by simp [execOp, Act.eval, go_sem, h21, h25]) (Below.refl _ _) rfl), ?_⟩
  refine ⟨duty_free rfl (by simp) rfl (fun act' w hF hB hE Q => by have h19 : T act' 163 = .bool false := hE ⟨19, .data⟩ (by simp) rfl; have h26 : T act' 170 = .bool false := hE ⟨26, .data⟩ (by simp) rfl; exact ob_value (v := .bool false) (w' := w) (by simp [execOp, Act.eval, go_sem, h19, h26]) (Below.refl _ _) rfl), ?_⟩
  exact trivial
end Go.Proofs.Ytmdhlaccioaomaa
