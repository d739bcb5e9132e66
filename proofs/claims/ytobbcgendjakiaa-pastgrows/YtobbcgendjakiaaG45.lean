/- PastGrows: the regions that hold what is known now against what was known (typed by gen/pagreg.py). -/
import Derived.Test.YtobbcgendjakiaaG44
namespace Go.Proofs.Ytobbcgendjakiaa
open Go.RowKit Go.Maps Sf

theorem slice_to {t e : TypeId} (ht : Try.prog.underlying t = some (.slice e)) {u : World} {b0 : Nat} {et : TypeId} {la : Option Addr} {ml lc k : Nat} {xs : List Value} (h : u.ownsRow b0 et 1 (.slice la ml lc) ml xs) (hk : k ≤ ml) (hl : ml ≤ 100000000000) (hsz : ∀ w, (sizeOf e).run Try.prog w = .ok 1 w) (w : World) : (Instr.sliceAt t (.slice la ml lc) none (some (.int .i64 (k : Nat))) none).run Try.prog w = .ok (.slice la k lc) w := by
  have hc : ml ≤ lc := by
    rcases h.2 with ⟨e, h0⟩ | ⟨g, cap, cur, e, _, _, h1, _⟩
    · cases e; omega
    · cases e; exact h1
  have hkc : (k : Int) ≤ (lc : Int) := by omega
  have hu : ∀ v, (underlying t).run Try.prog v = .ok (.slice e) v := fun v => by simp [underlying, ht]
  rcases h.2 with ⟨e0, h0⟩ | ⟨g, cap, cur, e0, _⟩
  · cases e0
    obtain rfl : k = 0 := by omega
    simp [Instr.sliceAt, Instr.slice, hu, hsz, go_sem]
  · have hva := (Value.slice.inj e0).1
    subst hva
    simp [Instr.sliceAt, Instr.slice, hu, hsz, go_sem, hkc, Addr.add]
def FrG (lo hi : Nat) (act a : Act) : Prop := a.tmps.size = 239 ∧ a.defers = act.defers ∧ ∀ k, (k < lo ∨ hi ≤ k) → a.tmps[k]? = act.tmps[k]?
theorem FrG.put {lo hi : Nat} {act a : Act} (h : FrG lo hi act a) {k : Nat} (hk : lo ≤ k ∧ k < hi) (v : Value) : FrG lo hi act (a.put (some k) v) := by
  obtain ⟨h1, h2, h3⟩ := h
  refine ⟨by simp [Act.put, h1], by simp [Act.put, h2], fun j hj => ?_⟩
  simp only [Act.put]
  rw [Array.getElem?_setIfInBounds_ne (by omega)]
  exact h3 j hj
theorem FrG.slot {lo hi : Nat} {act a : Act} (h : FrG lo hi act a) {k : Nat} (hk : k < lo) {v : Value} (hv : T act k = v) : T a k = v := by unfold T at hv ⊢; rw [h.2.2 k (.inl hk)]; exact hv
def laid42 (t : Array Value) (l : List Value) : Array Value := (t.toList.take 164 ++ (l ++ t.toList.drop 203)).toArray
set_option maxRecDepth 20000 in
theorem laid42_all {act a : Act} (h : FrG 164 203 act a) (hs : act.tmps.size = 239) (l : List Value) (hl : l.length = 39) (hv : ∀ i v, l[i]? = some v → T a (164 + i) = v) : a = ⟨laid42 act.tmps l, act.defers⟩ := by
  have hs' : act.tmps.toList.length = 239 := by simpa using hs
  have ht : a.tmps = laid42 act.tmps l := by
    apply Array.ext_getElem?
    intro j
    unfold laid42
    show a.tmps[j]? = (act.tmps.toList.take 164 ++ (l ++ act.tmps.toList.drop 203)).toArray[j]?
    rw [show (act.tmps.toList.take 164 ++ (l ++ act.tmps.toList.drop 203)).toArray[j]? = (act.tmps.toList.take 164 ++ (l ++ act.tmps.toList.drop 203))[j]? from List.getElem?_toArray]
    by_cases h1 : j < 164
    · rw [List.getElem?_append_left (by rw [List.length_take]; omega), List.getElem?_take_of_lt h1, h.2.2 j (.inl h1)]
      simp
    · rw [List.getElem?_append_right (by rw [List.length_take]; omega), List.length_take, show min 164 act.tmps.toList.length = 164 by omega]
      by_cases h2 : j < 203
      · rw [List.getElem?_append_left (by omega)]
        have e := hv (j - 164) l[j - 164] (List.getElem?_eq_getElem (by omega))
        rw [List.getElem?_eq_getElem (by omega), ← e]
        unfold T
        rw [show 164 + (j - 164) = j by omega, Array.getElem?_eq_getElem (by rw [h.1]; omega)]
        rfl
      · rw [List.getElem?_append_right (by omega), List.getElem?_drop, hl, show 203 + (j - 164 - 39) = j by omega, h.2.2 j (.inr (by omega))]
        simp
  cases a
  simp only at ht
  have := h.2.1
  simp only at this
  rw [ht, this]
set_option linter.unusedVariables false in
def R42 (la aa xa ya : Option Addr) (ml lc ac k xc yc b9 c9 b10 c10 n g : Nat) : Nat → Value → World → Prop
  | 0, v, _ => v = .slice la ml lc
  | 1, v, _ => v = .int .i64 (ml : Nat)
  | 2, v, _ => v = .int .i64 (k : Nat)
  | 3, v, _ => v = .bool false
  | 4, v, _ => v = .bool false
  | 5, v, _ => v = .slice aa ml ac
  | 6, v, _ => v = .int .i64 (ml : Nat)
  | 7, v, _ => v = .slice la ml lc
  | 8, v, _ => v = .int .i64 (ml : Nat)
  | 9, v, _ => v = .bool false
  | 10, v, _ => v = .bool false
  | 11, v, _ => v = .bool false
  | 12, v, _ => v = .slice la ml lc
  | 13, v, _ => v = .int .i64 (k : Nat)
  | 14, v, _ => v = .slice la k lc
  | 15, v, _ => v = .slice (some ⟨b9, 0, none⟩) 400 c9
  | 16, v, _ => v = .int .i64 (n : Nat)
  | 17, v, _ => v = .int .i64 (10 * (n : Int))
  | 18, v, _ => v = .int .i64 (g : Nat)
  | 19, v, _ => v = .int .i64 (10 * (n : Int) + (g : Int))
  | 20, v, _ => v = .pointer (some ⟨b9, 10 * n + g, none⟩)
  | 21, v, _ => v = .slice xa k xc
  | 22, v, _ => v = .bool true
  | 23, v, _ => v = .bool false
  | 24, v, _ => v = .bool false
  | 25, v, _ => v = .bool false
  | 26, v, _ => v = .slice aa ml ac
  | 27, v, _ => v = .int .i64 (k : Nat)
  | 28, v, _ => v = .slice aa k ac
  | 29, v, _ => v = .slice (some ⟨b10, 0, none⟩) 400 c10
  | 30, v, _ => v = .int .i64 (n : Nat)
  | 31, v, _ => v = .int .i64 (10 * (n : Int))
  | 32, v, _ => v = .int .i64 (g : Nat)
  | 33, v, _ => v = .int .i64 (10 * (n : Int) + (g : Int))
  | 34, v, _ => v = .pointer (some ⟨b10, 10 * n + g, none⟩)
  | 35, v, _ => v = .slice ya k yc
  | 36, v, _ => v = .bool true
  | 37, v, _ => v = .bool false
  | 38, v, _ => v = .bool false
  | _, _, _ => True
set_option linter.unusedVariables false in
set_option linter.unusedSimpArgs false in
set_option maxRecDepth 100000 in
set_option maxHeartbeats 8000000 in
theorem reg42 (la aa xa ya : Option Addr) (ml lc ac k xc yc b9 c9 b10 c10 n g : Nat) {act : Act} {w0 : World} {Q : Exit → Act → World → Prop} {ops : Array Oper} {new : Array Value} (hops : ops = opsOf Try.f3 42) (hsz : act.tmps.size = 239) (q9 : T act 9 = .slice (some ⟨b9, 0, none⟩) 400 c9) (q10 : T act 10 = .slice (some ⟨b10, 0, none⟩) 400 c10) (q18 : T act 18 = .int .i64 (n : Nat)) (q19 : T act 19 = .int .i64 (g : Nat)) (q20 : T act 20 = .slice la ml lc) (q21 : T act 21 = .slice aa ml ac) (q22 : T act 22 = .int .i64 (k : Nat)) (t1 : ¬ (ml : Int) < (k : Int)) (sl1 : ∀ w, (Instr.sliceAt 38 (.slice la ml lc) none (some (.int .i64 (k : Nat))) none).run Try.prog w = .ok (.slice la k lc) w) (sl2 : ∀ w, (Instr.sliceAt 34 (.slice aa ml ac) none (some (.int .i64 (k : Nat))) none).run Try.prog w = .ok (.slice aa k ac) w) (wr1 : IntKind.i64.wrap (10 * (n : Int)) = 10 * (n : Int)) (wr2 : IntKind.i64.wrap (10 * (n : Int) + (g : Int)) = 10 * (n : Int) + (g : Int)) (ix1 : 0 ≤ 10 * (n : Int) + (g : Int)) (ix2 : 10 * (n : Int) + (g : Int) < 400) (ix3 : (10 * (n : Int) + (g : Int)).toNat = 10 * n + g) (cX : w0.cell? ⟨b9, 10 * n + g, none⟩ = some (.slice xa k xc)) (cY : w0.cell? ⟨b10, 10 * n + g, none⟩ = some (.slice ya k yc)) (HS1 : ∀ u, Below w0.heap.size w0 u → Calls Try.prog 10 #[.slice la k lc, .slice xa k xc] u fun e u' => e = .returned (.bool true) ∧ Below u.heap.size u u') (HS2 : ∀ u, Below w0.heap.size w0 u → Calls Try.prog 11 #[.slice aa k ac, .slice ya k yc] u fun e u' => e = .returned (.bool true) ∧ Below u.heap.size u u')
    (hnew : laid42 act.tmps [.slice la ml lc, .int .i64 (ml : Nat), .int .i64 (k : Nat), .bool false, .bool false, .slice aa ml ac, .int .i64 (ml : Nat), .slice la ml lc, .int .i64 (ml : Nat), .bool false, .bool false, .bool false, .slice la ml lc, .int .i64 (k : Nat), .slice la k lc, .slice (some ⟨b9, 0, none⟩) 400 c9, .int .i64 (n : Nat), .int .i64 (10 * (n : Int)), .int .i64 (g : Nat), .int .i64 (10 * (n : Int) + (g : Int)), .pointer (some ⟨b9, 10 * n + g, none⟩), .slice xa k xc, .bool true, .bool false, .bool false, .bool false, .slice aa ml ac, .int .i64 (k : Nat), .slice aa k ac, .slice (some ⟨b10, 0, none⟩) 400 c10, .int .i64 (n : Nat), .int .i64 (10 * (n : Int)), .int .i64 (g : Nat), .int .i64 (10 * (n : Int) + (g : Int)), .pointer (some ⟨b10, 10 * n + g, none⟩), .slice ya k yc, .bool true, .bool false, .bool false] = new) (K : ∀ w', Below w0.heap.size w0 w' → Q .normal ⟨new, act.defers⟩ w') : (Code.region 42 ops true).wp Try.prog Q act w0 := by
  subst hops
  subst hnew
  have hnn : (opsOf Try.f3 42).size = 39 := by kernel_rfl
  refine wp_region_slots (by kernel_rfl) (fun i => 164 + i) (R42 la aa xa ya ml lc ac k xc yc b9 c9 b10 c10 n g) (FrG 164 203 act) (fun i v w w' h _ => ?_) (fun _ i v hi h => h.put (by omega) v) (fun _ i hi h => by rw [h.1]; show 164 + i < 239; omega) (fun i j _ _ h => by have h : 164 + i = 164 + j := h; omega) ?_ (fun y w h1 h2 h3 => ?_) ⟨hsz, rfl, fun _ _ => rfl⟩
  · unfold R42 at h ⊢
    split at h <;> exact h
  rotate_left
  · have e := laid42_all h1 hsz [.slice la ml lc, .int .i64 (ml : Nat), .int .i64 (k : Nat), .bool false, .bool false, .slice aa ml ac, .int .i64 (ml : Nat), .slice la ml lc, .int .i64 (ml : Nat), .bool false, .bool false, .bool false, .slice la ml lc, .int .i64 (k : Nat), .slice la k lc, .slice (some ⟨b9, 0, none⟩) 400 c9, .int .i64 (n : Nat), .int .i64 (10 * (n : Int)), .int .i64 (g : Nat), .int .i64 (10 * (n : Int) + (g : Int)), .pointer (some ⟨b9, 10 * n + g, none⟩), .slice xa k xc, .bool true, .bool false, .bool false, .bool false, .slice aa ml ac, .int .i64 (k : Nat), .slice aa k ac, .slice (some ⟨b10, 0, none⟩) 400 c10, .int .i64 (n : Nat), .int .i64 (10 * (n : Int)), .int .i64 (g : Nat), .int .i64 (10 * (n : Int) + (g : Int)), .pointer (some ⟨b10, 10 * n + g, none⟩), .slice ya k yc, .bool true, .bool false, .bool false] rfl (fun i v hv => ?_)
    · rw [e]; exact K w h2
    · have hi : i < 39 := (List.getElem?_eq_some_iff.1 hv).1
      have h := h3 i (by omega)
      match i, hi, hv, h with
      | 0, _, hv, h => exact (show T y (164 + 0) = _ from h).trans (Option.some.inj hv)
      | 1, _, hv, h => exact (show T y (164 + 1) = _ from h).trans (Option.some.inj hv)
      | 2, _, hv, h => exact (show T y (164 + 2) = _ from h).trans (Option.some.inj hv)
      | 3, _, hv, h => exact (show T y (164 + 3) = _ from h).trans (Option.some.inj hv)
      | 4, _, hv, h => exact (show T y (164 + 4) = _ from h).trans (Option.some.inj hv)
      | 5, _, hv, h => exact (show T y (164 + 5) = _ from h).trans (Option.some.inj hv)
      | 6, _, hv, h => exact (show T y (164 + 6) = _ from h).trans (Option.some.inj hv)
      | 7, _, hv, h => exact (show T y (164 + 7) = _ from h).trans (Option.some.inj hv)
      | 8, _, hv, h => exact (show T y (164 + 8) = _ from h).trans (Option.some.inj hv)
      | 9, _, hv, h => exact (show T y (164 + 9) = _ from h).trans (Option.some.inj hv)
      | 10, _, hv, h => exact (show T y (164 + 10) = _ from h).trans (Option.some.inj hv)
      | 11, _, hv, h => exact (show T y (164 + 11) = _ from h).trans (Option.some.inj hv)
      | 12, _, hv, h => exact (show T y (164 + 12) = _ from h).trans (Option.some.inj hv)
      | 13, _, hv, h => exact (show T y (164 + 13) = _ from h).trans (Option.some.inj hv)
      | 14, _, hv, h => exact (show T y (164 + 14) = _ from h).trans (Option.some.inj hv)
      | 15, _, hv, h => exact (show T y (164 + 15) = _ from h).trans (Option.some.inj hv)
      | 16, _, hv, h => exact (show T y (164 + 16) = _ from h).trans (Option.some.inj hv)
      | 17, _, hv, h => exact (show T y (164 + 17) = _ from h).trans (Option.some.inj hv)
      | 18, _, hv, h => exact (show T y (164 + 18) = _ from h).trans (Option.some.inj hv)
      | 19, _, hv, h => exact (show T y (164 + 19) = _ from h).trans (Option.some.inj hv)
      | 20, _, hv, h => exact (show T y (164 + 20) = _ from h).trans (Option.some.inj hv)
      | 21, _, hv, h => exact (show T y (164 + 21) = _ from h).trans (Option.some.inj hv)
      | 22, _, hv, h => exact (show T y (164 + 22) = _ from h).trans (Option.some.inj hv)
      | 23, _, hv, h => exact (show T y (164 + 23) = _ from h).trans (Option.some.inj hv)
      | 24, _, hv, h => exact (show T y (164 + 24) = _ from h).trans (Option.some.inj hv)
      | 25, _, hv, h => exact (show T y (164 + 25) = _ from h).trans (Option.some.inj hv)
      | 26, _, hv, h => exact (show T y (164 + 26) = _ from h).trans (Option.some.inj hv)
      | 27, _, hv, h => exact (show T y (164 + 27) = _ from h).trans (Option.some.inj hv)
      | 28, _, hv, h => exact (show T y (164 + 28) = _ from h).trans (Option.some.inj hv)
      | 29, _, hv, h => exact (show T y (164 + 29) = _ from h).trans (Option.some.inj hv)
      | 30, _, hv, h => exact (show T y (164 + 30) = _ from h).trans (Option.some.inj hv)
      | 31, _, hv, h => exact (show T y (164 + 31) = _ from h).trans (Option.some.inj hv)
      | 32, _, hv, h => exact (show T y (164 + 32) = _ from h).trans (Option.some.inj hv)
      | 33, _, hv, h => exact (show T y (164 + 33) = _ from h).trans (Option.some.inj hv)
      | 34, _, hv, h => exact (show T y (164 + 34) = _ from h).trans (Option.some.inj hv)
      | 35, _, hv, h => exact (show T y (164 + 35) = _ from h).trans (Option.some.inj hv)
      | 36, _, hv, h => exact (show T y (164 + 36) = _ from h).trans (Option.some.inj hv)
      | 37, _, hv, h => exact (show T y (164 + 37) = _ from h).trans (Option.some.inj hv)
      | 38, _, hv, h => exact (show T y (164 + 38) = _ from h).trans (Option.some.inj hv)
  refine ⟨duty_free rfl (by simp) rfl (fun act' w hF hB hE Q => by have f20 := hF.slot (k := 20) (by omega) q20; exact ob_value (v := .slice la ml lc) (w' := w) (by simp [execOp, Act.eval, go_sem, f20]) (Below.refl _ _) rfl), ?_⟩
  refine ⟨duty_free rfl (by simp) rfl (fun act' w hF hB hE Q => by have h0 : T act' 164 = .slice la ml lc := hE ⟨0, .data⟩ (by simp) rfl; exact ob_value (v := .int .i64 (ml : Nat)) (w' := w) (by simp [execOp, Act.eval, go_sem, h0]) (Below.refl _ _) rfl), ?_⟩
  refine ⟨duty_free rfl (by simp) rfl (fun act' w hF hB hE Q => by have f22 := hF.slot (k := 22) (by omega) q22; exact ob_value (v := .int .i64 (k : Nat)) (w' := w) (by simp [execOp, Act.eval, go_sem, f22]) (Below.refl _ _) rfl), ?_⟩
  refine ⟨duty_free rfl (by simp) rfl (fun act' w hF hB hE Q => by have h1 : T act' 165 = .int .i64 (ml : Nat) := hE ⟨1, .data⟩ (by simp) rfl; have h2 : T act' 166 = .int .i64 (k : Nat) := hE ⟨2, .data⟩ (by simp) rfl; exact ob_value (v := .bool false) (w' := w) (by simp [execOp, Act.eval, go_sem, h1, h2, t1]) (Below.refl _ _) rfl), ?_⟩
  refine ⟨duty_free rfl (by simp) rfl (fun act' w hF hB hE Q => by have h3 : T act' 167 = .bool false := hE ⟨3, .data⟩ (by simp) rfl; exact ob_value (v := .bool false) (w' := w) (by simp [execOp, Act.eval, go_sem, h3]) (Below.refl _ _) rfl), ?_⟩
  refine ⟨duty_met (j := 4) (b := false) rfl (by simp) rfl rfl (by simp) (fun _ _ h => h) (fun act' w hF hB hE Q => by have f21 := hF.slot (k := 21) (by omega) q21; exact ob_value (v := .slice aa ml ac) (w' := w) (by simp [execOp, Act.eval, go_sem, f21]) (Below.refl _ _) rfl), ?_⟩
  refine ⟨duty_met (j := 4) (b := false) rfl (by simp) rfl rfl (by simp) (fun _ _ h => h) (fun act' w hF hB hE Q => by have h5 : T act' 169 = .slice aa ml ac := hE ⟨5, .data⟩ (by simp) rfl; exact ob_value (v := .int .i64 (ml : Nat)) (w' := w) (by simp [execOp, Act.eval, go_sem, h5]) (Below.refl _ _) rfl), ?_⟩
  refine ⟨duty_met (j := 4) (b := false) rfl (by simp) rfl rfl (by simp) (fun _ _ h => h) (fun act' w hF hB hE Q => by have f20 := hF.slot (k := 20) (by omega) q20; exact ob_value (v := .slice la ml lc) (w' := w) (by simp [execOp, Act.eval, go_sem, f20]) (Below.refl _ _) rfl), ?_⟩
  refine ⟨duty_met (j := 4) (b := false) rfl (by simp) rfl rfl (by simp) (fun _ _ h => h) (fun act' w hF hB hE Q => by have h7 : T act' 171 = .slice la ml lc := hE ⟨7, .data⟩ (by simp) rfl; exact ob_value (v := .int .i64 (ml : Nat)) (w' := w) (by simp [execOp, Act.eval, go_sem, h7]) (Below.refl _ _) rfl), ?_⟩
  refine ⟨duty_met (j := 4) (b := false) rfl (by simp) rfl rfl (by simp) (fun _ _ h => h) (fun act' w hF hB hE Q => by have h6 : T act' 170 = .int .i64 (ml : Nat) := hE ⟨6, .data⟩ (by simp) rfl; have h8 : T act' 172 = .int .i64 (ml : Nat) := hE ⟨8, .data⟩ (by simp) rfl; exact ob_value (v := .bool false) (w' := w) (by simp [execOp, Act.eval, go_sem, h6, h8]) (Below.refl _ _) rfl), ?_⟩
  refine ⟨duty_free rfl (by simp) rfl (fun act' w hF hB hE Q => by have h4 : T act' 168 = .bool false := hE ⟨4, .data⟩ (by simp) rfl; have h9 : T act' 173 = .bool false := hE ⟨9, .data⟩ (by simp) rfl; exact ob_value (v := .bool false) (w' := w) (by simp [execOp, Act.eval, go_sem, h4, h9]) (Below.refl _ _) rfl), ?_⟩
  refine ⟨duty_free rfl (by simp) rfl (fun act' w hF hB hE Q => by have h10 : T act' 174 = .bool false := hE ⟨10, .data⟩ (by simp) rfl; exact ob_value (v := .bool false) (w' := w) (by simp [execOp, Act.eval, go_sem, h10]) (Below.refl _ _) rfl), ?_⟩
  refine ⟨duty_met (j := 11) (b := false) rfl (by simp) rfl rfl (by simp) (fun _ _ h => h) (fun act' w hF hB hE Q => by have f20 := hF.slot (k := 20) (by omega) q20; exact ob_value (v := .slice la ml lc) (w' := w) (by simp [execOp, Act.eval, go_sem, f20]) (Below.refl _ _) rfl), ?_⟩
  refine ⟨duty_met (j := 11) (b := false) rfl (by simp) rfl rfl (by simp) (fun _ _ h => h) (fun act' w hF hB hE Q => by have f22 := hF.slot (k := 22) (by omega) q22; exact ob_value (v := .int .i64 (k : Nat)) (w' := w) (by simp [execOp, Act.eval, go_sem, f22]) (Below.refl _ _) rfl), ?_⟩
  refine ⟨duty_met (j := 11) (b := false) rfl (by simp) rfl rfl (by simp) (fun _ _ h => h) (fun act' w hF hB hE Q => by have h12 : T act' 176 = .slice la ml lc := hE ⟨12, .data⟩ (by simp) rfl; have h13 : T act' 177 = .int .i64 (k : Nat) := hE ⟨13, .data⟩ (by simp) rfl; exact ob_value (v := .slice la k lc) (w' := w) (by simp [execOp, Act.eval, h12, h13, sl1 w]) (Below.refl _ _) rfl), ?_⟩
  refine ⟨duty_met (j := 11) (b := false) rfl (by simp) rfl rfl (by simp) (fun _ _ h => h) (fun act' w hF hB hE Q => by have f9 := hF.slot (k := 9) (by omega) q9; exact ob_value (v := .slice (some ⟨b9, 0, none⟩) 400 c9) (w' := w) (by simp [execOp, Act.eval, go_sem, f9]) (Below.refl _ _) rfl), ?_⟩
  refine ⟨duty_met (j := 11) (b := false) rfl (by simp) rfl rfl (by simp) (fun _ _ h => h) (fun act' w hF hB hE Q => by have f18 := hF.slot (k := 18) (by omega) q18; exact ob_value (v := .int .i64 (n : Nat)) (w' := w) (by simp [execOp, Act.eval, go_sem, f18]) (Below.refl _ _) rfl), ?_⟩
  refine ⟨duty_met (j := 11) (b := false) rfl (by simp) rfl rfl (by simp) (fun _ _ h => h) (fun act' w hF hB hE Q => by have h16 : T act' 180 = .int .i64 (n : Nat) := hE ⟨16, .data⟩ (by simp) rfl; exact ob_value (v := .int .i64 (10 * (n : Int))) (w' := w) (by simp [execOp, Act.eval, go_sem, h16, wr1]) (Below.refl _ _) rfl), ?_⟩
  refine ⟨duty_met (j := 11) (b := false) rfl (by simp) rfl rfl (by simp) (fun _ _ h => h) (fun act' w hF hB hE Q => by have f19 := hF.slot (k := 19) (by omega) q19; exact ob_value (v := .int .i64 (g : Nat)) (w' := w) (by simp [execOp, Act.eval, go_sem, f19]) (Below.refl _ _) rfl), ?_⟩
  refine ⟨duty_met (j := 11) (b := false) rfl (by simp) rfl rfl (by simp) (fun _ _ h => h) (fun act' w hF hB hE Q => by have h17 : T act' 181 = .int .i64 (10 * (n : Int)) := hE ⟨17, .data⟩ (by simp) rfl; have h18 : T act' 182 = .int .i64 (g : Nat) := hE ⟨18, .data⟩ (by simp) rfl; exact ob_value (v := .int .i64 (10 * (n : Int) + (g : Int))) (w' := w) (by simp [execOp, Act.eval, go_sem, h17, h18, wr2]) (Below.refl _ _) rfl), ?_⟩
  refine ⟨duty_met (j := 11) (b := false) rfl (by simp) rfl rfl (by simp) (fun _ _ h => h) (fun act' w hF hB hE Q => by have h15 : T act' 179 = .slice (some ⟨b9, 0, none⟩) 400 c9 := hE ⟨15, .data⟩ (by simp) rfl; have h19 : T act' 183 = .int .i64 (10 * (n : Int) + (g : Int)) := hE ⟨19, .data⟩ (by simp) rfl; exact ob_value (v := .pointer (some ⟨b9, 10 * n + g, none⟩)) (w' := w) (by simp [execOp, Act.eval, go_sem, h15, h19, ix1, ix2, ix3]) (Below.refl _ _) rfl), ?_⟩
  refine ⟨duty_met (j := 11) (b := false) rfl (by simp) rfl rfl (by simp) (fun _ _ h => h) (fun act' w hF hB hE Q => by have h20 : T act' 184 = .pointer (some ⟨b9, 10 * n + g, none⟩) := hE ⟨20, .data⟩ (by simp) rfl; have x0 := cell_later hB _ _ _ cX; exact ob_value (v := .slice xa k xc) (w' := w) (by simp [execOp, Act.eval, go_sem, h20, x0]) (Below.refl _ _) rfl), ?_⟩
  refine ⟨duty_met (j := 11) (b := false) rfl (by simp) rfl rfl (by simp) (fun _ _ h => h) (fun act' w hF hB hE Q => by have h14 : T act' 178 = .slice la k lc := hE ⟨14, .data⟩ (by simp) rfl; have h21 : T act' 185 = .slice xa k xc := hE ⟨21, .data⟩ (by simp) rfl; exact ob_call2 rfl (fun args w => by simp [go_sem]) h14 h21 ((HS1 w hB).mono (fun e w' h => ⟨.bool true, h.1, h.2, rfl⟩))), ?_⟩
  refine ⟨duty_met (j := 11) (b := false) rfl (by simp) rfl rfl (by simp) (fun _ _ h => h) (fun act' w hF hB hE Q => by have h22 : T act' 186 = .bool true := hE ⟨22, .data⟩ (by simp) rfl; exact ob_value (v := .bool false) (w' := w) (by simp [execOp, Act.eval, go_sem, h22]) (Below.refl _ _) rfl), ?_⟩
  refine ⟨duty_free rfl (by simp) rfl (fun act' w hF hB hE Q => by have h11 : T act' 175 = .bool false := hE ⟨11, .data⟩ (by simp) rfl; have h23 : T act' 187 = .bool false := hE ⟨23, .data⟩ (by simp) rfl; exact ob_value (v := .bool false) (w' := w) (by simp [execOp, Act.eval, go_sem, h11, h23]) (Below.refl _ _) rfl), ?_⟩
  refine ⟨duty_free rfl (by simp) rfl (fun act' w hF hB hE Q => by have h24 : T act' 188 = .bool false := hE ⟨24, .data⟩ (by simp) rfl; exact ob_value (v := .bool false) (w' := w) (by simp [execOp, Act.eval, go_sem, h24]) (Below.refl _ _) rfl), ?_⟩
  refine ⟨duty_met (j := 25) (b := false) rfl (by simp) rfl rfl (by simp) (fun _ _ h => h) (fun act' w hF hB hE Q => by have f21 := hF.slot (k := 21) (by omega) q21; exact ob_value (v := .slice aa ml ac) (w' := w) (by simp [execOp, Act.eval, go_sem, f21]) (Below.refl _ _) rfl), ?_⟩
  refine ⟨duty_met (j := 25) (b := false) rfl (by simp) rfl rfl (by simp) (fun _ _ h => h) (fun act' w hF hB hE Q => by have f22 := hF.slot (k := 22) (by omega) q22; exact ob_value (v := .int .i64 (k : Nat)) (w' := w) (by simp [execOp, Act.eval, go_sem, f22]) (Below.refl _ _) rfl), ?_⟩
  refine ⟨duty_met (j := 25) (b := false) rfl (by simp) rfl rfl (by simp) (fun _ _ h => h) (fun act' w hF hB hE Q => by have h26 : T act' 190 = .slice aa ml ac := hE ⟨26, .data⟩ (by simp) rfl; have h27 : T act' 191 = .int .i64 (k : Nat) := hE ⟨27, .data⟩ (by simp) rfl; exact ob_value (v := .slice aa k ac) (w' := w) (by simp [execOp, Act.eval, h26, h27, sl2 w]) (Below.refl _ _) rfl), ?_⟩
  refine ⟨duty_met (j := 25) (b := false) rfl (by simp) rfl rfl (by simp) (fun _ _ h => h) (fun act' w hF hB hE Q => by have f10 := hF.slot (k := 10) (by omega) q10; exact ob_value (v := .slice (some ⟨b10, 0, none⟩) 400 c10) (w' := w) (by simp [execOp, Act.eval, go_sem, f10]) (Below.refl _ _) rfl), ?_⟩
  refine ⟨duty_met (j := 25) (b := false) rfl (by simp) rfl rfl (by simp) (fun _ _ h => h) (fun act' w hF hB hE Q => by have f18 := hF.slot (k := 18) (by omega) q18; exact ob_value (v := .int .i64 (n : Nat)) (w' := w) (by simp [execOp, Act.eval, go_sem, f18]) (Below.refl _ _) rfl), ?_⟩
  refine ⟨duty_met (j := 25) (b := false) rfl (by simp) rfl rfl (by simp) (fun _ _ h => h) (fun act' w hF hB hE Q => by have h30 : T act' 194 = .int .i64 (n : Nat) := hE ⟨30, .data⟩ (by simp) rfl; exact ob_value (v := .int .i64 (10 * (n : Int))) (w' := w) (by simp [execOp, Act.eval, go_sem, h30, wr1]) (Below.refl _ _) rfl), ?_⟩
  refine ⟨duty_met (j := 25) (b := false) rfl (by simp) rfl rfl (by simp) (fun _ _ h => h) (fun act' w hF hB hE Q => by have f19 := hF.slot (k := 19) (by omega) q19; exact ob_value (v := .int .i64 (g : Nat)) (w' := w) (by simp [execOp, Act.eval, go_sem, f19]) (Below.refl _ _) rfl), ?_⟩
  refine ⟨duty_met (j := 25) (b := false) rfl (by simp) rfl rfl (by simp) (fun _ _ h => h) (fun act' w hF hB hE Q => by have h31 : T act' 195 = .int .i64 (10 * (n : Int)) := hE ⟨31, .data⟩ (by simp) rfl; have h32 : T act' 196 = .int .i64 (g : Nat) := hE ⟨32, .data⟩ (by simp) rfl; exact ob_value (v := .int .i64 (10 * (n : Int) + (g : Int))) (w' := w) (by simp [execOp, Act.eval, go_sem, h31, h32, wr2]) (Below.refl _ _) rfl), ?_⟩
  refine ⟨duty_met (j := 25) (b := false) rfl (by simp) rfl rfl (by simp) (fun _ _ h => h) (fun act' w hF hB hE Q => by have h29 : T act' 193 = .slice (some ⟨b10, 0, none⟩) 400 c10 := hE ⟨29, .data⟩ (by simp) rfl; have h33 : T act' 197 = .int .i64 (10 * (n : Int) + (g : Int)) := hE ⟨33, .data⟩ (by simp) rfl; exact ob_value (v := .pointer (some ⟨b10, 10 * n + g, none⟩)) (w' := w) (by simp [execOp, Act.eval, go_sem, h29, h33, ix1, ix2, ix3]) (Below.refl _ _) rfl), ?_⟩
  refine ⟨duty_met (j := 25) (b := false) rfl (by simp) rfl rfl (by simp) (fun _ _ h => h) (fun act' w hF hB hE Q => by have h34 : T act' 198 = .pointer (some ⟨b10, 10 * n + g, none⟩) := hE ⟨34, .data⟩ (by simp) rfl; have x0 := cell_later hB _ _ _ cY; exact ob_value (v := .slice ya k yc) (w' := w) (by simp [execOp, Act.eval, go_sem, h34, x0]) (Below.refl _ _) rfl), ?_⟩
  refine ⟨duty_met (j := 25) (b := false) rfl (by simp) rfl rfl (by simp) (fun _ _ h => h) (fun act' w hF hB hE Q => by have h28 : T act' 192 = .slice aa k ac := hE ⟨28, .data⟩ (by simp) rfl; have h35 : T act' 199 = .slice ya k yc := hE ⟨35, .data⟩ (by simp) rfl; exact ob_call2 rfl (fun args w => by simp [go_sem]) h28 h35 ((HS2 w hB).mono (fun e w' h => ⟨.bool true, h.1, h.2, rfl⟩))), ?_⟩
  refine ⟨duty_met (j := 25) (b := false) rfl (by simp) rfl rfl (by simp) (fun _ _ h => h) (fun act' w hF hB hE Q => by have h36 : T act' 200 = .bool true := hE ⟨36, .data⟩ (by simp) rfl; exact ob_value (v := .bool false) (w' := w) (by simp [execOp, Act.eval, go_sem, h36]) (Below.refl _ _) rfl), ?_⟩
  refine ⟨duty_free rfl (by simp) rfl (fun act' w hF hB hE Q => by have h25 : T act' 189 = .bool false := hE ⟨25, .data⟩ (by simp) rfl; have h37 : T act' 201 = .bool false := hE ⟨37, .data⟩ (by simp) rfl; exact ob_value (v := .bool false) (w' := w) (by simp [execOp, Act.eval, go_sem, h25, h37]) (Below.refl _ _) rfl), ?_⟩
  exact trivial
def laid48 (t : Array Value) (l : List Value) : Array Value := (t.toList.take 215 ++ (l ++ t.toList.drop 238)).toArray
set_option maxRecDepth 20000 in
theorem laid48_all {act a : Act} (h : FrG 215 238 act a) (hs : act.tmps.size = 239) (l : List Value) (hl : l.length = 23) (hv : ∀ i v, l[i]? = some v → T a (215 + i) = v) : a = ⟨laid48 act.tmps l, act.defers⟩ := by
  have hs' : act.tmps.toList.length = 239 := by simpa using hs
  have ht : a.tmps = laid48 act.tmps l := by
    apply Array.ext_getElem?
    intro j
    unfold laid48
    show a.tmps[j]? = (act.tmps.toList.take 215 ++ (l ++ act.tmps.toList.drop 238)).toArray[j]?
    rw [show (act.tmps.toList.take 215 ++ (l ++ act.tmps.toList.drop 238)).toArray[j]? = (act.tmps.toList.take 215 ++ (l ++ act.tmps.toList.drop 238))[j]? from List.getElem?_toArray]
    by_cases h1 : j < 215
    · rw [List.getElem?_append_left (by rw [List.length_take]; omega), List.getElem?_take_of_lt h1, h.2.2 j (.inl h1)]
      simp
    · rw [List.getElem?_append_right (by rw [List.length_take]; omega), List.length_take, show min 215 act.tmps.toList.length = 215 by omega]
      by_cases h2 : j < 238
      · rw [List.getElem?_append_left (by omega)]
        have e := hv (j - 215) l[j - 215] (List.getElem?_eq_getElem (by omega))
        rw [List.getElem?_eq_getElem (by omega), ← e]
        unfold T
        rw [show 215 + (j - 215) = j by omega, Array.getElem?_eq_getElem (by rw [h.1]; omega)]
        rfl
      · rw [List.getElem?_append_right (by omega), List.getElem?_drop, hl, show 238 + (j - 215 - 23) = j by omega, h.2.2 j (.inr (by omega))]
        simp
  cases a
  simp only at ht
  have := h.2.1
  simp only at this
  rw [ht, this]
set_option linter.unusedVariables false in
def R48 (aa ya : Option Addr) (ml ac k yc b11 c11 q i : Nat) : Nat → Value → World → Prop
  | 0, v, _ => v = .slice aa ml ac
  | 1, v, _ => v = .int .i64 (ml : Nat)
  | 2, v, _ => v = .slice (some ⟨b11, 0, none⟩) q c11
  | 3, v, _ => v = .int .i64 (i : Nat)
  | 4, v, _ => v = .pointer (some ⟨b11, i, none⟩)
  | 5, v, _ => v = .slice ya k yc
  | 6, v, _ => v = .int .i64 (k : Nat)
  | 7, v, _ => v = .bool false
  | 8, v, _ => v = .bool false
  | 9, v, _ => v = .slice aa ml ac
  | 10, v, _ => v = .slice (some ⟨b11, 0, none⟩) q c11
  | 11, v, _ => v = .int .i64 (i : Nat)
  | 12, v, _ => v = .pointer (some ⟨b11, i, none⟩)
  | 13, v, _ => v = .slice ya k yc
  | 14, v, _ => v = .int .i64 (k : Nat)
  | 15, v, _ => v = .slice aa k ac
  | 16, v, _ => v = .slice (some ⟨b11, 0, none⟩) q c11
  | 17, v, _ => v = .int .i64 (i : Nat)
  | 18, v, _ => v = .pointer (some ⟨b11, i, none⟩)
  | 19, v, _ => v = .slice ya k yc
  | 20, v, _ => v = .bool true
  | 21, v, _ => v = .bool false
  | 22, v, _ => v = .bool false
  | _, _, _ => True
set_option linter.unusedVariables false in
set_option linter.unusedSimpArgs false in
set_option maxRecDepth 100000 in
set_option maxHeartbeats 8000000 in
theorem reg48 (aa ya : Option Addr) (ml ac k yc b11 c11 q i : Nat) {act : Act} {w0 : World} {Q : Exit → Act → World → Prop} {ops : Array Oper} {new : Array Value} (hops : ops = opsOf Try.f3 48) (hsz : act.tmps.size = 239) (q11 : T act 11 = .slice (some ⟨b11, 0, none⟩) q c11) (q23 : T act 23 = .int .i64 (i : Nat)) (q24 : T act 24 = .slice aa ml ac) (t1 : ¬ (ml : Int) < (k : Int)) (ix1 : (i : Int) < (q : Int)) (sl2 : ∀ w, (Instr.sliceAt 34 (.slice aa ml ac) none (some (.int .i64 (k : Nat))) none).run Try.prog w = .ok (.slice aa k ac) w) (cY : w0.cell? ⟨b11, i, none⟩ = some (.slice ya k yc)) (HS2 : ∀ u, Below w0.heap.size w0 u → Calls Try.prog 11 #[.slice aa k ac, .slice ya k yc] u fun e u' => e = .returned (.bool true) ∧ Below u.heap.size u u')
    (hnew : laid48 act.tmps [.slice aa ml ac, .int .i64 (ml : Nat), .slice (some ⟨b11, 0, none⟩) q c11, .int .i64 (i : Nat), .pointer (some ⟨b11, i, none⟩), .slice ya k yc, .int .i64 (k : Nat), .bool false, .bool false, .slice aa ml ac, .slice (some ⟨b11, 0, none⟩) q c11, .int .i64 (i : Nat), .pointer (some ⟨b11, i, none⟩), .slice ya k yc, .int .i64 (k : Nat), .slice aa k ac, .slice (some ⟨b11, 0, none⟩) q c11, .int .i64 (i : Nat), .pointer (some ⟨b11, i, none⟩), .slice ya k yc, .bool true, .bool false, .bool false] = new) (K : ∀ w', Below w0.heap.size w0 w' → Q .normal ⟨new, act.defers⟩ w') : (Code.region 48 ops true).wp Try.prog Q act w0 := by
  subst hops
  subst hnew
  have hnn : (opsOf Try.f3 48).size = 23 := by kernel_rfl
  refine wp_region_slots (by kernel_rfl) (fun i => 215 + i) (R48 aa ya ml ac k yc b11 c11 q i) (FrG 215 238 act) (fun i v w w' h _ => ?_) (fun _ i v hi h => h.put (by omega) v) (fun _ i hi h => by rw [h.1]; show 215 + i < 239; omega) (fun i j _ _ h => by have h : 215 + i = 215 + j := h; omega) ?_ (fun y w h1 h2 h3 => ?_) ⟨hsz, rfl, fun _ _ => rfl⟩
  · unfold R48 at h ⊢
    split at h <;> exact h
  rotate_left
  · have e := laid48_all h1 hsz [.slice aa ml ac, .int .i64 (ml : Nat), .slice (some ⟨b11, 0, none⟩) q c11, .int .i64 (i : Nat), .pointer (some ⟨b11, i, none⟩), .slice ya k yc, .int .i64 (k : Nat), .bool false, .bool false, .slice aa ml ac, .slice (some ⟨b11, 0, none⟩) q c11, .int .i64 (i : Nat), .pointer (some ⟨b11, i, none⟩), .slice ya k yc, .int .i64 (k : Nat), .slice aa k ac, .slice (some ⟨b11, 0, none⟩) q c11, .int .i64 (i : Nat), .pointer (some ⟨b11, i, none⟩), .slice ya k yc, .bool true, .bool false, .bool false] rfl (fun i v hv => ?_)
    · rw [e]; exact K w h2
    · have hi : i < 23 := (List.getElem?_eq_some_iff.1 hv).1
      have h := h3 i (by omega)
      match i, hi, hv, h with
      | 0, _, hv, h => exact (show T y (215 + 0) = _ from h).trans (Option.some.inj hv)
      | 1, _, hv, h => exact (show T y (215 + 1) = _ from h).trans (Option.some.inj hv)
      | 2, _, hv, h => exact (show T y (215 + 2) = _ from h).trans (Option.some.inj hv)
      | 3, _, hv, h => exact (show T y (215 + 3) = _ from h).trans (Option.some.inj hv)
      | 4, _, hv, h => exact (show T y (215 + 4) = _ from h).trans (Option.some.inj hv)
      | 5, _, hv, h => exact (show T y (215 + 5) = _ from h).trans (Option.some.inj hv)
      | 6, _, hv, h => exact (show T y (215 + 6) = _ from h).trans (Option.some.inj hv)
      | 7, _, hv, h => exact (show T y (215 + 7) = _ from h).trans (Option.some.inj hv)
      | 8, _, hv, h => exact (show T y (215 + 8) = _ from h).trans (Option.some.inj hv)
      | 9, _, hv, h => exact (show T y (215 + 9) = _ from h).trans (Option.some.inj hv)
      | 10, _, hv, h => exact (show T y (215 + 10) = _ from h).trans (Option.some.inj hv)
      | 11, _, hv, h => exact (show T y (215 + 11) = _ from h).trans (Option.some.inj hv)
      | 12, _, hv, h => exact (show T y (215 + 12) = _ from h).trans (Option.some.inj hv)
      | 13, _, hv, h => exact (show T y (215 + 13) = _ from h).trans (Option.some.inj hv)
      | 14, _, hv, h => exact (show T y (215 + 14) = _ from h).trans (Option.some.inj hv)
      | 15, _, hv, h => exact (show T y (215 + 15) = _ from h).trans (Option.some.inj hv)
      | 16, _, hv, h => exact (show T y (215 + 16) = _ from h).trans (Option.some.inj hv)
      | 17, _, hv, h => exact (show T y (215 + 17) = _ from h).trans (Option.some.inj hv)
      | 18, _, hv, h => exact (show T y (215 + 18) = _ from h).trans (Option.some.inj hv)
      | 19, _, hv, h => exact (show T y (215 + 19) = _ from h).trans (Option.some.inj hv)
      | 20, _, hv, h => exact (show T y (215 + 20) = _ from h).trans (Option.some.inj hv)
      | 21, _, hv, h => exact (show T y (215 + 21) = _ from h).trans (Option.some.inj hv)
      | 22, _, hv, h => exact (show T y (215 + 22) = _ from h).trans (Option.some.inj hv)
  refine ⟨duty_free rfl (by simp) rfl (fun act' w hF hB hE Q => by have f24 := hF.slot (k := 24) (by omega) q24; exact ob_value (v := .slice aa ml ac) (w' := w) (by simp [execOp, Act.eval, go_sem, f24]) (Below.refl _ _) rfl), ?_⟩
  refine ⟨duty_free rfl (by simp) rfl (fun act' w hF hB hE Q => by have h0 : T act' 215 = .slice aa ml ac := hE ⟨0, .data⟩ (by simp) rfl; exact ob_value (v := .int .i64 (ml : Nat)) (w' := w) (by simp [execOp, Act.eval, go_sem, h0]) (Below.refl _ _) rfl), ?_⟩
  refine ⟨duty_free rfl (by simp) rfl (fun act' w hF hB hE Q => by have f11 := hF.slot (k := 11) (by omega) q11; exact ob_value (v := .slice (some ⟨b11, 0, none⟩) q c11) (w' := w) (by simp [execOp, Act.eval, go_sem, f11]) (Below.refl _ _) rfl), ?_⟩
  refine ⟨duty_free rfl (by simp) rfl (fun act' w hF hB hE Q => by have f23 := hF.slot (k := 23) (by omega) q23; exact ob_value (v := .int .i64 (i : Nat)) (w' := w) (by simp [execOp, Act.eval, go_sem, f23]) (Below.refl _ _) rfl), ?_⟩
  refine ⟨duty_free rfl (by simp) rfl (fun act' w hF hB hE Q => by have h2 : T act' 217 = .slice (some ⟨b11, 0, none⟩) q c11 := hE ⟨2, .data⟩ (by simp) rfl; have h3 : T act' 218 = .int .i64 (i : Nat) := hE ⟨3, .data⟩ (by simp) rfl; exact ob_value (v := .pointer (some ⟨b11, i, none⟩)) (w' := w) (by simp [execOp, Act.eval, go_sem, h2, h3, ix1]) (Below.refl _ _) rfl), ?_⟩
  refine ⟨duty_free rfl (by simp) rfl (fun act' w hF hB hE Q => by have h4 : T act' 219 = .pointer (some ⟨b11, i, none⟩) := hE ⟨4, .data⟩ (by simp) rfl; have x0 := cell_later hB _ _ _ cY; exact ob_value (v := .slice ya k yc) (w' := w) (by simp [execOp, Act.eval, go_sem, h4, x0]) (Below.refl _ _) rfl), ?_⟩
  refine ⟨duty_free rfl (by simp) rfl (fun act' w hF hB hE Q => by have h5 : T act' 220 = .slice ya k yc := hE ⟨5, .data⟩ (by simp) rfl; exact ob_value (v := .int .i64 (k : Nat)) (w' := w) (by simp [execOp, Act.eval, go_sem, h5]) (Below.refl _ _) rfl), ?_⟩
  refine ⟨duty_free rfl (by simp) rfl (fun act' w hF hB hE Q => by have h1 : T act' 216 = .int .i64 (ml : Nat) := hE ⟨1, .data⟩ (by simp) rfl; have h6 : T act' 221 = .int .i64 (k : Nat) := hE ⟨6, .data⟩ (by simp) rfl; exact ob_value (v := .bool false) (w' := w) (by simp [execOp, Act.eval, go_sem, h1, h6, t1]) (Below.refl _ _) rfl), ?_⟩
  refine ⟨duty_free rfl (by simp) rfl (fun act' w hF hB hE Q => by have h7 : T act' 222 = .bool false := hE ⟨7, .data⟩ (by simp) rfl; exact ob_value (v := .bool false) (w' := w) (by simp [execOp, Act.eval, go_sem, h7]) (Below.refl _ _) rfl), ?_⟩
  refine ⟨duty_met (j := 8) (b := false) rfl (by simp) rfl rfl (by simp) (fun _ _ h => h) (fun act' w hF hB hE Q => by have f24 := hF.slot (k := 24) (by omega) q24; exact ob_value (v := .slice aa ml ac) (w' := w) (by simp [execOp, Act.eval, go_sem, f24]) (Below.refl _ _) rfl), ?_⟩
  refine ⟨duty_met (j := 8) (b := false) rfl (by simp) rfl rfl (by simp) (fun _ _ h => h) (fun act' w hF hB hE Q => by have f11 := hF.slot (k := 11) (by omega) q11; exact ob_value (v := .slice (some ⟨b11, 0, none⟩) q c11) (w' := w) (by simp [execOp, Act.eval, go_sem, f11]) (Below.refl _ _) rfl), ?_⟩
  refine ⟨duty_met (j := 8) (b := false) rfl (by simp) rfl rfl (by simp) (fun _ _ h => h) (fun act' w hF hB hE Q => by have f23 := hF.slot (k := 23) (by omega) q23; exact ob_value (v := .int .i64 (i : Nat)) (w' := w) (by simp [execOp, Act.eval, go_sem, f23]) (Below.refl _ _) rfl), ?_⟩
  refine ⟨duty_met (j := 8) (b := false) rfl (by simp) rfl rfl (by simp) (fun _ _ h => h) (fun act' w hF hB hE Q => by have h10 : T act' 225 = .slice (some ⟨b11, 0, none⟩) q c11 := hE ⟨10, .data⟩ (by simp) rfl; have h11 : T act' 226 = .int .i64 (i : Nat) := hE ⟨11, .data⟩ (by simp) rfl; exact ob_value (v := .pointer (some ⟨b11, i, none⟩)) (w' := w) (by simp [execOp, Act.eval, go_sem, h10, h11, ix1]) (Below.refl _ _) rfl), ?_⟩
  refine ⟨duty_met (j := 8) (b := false) rfl (by simp) rfl rfl (by simp) (fun _ _ h => h) (fun act' w hF hB hE Q => by have h12 : T act' 227 = .pointer (some ⟨b11, i, none⟩) := hE ⟨12, .data⟩ (by simp) rfl; have x0 := cell_later hB _ _ _ cY; exact ob_value (v := .slice ya k yc) (w' := w) (by simp [execOp, Act.eval, go_sem, h12, x0]) (Below.refl _ _) rfl), ?_⟩
  refine ⟨duty_met (j := 8) (b := false) rfl (by simp) rfl rfl (by simp) (fun _ _ h => h) (fun act' w hF hB hE Q => by have h13 : T act' 228 = .slice ya k yc := hE ⟨13, .data⟩ (by simp) rfl; exact ob_value (v := .int .i64 (k : Nat)) (w' := w) (by simp [execOp, Act.eval, go_sem, h13]) (Below.refl _ _) rfl), ?_⟩
  refine ⟨duty_met (j := 8) (b := false) rfl (by simp) rfl rfl (by simp) (fun _ _ h => h) (fun act' w hF hB hE Q => by have h9 : T act' 224 = .slice aa ml ac := hE ⟨9, .data⟩ (by simp) rfl; have h14 : T act' 229 = .int .i64 (k : Nat) := hE ⟨14, .data⟩ (by simp) rfl; exact ob_value (v := .slice aa k ac) (w' := w) (by simp [execOp, Act.eval, h9, h14, sl2 w]) (Below.refl _ _) rfl), ?_⟩
  refine ⟨duty_met (j := 8) (b := false) rfl (by simp) rfl rfl (by simp) (fun _ _ h => h) (fun act' w hF hB hE Q => by have f11 := hF.slot (k := 11) (by omega) q11; exact ob_value (v := .slice (some ⟨b11, 0, none⟩) q c11) (w' := w) (by simp [execOp, Act.eval, go_sem, f11]) (Below.refl _ _) rfl), ?_⟩
  refine ⟨duty_met (j := 8) (b := false) rfl (by simp) rfl rfl (by simp) (fun _ _ h => h) (fun act' w hF hB hE Q => by have f23 := hF.slot (k := 23) (by omega) q23; exact ob_value (v := .int .i64 (i : Nat)) (w' := w) (by simp [execOp, Act.eval, go_sem, f23]) (Below.refl _ _) rfl), ?_⟩
  refine ⟨duty_met (j := 8) (b := false) rfl (by simp) rfl rfl (by simp) (fun _ _ h => h) (fun act' w hF hB hE Q => by have h16 : T act' 231 = .slice (some ⟨b11, 0, none⟩) q c11 := hE ⟨16, .data⟩ (by simp) rfl; have h17 : T act' 232 = .int .i64 (i : Nat) := hE ⟨17, .data⟩ (by simp) rfl; exact ob_value (v := .pointer (some ⟨b11, i, none⟩)) (w' := w) (by simp [execOp, Act.eval, go_sem, h16, h17, ix1]) (Below.refl _ _) rfl), ?_⟩
  refine ⟨duty_met (j := 8) (b := false) rfl (by simp) rfl rfl (by simp) (fun _ _ h => h) (fun act' w hF hB hE Q => by have h18 : T act' 233 = .pointer (some ⟨b11, i, none⟩) := hE ⟨18, .data⟩ (by simp) rfl; have x0 := cell_later hB _ _ _ cY; exact ob_value (v := .slice ya k yc) (w' := w) (by simp [execOp, Act.eval, go_sem, h18, x0]) (Below.refl _ _) rfl), ?_⟩
  refine ⟨duty_met (j := 8) (b := false) rfl (by simp) rfl rfl (by simp) (fun _ _ h => h) (fun act' w hF hB hE Q => by have h15 : T act' 230 = .slice aa k ac := hE ⟨15, .data⟩ (by simp) rfl; have h19 : T act' 234 = .slice ya k yc := hE ⟨19, .data⟩ (by simp) rfl; exact ob_call2 rfl (fun args w => by simp [go_sem]) h15 h19 ((HS2 w hB).mono (fun e w' h => ⟨.bool true, h.1, h.2, rfl⟩))), ?_⟩
  refine ⟨duty_met (j := 8) (b := false) rfl (by simp) rfl rfl (by simp) (fun _ _ h => h) (fun act' w hF hB hE Q => by have h20 : T act' 235 = .bool true := hE ⟨20, .data⟩ (by simp) rfl; exact ob_value (v := .bool false) (w' := w) (by simp [execOp, Act.eval, go_sem, h20]) (Below.refl _ _) rfl), ?_⟩
  refine ⟨duty_free rfl (by simp) rfl (fun act' w hF hB hE Q => by have h8 : T act' 223 = .bool false := hE ⟨8, .data⟩ (by simp) rfl; have h21 : T act' 236 = .bool false := hE ⟨21, .data⟩ (by simp) rfl; exact ob_value (v := .bool false) (w' := w) (by simp [execOp, Act.eval, go_sem, h8, h21]) (Below.refl _ _) rfl), ?_⟩
  exact trivial
theorem lnS_pre {f f' : List (Nat × List UInt8)} (h : f <+: f') : (lnS f').take f.length = lnS f := by
  obtain ⟨r, rfl⟩ := h
  simp [lnS]
theorem lnI_pre {f f' : List (Nat × List UInt8)} (h : f <+: f') : (lnI f').take f.length = lnI f := by
  obtain ⟨r, rfl⟩ := h
  simp [lnI]
theorem lnI_ints (f : List (Nat × List UInt8)) : lnI f = ints (f.map fun x => (x.1 : Int)) := by
  simp [lnI, ints]
theorem pre_texts {x1 : World} {b b' : Nat} {la xa : Option Addr} {m' lc k xc : Nat} {f f' : List (Nat × List UInt8)} (r1 : x1.ownsRow b 9 1 (.slice la m' lc) m' (lnS f')) (rV : x1.ownsRow b' 9 1 (.slice xa k xc) k (lnS f)) (hp : f <+: f') (hk : f.length = k) (hkm : k ≤ m') (hm : m' ≤ 1048576) : ∀ u, Below x1.heap.size x1 u → Calls Try.prog 10 #[.slice la k lc, .slice xa k xc] u fun e u' => e = .returned (.bool true) ∧ Below u.heap.size u u' := by
  intro u hu
  have h1 := ((owns_lat r1).take rfl hkm).later hu
  have e : (lnS f').take k = lnS f := by rw [← hk]; exact lnS_pre hp
  rw [e] at h1
  exact sameTexts_any (l := f) h1 ((owns_lat rV).later hu) (by omega)
theorem pre_ints {x1 : World} {b b' : Nat} {la xa : Option Addr} {m' lc k xc : Nat} {f f' : List (Nat × List UInt8)} (r1 : x1.ownsRow b 3 1 (.slice la m' lc) m' (lnI f')) (rV : x1.ownsRow b' 3 1 (.slice xa k xc) k (lnI f)) (hp : f <+: f') (hk : f.length = k) (hkm : k ≤ m') (hm : m' ≤ 1048576) : ∀ u, Below x1.heap.size x1 u → Calls Try.prog 11 #[.slice la k lc, .slice xa k xc] u fun e u' => e = .returned (.bool true) ∧ Below u.heap.size u u' := by
  intro u hu
  have h1 := ((owns_lat r1).take rfl hkm).later hu
  have e : (lnI f').take k = lnI f := by rw [← hk]; exact lnI_pre hp
  have h2 := (owns_lat rV).later hu
  rw [e] at h1
  rw [lnI_ints] at h1 h2
  exact sameInts_any h1 h2 (by rw [List.length_map]; omega)
theorem ints_pre {g g' : List Int} (h : g <+: g') : (ints g').take g.length = ints g := by
  obtain ⟨r, rfl⟩ := h
  simp [ints]
theorem pre_nums {x1 : World} {b b' : Nat} {la xa : Option Addr} {m' lc k xc : Nat} {f f' : List Int} (r1 : x1.ownsRow b 3 1 (.slice la m' lc) m' (ints f')) (rV : x1.ownsRow b' 3 1 (.slice xa k xc) k (ints f)) (hp : f <+: f') (hk : f.length = k) (hkm : k ≤ m') (hm : m' ≤ 1000000000) : ∀ u, Below x1.heap.size x1 u → Calls Try.prog 11 #[.slice la k lc, .slice xa k xc] u fun e u' => e = .returned (.bool true) ∧ Below u.heap.size u u' := by
  intro u hu
  have h1 := ((owns_lat r1).take rfl hkm).later hu
  have e : (ints f').take k = ints f := by rw [← hk]; exact ints_pre hp
  rw [e] at h1
  exact sameInts_any h1 ((owns_lat rV).later hu) (by omega)
end Go.Proofs.Ytobbcgendjakiaa
