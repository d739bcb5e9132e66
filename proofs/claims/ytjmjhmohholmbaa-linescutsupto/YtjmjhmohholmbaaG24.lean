/- LinesExact: the drawn regions that hold a Feed (typed by gen/lnexreg.py). -/
import Derived.Test.YtjmjhmohholmbaaG23
namespace Go.Proofs.Ytjmjhmohholmbaa
open Go.RowKit Go.Maps Ln

/-- a frame of which two intervals of slots may have turned -/
def Fr2 (l1 h1 l2 h2 sz : Nat) (act a : Act) : Prop := a.tmps.size = sz ∧ a.defers = act.defers ∧ ∀ k, ((k < l1 ∨ h1 ≤ k) ∧ (k < l2 ∨ h2 ≤ k)) → a.tmps[k]? = act.tmps[k]?
theorem Fr2.put {l1 h1 l2 h2 sz : Nat} {act a : Act} (h : Fr2 l1 h1 l2 h2 sz act a) {k : Nat} (hk : (l1 ≤ k ∧ k < h1) ∨ (l2 ≤ k ∧ k < h2)) (v : Value) : Fr2 l1 h1 l2 h2 sz act (a.put (some k) v) := by
  obtain ⟨e1, e2, e3⟩ := h
  refine ⟨by simp [Act.put, e1], by simp [Act.put, e2], fun j hj => ?_⟩
  simp only [Act.put]
  rw [Array.getElem?_setIfInBounds_ne (by omega)]
  exact e3 j hj
theorem Fr2.slot {l1 h1 l2 h2 sz : Nat} {act a : Act} (h : Fr2 l1 h1 l2 h2 sz act a) {k : Nat} (hk : (k < l1 ∨ h1 ≤ k) ∧ (k < l2 ∨ h2 ≤ k)) {v : Value} (hv : T act k = v) : T a k = v := by unfold T at hv ⊢; rw [h.2.2 k hk]; exact hv
theorem fr2_laid {l1 h1 l2 h2 sz : Nat} {act a : Act} (h : Fr2 l1 h1 l2 h2 sz act a) (hs : act.tmps.size = sz) (o1 : l1 ≤ h1) (o2 : h1 ≤ l2) (o3 : l2 ≤ h2) (o4 : h2 ≤ sz) :
    ∃ p q : List Value, p.length = h1 - l1 ∧ q.length = h2 - l2 ∧ (∀ i, i < h1 - l1 → p.getD i undef = T a (l1 + i)) ∧ a = ⟨(act.tmps.toList.take l1 ++ (p ++ ((act.tmps.toList.drop h1).take (l2 - h1) ++ (q ++ act.tmps.toList.drop h2)))).toArray, act.defers⟩ := by
  obtain ⟨e1, e2, e3⟩ := h
  have hlt : act.tmps.toList.length = sz := by simpa using hs
  have hla : a.tmps.toList.length = sz := by simpa using e1
  refine ⟨(a.tmps.toList.drop l1).take (h1 - l1), (a.tmps.toList.drop l2).take (h2 - l2), by simp [e1]; omega, by simp [e1]; omega, fun i hi => ?_, ?_⟩
  · unfold T
    rw [List.getD_eq_getElem?_getD, List.getElem?_take_of_lt hi, List.getElem?_drop]
    simp
  · have : a.tmps.toList = act.tmps.toList.take l1 ++ ((a.tmps.toList.drop l1).take (h1 - l1) ++ ((act.tmps.toList.drop h1).take (l2 - h1) ++ ((a.tmps.toList.drop l2).take (h2 - l2) ++ act.tmps.toList.drop h2))) := by
      apply List.ext_getElem?
      intro j
      have ej : ((j < l1 ∨ h1 ≤ j) ∧ (j < l2 ∨ h2 ≤ j)) → a.tmps.toList[j]? = act.tmps.toList[j]? := fun x => by simpa using e3 j x
      by_cases c1 : j < l1
      · rw [List.getElem?_append_left (by rw [List.length_take]; omega), List.getElem?_take_of_lt c1]
        exact ej ⟨.inl c1, .inl (by omega)⟩
      · rw [List.getElem?_append_right (by rw [List.length_take]; omega), List.length_take, show min l1 act.tmps.toList.length = l1 by omega]
        by_cases c2 : j < h1
        · rw [List.getElem?_append_left (by rw [List.length_take, List.length_drop]; omega), List.getElem?_take_of_lt (by omega), List.getElem?_drop, show l1 + (j - l1) = j by omega]
        · have z1 : ((a.tmps.toList.drop l1).take (h1 - l1)).length = h1 - l1 := by rw [List.length_take, List.length_drop]; omega
          rw [List.getElem?_append_right (by rw [z1]; omega), z1]
          by_cases c3 : j < l2
          · rw [List.getElem?_append_left (by rw [List.length_take, List.length_drop]; omega), List.getElem?_take_of_lt (by omega), List.getElem?_drop, show h1 + (j - l1 - (h1 - l1)) = j by omega]
            exact ej ⟨.inr (by omega), .inl c3⟩
          · have z2 : ((act.tmps.toList.drop h1).take (l2 - h1)).length = l2 - h1 := by rw [List.length_take, List.length_drop]; omega
            rw [List.getElem?_append_right (by rw [z2]; omega), z2]
            by_cases c4 : j < h2
            · rw [List.getElem?_append_left (by rw [List.length_take, List.length_drop]; omega), List.getElem?_take_of_lt (by omega), List.getElem?_drop, show l2 + (j - l1 - (h1 - l1) - (l2 - h1)) = j by omega]
            · have z3 : ((a.tmps.toList.drop l2).take (h2 - l2)).length = h2 - l2 := by rw [List.length_take, List.length_drop]; omega
              rw [List.getElem?_append_right (by rw [z3]; omega), z3, List.getElem?_drop, show h2 + (j - l1 - (h1 - l1) - (l2 - h1) - (h2 - l2)) = j by omega]
              exact ej ⟨.inr (by omega), .inr (by omega)⟩
    obtain ⟨tm, df⟩ := a
    simp only at this e2
    rw [← this, e2]
theorem fr2_three {l1 l2 h2 sz : Nat} {act a : Act} {v1 v2 v3 : Value} (h : Fr2 l1 (l1 + 3) l2 h2 sz act a) (hs : act.tmps.size = sz) (o2 : l1 + 3 ≤ l2) (o3 : l2 ≤ h2) (o4 : h2 ≤ sz) (t1 : T a l1 = v1) (t2 : T a (l1 + 1) = v2) (t3 : T a (l1 + 2) = v3) :
    ∃ q : List Value, q.length = h2 - l2 ∧ a = ⟨(act.tmps.toList.take l1 ++ ([v1, v2, v3] ++ ((act.tmps.toList.drop (l1 + 3)).take (l2 - (l1 + 3)) ++ (q ++ act.tmps.toList.drop h2)))).toArray, act.defers⟩ := by
  obtain ⟨p, q, hp, hq, hv, ha⟩ := fr2_laid h hs (Nat.le_add_right _ _) o2 o3 o4
  rw [Nat.add_sub_cancel_left] at hp hv
  match p, hp with
  | [x1, x2, x3], _ =>
    have e1 : x1 = v1 := (hv 0 (by omega)).trans t1
    have e2 : x2 = v2 := (hv 1 (by omega)).trans t2
    have e3 : x3 = v3 := (hv 2 (by omega)).trans t3
    subst e1 e2 e3
    exact ⟨q, hq, ha⟩
/-- a call that turns blocks of X, by its contract -/
theorem oby_call2 {o : Oper} {a : Act} {w : World} {s i : Nat} {X : Nat → Prop} {R : Value → World → Prop} {Q : Exit → Act → World → Prop} (his : i = s) {p q f : Nat} {ts : Array TypeId} (ho : o.op = .call { callee := .value (.func f), args := #[.tmp p, .tmp q], argTypes := ts }) (hf : Enters f) {v u : Value} (hx : T a p = v) (hy : T a q = u)
    (hc : Calls Try.prog f #[v, u] w fun e w' => ∃ v, e = .returned v ∧ FrP X w w' ∧ R v w') : o.wp Try.prog a w (fun a' w' => ∃ v, a' = a.put o.dst v ∧ (Below w.heap.size w w' ∨ (i = s ∧ FrP X w w')) ∧ R v w') Q := by
  obtain ⟨dst, op, type, pos, after, guard⟩ := o
  simp only at ho
  subst ho
  unfold Oper.wp
  have h : (execOp a.eval { dst := dst, op := .call { callee := .value (.func f), args := #[.tmp p, .tmp q], argTypes := ts }, type := type, pos := pos, after := after, guard := guard }).run Try.prog w = .ok (.enter f #[v, u]) w := by
    simp [Act.eval, hx, hy, go_sem]
    exact hf _ _
  rw [h]
  refine hc.mono ?_
  rintro e w' ⟨v, rfl, hb, hR⟩
  exact ⟨v, rfl, .inr ⟨his, hb⟩, hR⟩
theorem entF : Enters 16 := fun args w => by simp [go_sem]
theorem entR : Enters 17 := fun args w => by simp [go_sem]
set_option linter.unusedVariables false in
def RMf (A5 A g n ci ti Bt tk : Nat) (tx : ByteArray) (wh : Bool) (oa : Option Addr) (oc : Nat) (X : Nat → Prop) (Ps : World → Prop) (Pw : World → Prop) (w0 : World) : Nat → Value → World → Prop
  | 0, v, _ => v = .int .i64 (ti : Nat)
  | 1, v, _ => v = .pointer (some ⟨A5, ti, none⟩)
  | 2, v, _ => v = .pointer (some ⟨Bt, 0, none⟩)
  | 3, v, _ => v = .slice (some ⟨g, 0, none⟩) (n + 1) ci
  | 4, v, _ => v = .pointer (some ⟨A, 0, none⟩)
  | 5, v, _ => v = .slice oa n oc
  | 6, v, _ => v = .int .i64 (n : Nat)
  | 7, v, _ => v = .slice (some ⟨g, 0, none⟩) n ci
  | 8, v, w => v = .tuple #[.string tx, .int .i64 (tk : Nat), .bool wh] ∧ Pw w
  | 9, v, _ => v = .tuple #[.string tx, .int .i64 (tk : Nat), .bool wh]
  | 10, v, _ => v = .string tx
  | 11, v, _ => v = .int .i64 (tk : Nat)
  | 12, v, _ => v = .bool wh
  | 13, v, _ => v = .string tx
  | 14, v, _ => v = .int .i64 (tk : Nat)
  | _, _, _ => True
def DMf (i : Nat) : Nat := [97, 98, 99, 100, 101, 102, 103, 104, 105, 96, 106, 107, 108, 16, 17, 18].getD i 0
set_option linter.unusedVariables false in
set_option maxRecDepth 100000 in
set_option maxHeartbeats 2000000 in
theorem regMf (A5 A g n ci ti Bt tk : Nat) (tx : ByteArray) (wh : Bool) (oa : Option Addr) (oc : Nat) (X : Nat → Prop) (Ps : World → Prop) (Pw : World → Prop) {act : Act} {w0 : World} {Q : Exit → Act → World → Prop} {ops : Array Oper} (hops : ops = opsOf Try.f5 26) (hsz : act.tmps.size = 200) (q14 : T act 14 = .int .i64 (ti : Nat)) (q5 : T act 5 = .pointer (some ⟨A5, 0, none⟩)) (q15 : T act 15 = .slice (some ⟨g, 0, none⟩) (n + 1) ci) (q13 : T act 13 = .pointer (some ⟨A, 0, none⟩)) (htz : (ti : Int) < 2) (hnc : (n : Int) ≤ (ci : Int)) (h0n : (0 : Int) ≤ (n : Int)) (c5 : w0.cell? ⟨A5, ti, none⟩ = some (.pointer (some ⟨Bt, 0, none⟩))) (cA : w0.cell? ⟨A, 0, none⟩ = some (.slice oa n oc)) (n5 : ¬ X A5) (nA : ¬ X A) (hps : Ps w0) (hpsB : ∀ w w', Ps w → Below w.heap.size w w' → Ps w') (hpwB : ∀ w w', Pw w → Below w.heap.size w w' → Pw w') (hc : ∀ w, Ps w → Calls Try.prog 16 #[.pointer (some ⟨Bt, 0, none⟩), .slice (some ⟨g, 0, none⟩) n ci] w fun e w' => e = .returned (.tuple #[.string tx, .int .i64 (tk : Nat), .bool wh]) ∧ FrP X w w' ∧ Pw w')
    (K : ∀ a' w', Fr2 16 19 96 109 200 act a' → T a' 16 = .string tx → T a' 17 = .int .i64 (tk : Nat) → T a' 18 = .bool wh → Pw w' → Q .normal a' w') : (Code.region 26 ops true).wp Try.prog Q act w0 := by
  subst hops
  refine wp_region_lasty (by kernel_rfl) 15 8 (X) (Ps) (fun i => false) ?pre ?preB (by kernel_rfl) (by decide) DMf (RMf A5 A g n ci ti Bt tk tx wh oa oc X Ps Pw w0) (Fr2 16 19 96 109 200 act) ?upB ?upX ?late ?f0 ?sz ?inj (by kernel_rfl) ?duty ⟨hsz, rfl, fun _ _ => rfl⟩
  case pre => exact hps
  case preB => exact hpsB
  case upB =>
    intro i v w w' h hb
    match i, h with
    | 0, h => exact h
    | 1, h => exact h
    | 2, h => exact h
    | 3, h => exact h
    | 4, h => exact h
    | 5, h => exact h
    | 6, h => exact h
    | 7, h => exact h
    | 8, ⟨h1, h2⟩ => exact ⟨h1, hpwB _ _ h2 hb⟩
    | 9, h => exact h
    | 10, h => exact h
    | 11, h => exact h
    | 12, h => exact h
    | 13, h => exact h
    | 14, h => exact h
    | _ + 15, _ => trivial
  case upX =>
    intro i v w w' hs hlt h hW hw
    match i, hs, hlt, h with
    | 0, hs, hlt, h => exact h
    | 1, hs, hlt, h => exact h
    | 2, hs, hlt, h => exact h
    | 3, hs, hlt, h => exact h
    | 4, hs, hlt, h => exact h
    | 5, hs, hlt, h => exact h
    | 6, hs, hlt, h => exact h
    | 7, hs, hlt, h => exact h
    | 8, hs, hlt, _ => exact absurd rfl hs
    | 9, hs, hlt, h => exact h
    | 10, hs, hlt, h => exact h
    | 11, hs, hlt, h => exact h
    | 12, hs, hlt, h => exact h
    | 13, hs, hlt, h => exact h
    | 14, hs, hlt, h => exact h
    | _ + 15, _, _, _ => trivial
  case late => exact late_ok (by kernel_rfl)
  case f0 => intro a i v hi h; exact h.put ((by decide : ∀ i, i < 15 → (16 ≤ DMf i ∧ DMf i < 19) ∨ (96 ≤ DMf i ∧ DMf i < 109)) i hi) v
  case sz => intro a i hi h; rw [h.1]; exact (by decide : ∀ i, i < 15 → DMf i < 200) i hi
  case inj => intro i j hi hj h; exact (by decide : ∀ i, i < 15 → ∀ j, j < 15 → DMf i = DMf j → i = j) i hi j hj h
  case duty =>
    refine ⟨⟨fun _ => ⟨rfl, rfl, (by simp [Region.binds]), fun a w hF hB hP hE Q => ?s0⟩, fun h => absurd h (by decide)⟩, ⟨fun _ => ⟨rfl, rfl, (by simp [Region.binds]), fun a w hF hB hP hE Q => ?s1⟩, fun h => absurd h (by decide)⟩, ⟨fun _ => ⟨rfl, rfl, (by simp [Region.binds]), fun a w hF hB hP hE Q => ?s2⟩, fun h => absurd h (by decide)⟩, ⟨fun _ => ⟨rfl, rfl, (by simp [Region.binds]), fun a w hF hB hP hE Q => ?s3⟩, fun h => absurd h (by decide)⟩, ⟨fun _ => ⟨rfl, rfl, (by simp [Region.binds]), fun a w hF hB hP hE Q => ?s4⟩, fun h => absurd h (by decide)⟩, ⟨fun _ => ⟨rfl, rfl, (by simp [Region.binds]), fun a w hF hB hP hE Q => ?s5⟩, fun h => absurd h (by decide)⟩, ⟨fun _ => ⟨rfl, rfl, (by simp [Region.binds]), fun a w hF hB hP hE Q => ?s6⟩, fun h => absurd h (by decide)⟩, ⟨fun _ => ⟨rfl, rfl, (by simp [Region.binds]), fun a w hF hB hP hE Q => ?s7⟩, fun h => absurd h (by decide)⟩, ⟨fun _ => ⟨rfl, rfl, (by simp [Region.binds]), fun a w hF hB hP hE Q => ?s8⟩, fun h => absurd h (by decide)⟩, ⟨fun _ => ⟨rfl, rfl, (by simp [Region.binds]), fun a w hF hB hP hE Q => ?s9⟩, fun h => absurd h (by decide)⟩, ⟨fun _ => ⟨rfl, rfl, (by simp [Region.binds]), fun a w hF hB hP hE Q => ?s10⟩, fun h => absurd h (by decide)⟩, ⟨fun _ => ⟨rfl, rfl, (by simp [Region.binds]), fun a w hF hB hP hE Q => ?s11⟩, fun h => absurd h (by decide)⟩, ⟨fun _ => ⟨rfl, rfl, (by simp [Region.binds]), fun a w hF hB hP hE Q => ?s12⟩, fun h => absurd h (by decide)⟩, ⟨fun _ => ⟨rfl, rfl, (by simp [Region.binds]), fun a w hF hB hP hE Q => ?s13⟩, fun h => absurd h (by decide)⟩, ⟨fun _ => ⟨rfl, rfl, (by simp [Region.binds]), fun a w hF hB hP hE Q => ?s14⟩, fun h => absurd h (by decide)⟩, ⟨fun h => absurd h (by decide), fun _ => ⟨rfl, (by simp [Region.binds]), fun a w hF hB hR => ?last⟩⟩, trivial⟩
    case s0 =>
      have f14 := hF.slot (k := 14) (by omega) q14
      exact oby (ob_value (v := .int .i64 (ti : Nat)) (w' := w) (by simp [execOp, Act.eval, go_sem, f14]) (Below.refl _ _) rfl)
    case s1 =>
      have h0 : T a 97 = .int .i64 (ti : Nat) := hE ⟨0, .data⟩ (by simp) rfl
      have f5 := hF.slot (k := 5) (by omega) q5
      exact oby (ob_value (v := .pointer (some ⟨A5, ti, none⟩)) (w' := w) (by simp [execOp, Act.eval, go_sem, h0, f5, htz]) (Below.refl _ _) rfl)
    case s2 =>
      have h1 : T a 98 = .pointer (some ⟨A5, ti, none⟩) := hE ⟨1, .data⟩ (by simp) rfl
      have x0 := cell_frp hB n5 c5
      exact oby (ob_value (v := .pointer (some ⟨Bt, 0, none⟩)) (w' := w) (by simp [execOp, Act.eval, go_sem, h1, x0]) (Below.refl _ _) rfl)
    case s3 =>
      have f15 := hF.slot (k := 15) (by omega) q15
      exact oby (ob_value (v := .slice (some ⟨g, 0, none⟩) (n + 1) ci) (w' := w) (by simp [execOp, Act.eval, go_sem, f15]) (Below.refl _ _) rfl)
    case s4 =>
      have f13 := hF.slot (k := 13) (by omega) q13
      exact oby (ob_value (v := .pointer (some ⟨A, 0, none⟩)) (w' := w) (by simp [execOp, Act.eval, go_sem, f13]) (Below.refl _ _) rfl)
    case s5 =>
      have h4 : T a 101 = .pointer (some ⟨A, 0, none⟩) := hE ⟨4, .data⟩ (by simp) rfl
      have x0 := cell_frp hB nA cA
      exact oby (ob_value (v := .slice oa n oc) (w' := w) (by simp [execOp, Act.eval, go_sem, h4, x0]) (Below.refl _ _) rfl)
    case s6 =>
      have h5 : T a 102 = .slice oa n oc := hE ⟨5, .data⟩ (by simp) rfl
      exact oby (ob_value (v := .int .i64 (n : Nat)) (w' := w) (by simp [Act.eval, go_sem, h5]) (Below.refl _ _) rfl)
    case s7 =>
      have h3 : T a 100 = .slice (some ⟨g, 0, none⟩) (n + 1) ci := hE ⟨3, .data⟩ (by simp) rfl
      have h6 : T a 103 = .int .i64 (n : Nat) := hE ⟨6, .data⟩ (by simp) rfl
      exact oby (ob_value (v := .slice (some ⟨g, 0, none⟩) n ci) (w' := w) (by simp [execOp, Act.eval, go_sem, h3, h6, hnc, h0n]) (Below.refl _ _) rfl)
    case s8 =>
      have h2 : T a 99 = .pointer (some ⟨Bt, 0, none⟩) := hE ⟨2, .data⟩ (by simp) rfl
      have h7 : T a 104 = .slice (some ⟨g, 0, none⟩) n ci := hE ⟨7, .data⟩ (by simp) rfl
      exact oby_call2 rfl rfl entF h2 h7 ((hc w (hP rfl)).mono fun e w' ⟨he, hx, hp⟩ => ⟨_, he, hx, rfl, hp⟩)
    case s9 =>
      obtain ⟨h8, hw8⟩ := hE ⟨8, .data⟩ (by simp) rfl
      exact oby (ob_value (v := .tuple #[.string tx, .int .i64 (tk : Nat), .bool wh]) (w' := w) (by simp [execOp, Act.eval, go_sem, show T a 105 = _ from h8]) (Below.refl _ _) rfl)
    case s10 =>
      have h9 : T a 96 = .tuple #[.string tx, .int .i64 (tk : Nat), .bool wh] := hE ⟨9, .data⟩ (by simp) rfl
      exact oby (ob_value (v := .string tx) (w' := w) (by simp [execOp, Act.eval, go_sem, h9]) (Below.refl _ _) rfl)
    case s11 =>
      have h9 : T a 96 = .tuple #[.string tx, .int .i64 (tk : Nat), .bool wh] := hE ⟨9, .data⟩ (by simp) rfl
      exact oby (ob_value (v := .int .i64 (tk : Nat)) (w' := w) (by simp [execOp, Act.eval, go_sem, h9]) (Below.refl _ _) rfl)
    case s12 =>
      have h9 : T a 96 = .tuple #[.string tx, .int .i64 (tk : Nat), .bool wh] := hE ⟨9, .data⟩ (by simp) rfl
      exact oby (ob_value (v := .bool wh) (w' := w) (by simp [execOp, Act.eval, go_sem, h9]) (Below.refl _ _) rfl)
    case s13 =>
      have h10 : T a 106 = .string tx := hE ⟨10, .data⟩ (by simp) rfl
      exact oby (ob_value (v := .string tx) (w' := w) (by simp [execOp, Act.eval, go_sem, h10]) (Below.refl _ _) rfl)
    case s14 =>
      have h11 : T a 107 = .int .i64 (tk : Nat) := hE ⟨11, .data⟩ (by simp) rfl
      exact oby (ob_value (v := .int .i64 (tk : Nat)) (w' := w) (by simp [execOp, Act.eval, go_sem, h11]) (Below.refl _ _) rfl)
    case last =>
      obtain ⟨h8, hw8⟩ := hR 8 (by decide)
      have h12 : T a 108 = .bool wh := hR 12 (by decide)
      have h13 : T a 16 = .string tx := hR 13 (by decide)
      have h14 : T a 17 = .int .i64 (tk : Nat) := hR 14 (by decide)
      have m13 : T a 16 = .string tx := h13
      have m14 : T a 17 = .int .i64 (tk : Nat) := h14
      have m12 : T a 108 = .bool wh := h12
      unfold Oper.wp
      simp only [execOp, Act.eval, go_sem, show (a.tmps.getD 108 undef) = .bool wh by unfold T at m12; simpa using m12]
      refine K _ w (hF.put (by decide) _) ?_ ?_ ?_ hw8
      · unfold T; rw [put_other (by decide)]; exact m13
      · unfold T; rw [put_other (by decide)]; exact m14
      · unfold T; rw [put_same (by rw [hF.1]; decide)]
set_option linter.unusedVariables false in
def RRf (A6 A n ti Rt tk : Nat) (tx : ByteArray) (wh : Bool) (oa : Option Addr) (oc : Nat) (X : Nat → Prop) (Ps : World → Prop) (Pw : World → Prop) (w0 : World) : Nat → Value → World → Prop
  | 0, v, _ => v = .int .i64 (ti : Nat)
  | 1, v, _ => v = .pointer (some ⟨A6, ti, none⟩)
  | 2, v, _ => v = .pointer (some ⟨Rt, 0, none⟩)
  | 3, v, _ => v = .pointer (some ⟨A, 0, none⟩)
  | 4, v, _ => v = .slice oa n oc
  | 5, v, w => v = .tuple #[.string tx, .int .i64 (tk : Nat), .bool wh] ∧ Pw w
  | 6, v, _ => v = .tuple #[.string tx, .int .i64 (tk : Nat), .bool wh]
  | 7, v, _ => v = .string tx
  | 8, v, _ => v = .int .i64 (tk : Nat)
  | 9, v, _ => v = .bool wh
  | 10, v, _ => v = .string tx
  | 11, v, _ => v = .int .i64 (tk : Nat)
  | _, _, _ => True
def DRf (i : Nat) : Nat := [110, 111, 112, 113, 114, 115, 109, 116, 117, 118, 19, 20, 21].getD i 0
set_option linter.unusedVariables false in
set_option maxRecDepth 100000 in
set_option maxHeartbeats 2000000 in
theorem regRf (A6 A n ti Rt tk : Nat) (tx : ByteArray) (wh : Bool) (oa : Option Addr) (oc : Nat) (X : Nat → Prop) (Ps : World → Prop) (Pw : World → Prop) {act : Act} {w0 : World} {Q : Exit → Act → World → Prop} {ops : Array Oper} (hops : ops = opsOf Try.f5 27) (hsz : act.tmps.size = 200) (q14 : T act 14 = .int .i64 (ti : Nat)) (q6 : T act 6 = .pointer (some ⟨A6, 0, none⟩)) (q13 : T act 13 = .pointer (some ⟨A, 0, none⟩)) (htz : (ti : Int) < 2) (c6 : w0.cell? ⟨A6, ti, none⟩ = some (.pointer (some ⟨Rt, 0, none⟩))) (cA : w0.cell? ⟨A, 0, none⟩ = some (.slice oa n oc)) (n6 : ¬ X A6) (nA : ¬ X A) (hps : Ps w0) (hpsB : ∀ w w', Ps w → Below w.heap.size w w' → Ps w') (hpwB : ∀ w w', Pw w → Below w.heap.size w w' → Pw w') (hc : ∀ w, Ps w → Calls Try.prog 17 #[.pointer (some ⟨Rt, 0, none⟩), .slice oa n oc] w fun e w' => e = .returned (.tuple #[.string tx, .int .i64 (tk : Nat), .bool wh]) ∧ FrP X w w' ∧ Pw w')
    (K : ∀ a' w', Fr2 19 22 109 119 200 act a' → T a' 19 = .string tx → T a' 20 = .int .i64 (tk : Nat) → T a' 21 = .bool wh → Pw w' → Q .normal a' w') : (Code.region 27 ops true).wp Try.prog Q act w0 := by
  subst hops
  refine wp_region_lasty (by kernel_rfl) 12 5 (X) (Ps) (fun i => false) ?pre ?preB (by kernel_rfl) (by decide) DRf (RRf A6 A n ti Rt tk tx wh oa oc X Ps Pw w0) (Fr2 19 22 109 119 200 act) ?upB ?upX ?late ?f0 ?sz ?inj (by kernel_rfl) ?duty ⟨hsz, rfl, fun _ _ => rfl⟩
  case pre => exact hps
  case preB => exact hpsB
  case upB =>
    intro i v w w' h hb
    match i, h with
    | 0, h => exact h
    | 1, h => exact h
    | 2, h => exact h
    | 3, h => exact h
    | 4, h => exact h
    | 5, ⟨h1, h2⟩ => exact ⟨h1, hpwB _ _ h2 hb⟩
    | 6, h => exact h
    | 7, h => exact h
    | 8, h => exact h
    | 9, h => exact h
    | 10, h => exact h
    | 11, h => exact h
    | _ + 12, _ => trivial
  case upX =>
    intro i v w w' hs hlt h hW hw
    match i, hs, hlt, h with
    | 0, hs, hlt, h => exact h
    | 1, hs, hlt, h => exact h
    | 2, hs, hlt, h => exact h
    | 3, hs, hlt, h => exact h
    | 4, hs, hlt, h => exact h
    | 5, hs, hlt, _ => exact absurd rfl hs
    | 6, hs, hlt, h => exact h
    | 7, hs, hlt, h => exact h
    | 8, hs, hlt, h => exact h
    | 9, hs, hlt, h => exact h
    | 10, hs, hlt, h => exact h
    | 11, hs, hlt, h => exact h
    | _ + 12, _, _, _ => trivial
  case late => exact late_ok (by kernel_rfl)
  case f0 => intro a i v hi h; exact h.put ((by decide : ∀ i, i < 12 → (19 ≤ DRf i ∧ DRf i < 22) ∨ (109 ≤ DRf i ∧ DRf i < 119)) i hi) v
  case sz => intro a i hi h; rw [h.1]; exact (by decide : ∀ i, i < 12 → DRf i < 200) i hi
  case inj => intro i j hi hj h; exact (by decide : ∀ i, i < 12 → ∀ j, j < 12 → DRf i = DRf j → i = j) i hi j hj h
  case duty =>
    refine ⟨⟨fun _ => ⟨rfl, rfl, (by simp [Region.binds]), fun a w hF hB hP hE Q => ?s0⟩, fun h => absurd h (by decide)⟩, ⟨fun _ => ⟨rfl, rfl, (by simp [Region.binds]), fun a w hF hB hP hE Q => ?s1⟩, fun h => absurd h (by decide)⟩, ⟨fun _ => ⟨rfl, rfl, (by simp [Region.binds]), fun a w hF hB hP hE Q => ?s2⟩, fun h => absurd h (by decide)⟩, ⟨fun _ => ⟨rfl, rfl, (by simp [Region.binds]), fun a w hF hB hP hE Q => ?s3⟩, fun h => absurd h (by decide)⟩, ⟨fun _ => ⟨rfl, rfl, (by simp [Region.binds]), fun a w hF hB hP hE Q => ?s4⟩, fun h => absurd h (by decide)⟩, ⟨fun _ => ⟨rfl, rfl, (by simp [Region.binds]), fun a w hF hB hP hE Q => ?s5⟩, fun h => absurd h (by decide)⟩, ⟨fun _ => ⟨rfl, rfl, (by simp [Region.binds]), fun a w hF hB hP hE Q => ?s6⟩, fun h => absurd h (by decide)⟩, ⟨fun _ => ⟨rfl, rfl, (by simp [Region.binds]), fun a w hF hB hP hE Q => ?s7⟩, fun h => absurd h (by decide)⟩, ⟨fun _ => ⟨rfl, rfl, (by simp [Region.binds]), fun a w hF hB hP hE Q => ?s8⟩, fun h => absurd h (by decide)⟩, ⟨fun _ => ⟨rfl, rfl, (by simp [Region.binds]), fun a w hF hB hP hE Q => ?s9⟩, fun h => absurd h (by decide)⟩, ⟨fun _ => ⟨rfl, rfl, (by simp [Region.binds]), fun a w hF hB hP hE Q => ?s10⟩, fun h => absurd h (by decide)⟩, ⟨fun _ => ⟨rfl, rfl, (by simp [Region.binds]), fun a w hF hB hP hE Q => ?s11⟩, fun h => absurd h (by decide)⟩, ⟨fun h => absurd h (by decide), fun _ => ⟨rfl, (by simp [Region.binds]), fun a w hF hB hR => ?last⟩⟩, trivial⟩
    case s0 =>
      have f14 := hF.slot (k := 14) (by omega) q14
      exact oby (ob_value (v := .int .i64 (ti : Nat)) (w' := w) (by simp [execOp, Act.eval, go_sem, f14]) (Below.refl _ _) rfl)
    case s1 =>
      have h0 : T a 110 = .int .i64 (ti : Nat) := hE ⟨0, .data⟩ (by simp) rfl
      have f6 := hF.slot (k := 6) (by omega) q6
      exact oby (ob_value (v := .pointer (some ⟨A6, ti, none⟩)) (w' := w) (by simp [execOp, Act.eval, go_sem, h0, f6, htz]) (Below.refl _ _) rfl)
    case s2 =>
      have h1 : T a 111 = .pointer (some ⟨A6, ti, none⟩) := hE ⟨1, .data⟩ (by simp) rfl
      have x0 := cell_frp hB n6 c6
      exact oby (ob_value (v := .pointer (some ⟨Rt, 0, none⟩)) (w' := w) (by simp [execOp, Act.eval, go_sem, h1, x0]) (Below.refl _ _) rfl)
    case s3 =>
      have f13 := hF.slot (k := 13) (by omega) q13
      exact oby (ob_value (v := .pointer (some ⟨A, 0, none⟩)) (w' := w) (by simp [execOp, Act.eval, go_sem, f13]) (Below.refl _ _) rfl)
    case s4 =>
      have h3 : T a 113 = .pointer (some ⟨A, 0, none⟩) := hE ⟨3, .data⟩ (by simp) rfl
      have x0 := cell_frp hB nA cA
      exact oby (ob_value (v := .slice oa n oc) (w' := w) (by simp [execOp, Act.eval, go_sem, h3, x0]) (Below.refl _ _) rfl)
    case s5 =>
      have h2 : T a 112 = .pointer (some ⟨Rt, 0, none⟩) := hE ⟨2, .data⟩ (by simp) rfl
      have h4 : T a 114 = .slice oa n oc := hE ⟨4, .data⟩ (by simp) rfl
      exact oby_call2 rfl rfl entR h2 h4 ((hc w (hP rfl)).mono fun e w' ⟨he, hx, hp⟩ => ⟨_, he, hx, rfl, hp⟩)
    case s6 =>
      obtain ⟨h5, hw5⟩ := hE ⟨5, .data⟩ (by simp) rfl
      exact oby (ob_value (v := .tuple #[.string tx, .int .i64 (tk : Nat), .bool wh]) (w' := w) (by simp [execOp, Act.eval, go_sem, show T a 115 = _ from h5]) (Below.refl _ _) rfl)
    case s7 =>
      have h6 : T a 109 = .tuple #[.string tx, .int .i64 (tk : Nat), .bool wh] := hE ⟨6, .data⟩ (by simp) rfl
      exact oby (ob_value (v := .string tx) (w' := w) (by simp [execOp, Act.eval, go_sem, h6]) (Below.refl _ _) rfl)
    case s8 =>
      have h6 : T a 109 = .tuple #[.string tx, .int .i64 (tk : Nat), .bool wh] := hE ⟨6, .data⟩ (by simp) rfl
      exact oby (ob_value (v := .int .i64 (tk : Nat)) (w' := w) (by simp [execOp, Act.eval, go_sem, h6]) (Below.refl _ _) rfl)
    case s9 =>
      have h6 : T a 109 = .tuple #[.string tx, .int .i64 (tk : Nat), .bool wh] := hE ⟨6, .data⟩ (by simp) rfl
      exact oby (ob_value (v := .bool wh) (w' := w) (by simp [execOp, Act.eval, go_sem, h6]) (Below.refl _ _) rfl)
    case s10 =>
      have h7 : T a 116 = .string tx := hE ⟨7, .data⟩ (by simp) rfl
      exact oby (ob_value (v := .string tx) (w' := w) (by simp [execOp, Act.eval, go_sem, h7]) (Below.refl _ _) rfl)
    case s11 =>
      have h8 : T a 117 = .int .i64 (tk : Nat) := hE ⟨8, .data⟩ (by simp) rfl
      exact oby (ob_value (v := .int .i64 (tk : Nat)) (w' := w) (by simp [execOp, Act.eval, go_sem, h8]) (Below.refl _ _) rfl)
    case last =>
      obtain ⟨h5, hw5⟩ := hR 5 (by decide)
      have h9 : T a 118 = .bool wh := hR 9 (by decide)
      have h10 : T a 19 = .string tx := hR 10 (by decide)
      have h11 : T a 20 = .int .i64 (tk : Nat) := hR 11 (by decide)
      have m13 : T a 19 = .string tx := h10
      have m14 : T a 20 = .int .i64 (tk : Nat) := h11
      have m12 : T a 118 = .bool wh := h9
      unfold Oper.wp
      simp only [execOp, Act.eval, go_sem, show (a.tmps.getD 118 undef) = .bool wh by unfold T at m12; simpa using m12]
      refine K _ w (hF.put (by decide) _) ?_ ?_ ?_ hw5
      · unfold T; rw [put_other (by decide)]; exact m13
      · unfold T; rw [put_other (by decide)]; exact m14
      · unfold T; rw [put_same (by rw [hF.1]; decide)]
end Go.Proofs.Ytjmjhmohholmbaa
