/- holds: the lists as a family, plain steps. -/
import Derived.Test.YtclcpblpmfijiaaG16
namespace Go.Proofs.Ytclcpblpmfijiaa
open Go.RowKit Go.Maps Rg

def HF (VL : Value) (vs : List Value) (L : List (List Int)) : Nat → Option Rw
  | 0 => some (43, VL, vs)
  | i + 1 => match vs[i]?, L[i]? with
    | some V, some xs => some (3, V, ints xs)
    | _, _ => none
theorem HF.at {VL : Value} {vs : List Value} {L : List (List Int)} {i : Nat} {V : Value} {xs : List Int} (h1 : vs[i]? = some V) (h2 : L[i]? = some xs) : HF VL vs L (i + 1) = some (3, V, ints xs) := by
  show (match vs[i]?, L[i]? with | some V, some xs => _ | _, _ => none) = _
  rw [h1, h2]
theorem HF.set {VL : Value} {vs : List Value} {L : List (List Int)} {i : Nat} {V : Value} {xs : List Int} (hi : i < vs.length) (hi2 : i < L.length) : HF VL (vs.set i V) (L.set i xs) = fun j => if j = i + 1 then some (3, V, ints xs) else if j = 0 then some (43, VL, vs.set i V) else HF VL vs L j := by
  funext j
  cases j with
  | zero => rfl
  | succ j =>
    rw [if_neg (by omega : ¬ j + 1 = 0)]
    by_cases e : j = i
    · subst e
      rw [if_pos rfl]
      exact HF.at (by simp [hi]) (by simp [hi2])
    · rw [if_neg (by omega)]
      show (match (vs.set i V)[j]?, (L.set i xs)[j]? with | some V, some xs => _ | _, _ => none) = (match vs[j]?, L[j]? with | some V, some xs => _ | _, _ => none)
      rw [List.getElem?_set_ne (by omega), List.getElem?_set_ne (by omega)]
structure HSt (p : Nat) (T : Tg) (u : World) (D B Q : Nat) (VL VW : Value) (n : Nat) (w : World) (vs : List Value) (L : List (List Int)) : Prop where
  d : PBox w D B Q VL VW
  fam : Fam 0 w (HF VL vs L)
  vl : vs.length = n
  ll : L.length = n
  tg : ∀ j t x xs b, HF VL vs L j = some (t, x, xs) → x.ownBlock = some b → b ≠ D ∧ (b < u.heap.size → (T b).1 = p)
  fr : FrP (fun k => (T k).1 = p) u w
section
variable {p : Nat} {T : Tg} {u w w' : World} {D B R Q N f n : Nat} {VQ VL VW : Value} {l : List Int} {LL L : List (List Int)} {vs : List Value}
theorem HSt.start (h : PAt p T u D B R Q N f VQ VL VW l l LL) : ∃ vs, HSt p T u D B Q VL VW LL.length u vs LL ∧ ∃ ws, LAt u VW ws ∧ ws.length = LL.length ∧ ∀ (i : Nat) xs, LL[i]? = some xs → xs.length ≤ 64 ∧ ∃ V W, vs[i]? = some V ∧ ws[i]? = some W ∧ LAt u V (ints xs) ∧ LAt u W (ints xs) := by
  obtain ⟨vs, ws, h1, h2, h3⟩ := h.ls
  have hvl : vs.length = LL.length := by have := h1.1.1; omega
  have hwl : ws.length = LL.length := by have := h2.1.1; omega
  have key : ∀ j t x xs, HF VL vs LL j = some (t, x, xs) → u.ownsRow 0 t 1 x xs.length xs ∧ ∀ b, x.ownBlock = some b → T b = (p, if j = 0 then 4 else 6 + j) := by
    intro j t x xs hj
    cases j with
    | zero =>
      cases hj
      exact ⟨by rw [hvl]; exact h1.1, fun b hb => by rw [if_pos rfl]; exact h1.2 b hb⟩
    | succ i =>
      cases e1 : vs[i]? with
      | none => simp [HF, e1] at hj
      | some V =>
        cases e2 : LL[i]? with
        | none => simp [HF, e1, e2] at hj
        | some ys =>
          rw [HF.at e1 e2] at hj
          cases hj
          obtain ⟨V', W, a1, a2, a3, a4, a5⟩ := h3 i ys e2
          rw [e1] at a1
          cases a1
          exact ⟨by rw [ints_len]; exact a3.1, fun b hb => by rw [if_neg (by omega), a3.2 b hb, show 7 + i = 6 + (i + 1) by omega]⟩
  refine ⟨vs, ⟨h.d, ⟨fun j t x xs hj => (key j t x xs hj).1, fun i j t x xs t' x' xs' k hi hj hk hk' => ?_⟩, hvl, rfl, fun j t x xs b hj hb => ?_, FrP.refl _ _⟩, ws, owns_lat h2.1, hwl, fun i xs hi => ?_⟩
  · have e1 := (key i t x xs hi).2 k hk
    have e2 := (key j t' x' xs' hj).2 k hk'
    rw [e1] at e2
    have e3 := (Prod.mk.inj e2).2
    split at e3 <;> split at e3 <;> omega
  · have e1 := (key j t x xs hj).2 b hb
    refine ⟨fun e => ?_, fun _ => by rw [e1]⟩
    rw [e, h.tD] at e1
    have e3 := (Prod.mk.inj e1).2
    split at e3 <;> omega
  · obtain ⟨V, W, a1, a2, a3, a4, a5⟩ := h3 i xs hi
    exact ⟨a5, V, W, a1, a2, owns_lat a3.1, a4.1⟩
theorem HSt.row (h : HSt p T u D B Q VL VW n w vs L) : w.ownsRow 0 43 1 VL n vs := by
  have := h.fam.own 0 _ _ _ rfl
  rwa [h.vl] at this
theorem HSt.list (h : HSt p T u D B Q VL VW n w vs L) {i : Nat} {V : Value} {xs : List Int} (h1 : vs[i]? = some V) (h2 : L[i]? = some xs) : w.ownsRow 0 3 1 V xs.length (ints xs) := by
  have := h.fam.own (i + 1) _ _ _ (HF.at h1 h2)
  rwa [ints_len] at this
theorem HSt.get (h : HSt p T u D B Q VL VW n w vs L) {i : Nat} (hi : i < n) : ∃ V xs, vs[i]? = some V ∧ L[i]? = some xs := ⟨vs[i]'(by rw [h.vl]; exact hi), L[i]'(by rw [h.ll]; exact hi), List.getElem?_eq_getElem (by rw [h.vl]; exact hi), List.getElem?_eq_getElem (by rw [h.ll]; exact hi)⟩
theorem HSt.later (h : HSt p T u D B Q VL VW n w vs L) (hb : Below w.heap.size w w') : HSt p T u D B Q VL VW n w' vs L :=
  ⟨h.d.same (hb.block D h.d.lt), h.fam.later hb, h.vl, h.ll, h.tg, h.fr.below hb⟩
theorem HSt.ne (h : HSt p T u D B Q VL VW n w vs L) {i : Nat} {V : Value} {xs : List Int} (h1 : vs[i]? = some V) (h2 : L[i]? = some xs) {b : Nat} (hb : V.ownBlock = some b) : b ≠ D ∧ VL.ownBlock ≠ some b := by
  refine ⟨(h.tg (i + 1) _ _ _ b (HF.at h1 h2) hb).1, fun e => ?_⟩
  have := h.fam.inj 0 (i + 1) _ _ _ _ _ _ b rfl (HF.at h1 h2) e hb
  omega
/-- a cell of a list is written over -/
theorem HSt.put (h : HSt p T u D B Q VL VW n w vs L) {i : Nat} {g m c : Nat} {xs : List Int} (h1 : vs[i]? = some (.slice (some ⟨g, 0, none⟩) m c)) (h2 : L[i]? = some xs) (k : Nat) (x : Int) :
    HSt p T u D B Q VL VW n (w.setCell ⟨g, k, none⟩ (.int .i64 x)) vs (L.set i (xs.set k x)) := by
  have hn := h.ne h1 h2 rfl
  have hi1 := (List.getElem?_eq_some_iff.1 h1).1
  have hi2 := (List.getElem?_eq_some_iff.1 h2).1
  have hf := h.fam.put (HF.at h1 h2) k (.int .i64 x)
  have e : upd (HF VL vs L) (i + 1) (3, .slice (some ⟨g, 0, none⟩) m c, (ints xs).set k (.int .i64 x)) = HF VL vs (L.set i (xs.set k x)) := by
    have e2 := HF.set (VL := VL) (V := .slice (some ⟨g, 0, none⟩) m c) (xs := xs.set k x) hi1 hi2
    have e3 : vs.set i (.slice (some ⟨g, 0, none⟩) m c) = vs := by
      have := (List.getElem?_eq_some_iff.1 h1).2
      rw [← this]
      exact List.set_getElem_self hi1
    rw [e3] at e2
    rw [e2]
    funext j
    unfold upd
    by_cases e : j = i + 1
    · rw [if_pos e, if_pos e]
      simp [ints, List.map_set]
    · rw [if_neg e, if_neg e]
      split
      · next e0 => subst e0; rfl
      · rfl
  rw [e] at hf
  refine ⟨h.d.same (Below.heap_setCell w ⟨g, k, none⟩ _ D (fun e => hn.1 (by have e2 : D = g := e; exact e2.symm))), hf, h.vl, by simp [h.ll], fun j t x' xs' b hj hb => ?_, h.fr.set (fun hlt => (h.tg (i + 1) _ _ _ g (HF.at h1 h2) rfl).2 hlt) k _⟩
  rw [← e] at hj
  unfold upd at hj
  by_cases e2 : j = i + 1
  · rw [if_pos e2] at hj
    cases hj
    exact h.tg (i + 1) _ _ _ b (HF.at h1 h2) hb
  · rw [if_neg e2] at hj
    exact h.tg j _ _ _ b hj hb
/-- a list is lengthened -/
theorem HSt.app {g cL : Nat} (h : HSt p T u D B Q (.slice (some ⟨g, 0, none⟩) n cL) VW n w vs L) {i : Nat} {V V' : Value} {xs ys : List Int} (h1 : vs[i]? = some V) (h2 : L[i]? = some xs) (hF : FrP (Xb V) w w') (ho : w'.ownsRow 0 3 1 V' ys.length (ints ys)) (hh : ∀ b, V'.ownBlock = some b → V.ownBlock = some b ∨ w.heap.size ≤ b) :
    HSt p T u D B Q (.slice (some ⟨g, 0, none⟩) n cL) VW n (w'.setCell ⟨g, i, none⟩ V') (vs.set i V') (L.set i ys) := by
  have hi1 := (List.getElem?_eq_some_iff.1 h1).1
  have hi2 := (List.getElem?_eq_some_iff.1 h2).1
  have hg : w.grownBy w' V.ownBlock := ⟨hF.os, hF.tape, hF.output, hF.size, fun k hk hne => hF.block k hk (fun e => hne (by have e2 : V.ownBlock = some k := e; exact e2.symm))⟩
  have hVl : (ints ys).length = ys.length := ints_len ys
  have f1 := h.fam.grown (HF.at h1 h2) (ys := ints ys) (x' := V') (by rw [hVl]; exact ho) hg hh
  have h0 : upd (HF (.slice (some ⟨g, 0, none⟩) n cL) vs L) (i + 1) (3, V', ints ys) 0 = some (43, .slice (some ⟨g, 0, none⟩) n cL, vs) := upd_ne _ _ (by omega)
  have f2 := f1.put h0 i V'
  have e : upd (upd (HF (.slice (some ⟨g, 0, none⟩) n cL) vs L) (i + 1) (3, V', ints ys)) 0 (43, .slice (some ⟨g, 0, none⟩) n cL, vs.set i V') = HF (.slice (some ⟨g, 0, none⟩) n cL) (vs.set i V') (L.set i ys) := by
    rw [HF.set hi1 hi2]
    funext j
    unfold upd
    by_cases e0 : j = 0
    · subst e0
      rw [if_pos rfl, if_neg (by omega), if_pos rfl]
    · rw [if_neg e0]
      by_cases e1 : j = i + 1
      · rw [if_pos e1, if_pos e1]
      · rw [if_neg e1, if_neg e1, if_neg e0]
  rw [e] at f2
  have hgD : g ≠ D := (h.tg 0 _ _ _ g rfl rfl).1
  have hVD : ∀ b, V.ownBlock = some b → b ≠ D := fun b hb => (h.ne h1 h2 hb).1
  have hD : w'.heap[D]? = w.heap[D]? := hF.block D h.d.lt (fun e => hVD D e rfl)
  have hwu := h.fr.size
  refine ⟨(h.d.same hD).same (Below.heap_setCell w' ⟨g, i, none⟩ _ D (fun e => hgD (by have e2 : D = g := e; exact e2.symm))), f2, by simp [h.vl], by simp [h.ll], fun j t x' xs' b hj hb => ?_, ?_⟩
  · rw [← e] at hj
    unfold upd at hj
    by_cases e0 : j = 0
    · rw [if_pos e0] at hj
      cases hj
      exact h.tg 0 _ _ _ b rfl hb
    · rw [if_neg e0] at hj
      by_cases e1 : j = i + 1
      · rw [if_pos e1] at hj
        cases hj
        rcases hh b hb with x | x
        · exact h.tg (i + 1) _ _ _ b (HF.at h1 h2) x
        · exact ⟨fun e => by have := h.d.lt; omega, fun h3 => by omega⟩
      · rw [if_neg e1] at hj
        exact h.tg j _ _ _ b hj hb
  · exact (h.fr.trans hF (fun k hk x => (h.tg (i + 1) _ _ _ k (HF.at h1 h2) x).2 hk)).set (fun hlt => (h.tg 0 _ _ _ g rfl rfl).2 hlt) i _
end
end Go.Proofs.Ytclcpblpmfijiaa
