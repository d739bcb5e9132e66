/- Rows of things that take several cells each: read, written, lengthened. -/
import Derived.Test.YtmdhlaccioaomaaG01
namespace Go.Proofs.Ytmdhlaccioaomaa
open Go.RowKit

section
variable {α : Type} {C : α → List Value} {sz : Nat}
theorem fm_len (hC : ∀ x, (C x).length = sz) : ∀ l : List α, (l.flatMap C).length = l.length * sz
  | [] => by simp
  | x :: r => by rw [List.flatMap_cons, List.length_append, hC, fm_len hC r, List.length_cons, Nat.succ_mul, Nat.add_comm]
theorem fm_get (hC : ∀ x, (C x).length = sz) : ∀ (l : List α) (k : Nat) (x : α), l[k]? = some x → ∀ j v, (C x)[j]? = some v → (l.flatMap C)[k * sz + j]? = some v
  | [], k, x, h, _, _, _ => by simp at h
  | y :: r, 0, x, h, j, v, hv => by
    have e : y = x := by simpa using h
    subst e
    rw [List.flatMap_cons, Nat.zero_mul, Nat.zero_add, List.getElem?_append_left (List.getElem?_eq_some_iff.1 hv).1]
    exact hv
  | y :: r, k + 1, x, h, j, v, hv => by
    have h : r[k]? = some x := by simpa using h
    rw [List.flatMap_cons, List.getElem?_append_right (by rw [hC, Nat.succ_mul]; omega), hC, show (k + 1) * sz + j - sz = k * sz + j by rw [Nat.succ_mul]; omega]
    exact fm_get hC r k x h j v hv
theorem fm_set (hC : ∀ x, (C x).length = sz) : ∀ (l : List α) (k : Nat) (x x' : α) (j : Nat) (v : Value), l[k]? = some x → j < sz → C x' = (C x).set j v → (l.flatMap C).set (k * sz + j) v = (l.set k x').flatMap C
  | [], k, x, _, _, _, h, _, _ => by simp at h
  | y :: r, 0, x, x', j, v, h, hj, hx => by
    have e : y = x := by simpa using h
    subst e
    rw [List.flatMap_cons, Nat.zero_mul, Nat.zero_add, List.set_append_left _ _ (by rw [hC]; exact hj), List.set_cons_zero, List.flatMap_cons, hx]
  | y :: r, k + 1, x, x', j, v, h, hj, hx => by
    have h : r[k]? = some x := by simpa using h
    rw [List.flatMap_cons, List.set_append_right _ _ (by rw [hC, Nat.succ_mul]; omega), hC, show (k + 1) * sz + j - sz = k * sz + j by rw [Nat.succ_mul]; omega, List.set_cons_succ, List.flatMap_cons, fm_set hC r k x x' j v h hj hx]
variable {w u : World} {b : Nat} {t : TypeId} {V : Value} {l : List α}
theorem row_get (hC : ∀ x, (C x).length = sz) (h : w.ownsRow b t sz V l.length (l.flatMap C)) {k : Nat} {x : α} (hx : l[k]? = some x) : ∃ g c, V = .slice (some ⟨g, 0, none⟩) l.length c ∧ b ≤ g ∧ TyB w t g ∧ (∀ j v, (C x)[j]? = some v → w.cell? ⟨g, k * sz + j, none⟩ = some v) ∧ ∀ j, w.frozen? ⟨g, j, none⟩ = false := by
  have hi := (List.getElem?_eq_some_iff.1 hx).1
  rcases h.2 with ⟨_, h0⟩ | ⟨g, cap, cur, rfl, hB, hg, h1, h2, h3, h4⟩
  · omega
  · refine ⟨g, cap, rfl, hB, ⟨_, _, hg⟩, fun j v hv => ?_, fun j => by simp [World.frozen?, hg]⟩
    have hf := fm_get hC l k x hx j v hv
    rw [← h4] at hf
    have hl := (List.getElem?_eq_some_iff.1 hf).1
    rw [List.length_take] at hl
    rw [List.getElem?_take_of_lt (by omega)] at hf
    simp only [World.cell?, hg]
    simpa using hf
/-- one cell is written -/
theorem row_put (hC : ∀ x, (C x).length = sz) (h : w.ownsRow b t sz V l.length (l.flatMap C)) {k : Nat} {x x' : α} (hx : l[k]? = some x) {j : Nat} (hj : j < sz) {v : Value} (hx' : C x' = (C x).set j v) {g n c : Nat} (hV : V = .slice (some ⟨g, 0, none⟩) n c) :
    (w.setCell ⟨g, k * sz + j, none⟩ v).ownsRow b t sz V (l.set k x').length ((l.set k x').flatMap C) := by
  have hi := (List.getElem?_eq_some_iff.1 hx).1
  rcases h.2 with ⟨_, h0⟩ | ⟨g', cap, cur, e, hB, hg, h1, h2, h3, h4⟩
  · omega
  · have eg : g' = g := by rw [e] at hV; cases hV; rfl
    subst eg
    refine ⟨fm_len hC _, .inr ⟨g', cap, _, by rw [List.length_set]; exact e, hB, heap_set hg _ _, by rw [List.length_set]; exact h1, h2, by simpa using h3, ?_⟩⟩
    rw [List.length_set, ← fm_set hC l k x x' j v hx hj hx', ← h4, ← List.take_set]
    simp
/-- the row is read as a list that was read before it -/
theorem row_form (h : w.ownsRow b t sz V l.length (l.flatMap C)) : ∃ a c, V = .slice a l.length c := by
  rcases h.2 with ⟨rfl, h0⟩ | ⟨g, cap, cur, rfl, _⟩
  · exact ⟨none, 0, by rw [h0]⟩
  · exact ⟨_, _, rfl⟩
theorem row_ty (h : w.ownsRow b t sz V l.length (l.flatMap C)) {k : Nat} (hk : V.ownBlock = some k) : TyB w t k ∧ k < w.heap.size ∧ b ≤ k := by
  rcases h.2 with ⟨rfl, _⟩ | ⟨g, cap, cur, rfl, hb, hg, _⟩
  · simp [Value.ownBlock] at hk
  · simp [Value.ownBlock] at hk
    subst hk
    exact ⟨⟨_, _, hg⟩, (Array.getElem?_eq_some_iff.1 hg).1, hb⟩
theorem fm_app (l m : List α) : (l ++ m).flatMap C = l.flatMap C ++ m.flatMap C := List.flatMap_append
end
theorem info_parts {e : TypeId} {z : Value} {sz bts : Nat} (h : (Try.prog.info? e).map (fun i => (i.zero, i.size, i.bytes)) = some (some z, sz, bts)) : ∃ i, Try.prog.info? e = some i ∧ i.zero = some z ∧ i.size = sz ∧ i.bytes = bts := by
  cases hi : Try.prog.info? e with
  | none => rw [hi] at h; simp at h
  | some i =>
    rw [hi] at h
    simp only [Option.map_some, Option.some.injEq, Prod.mk.injEq] at h
    exact ⟨i, rfl, h.1, h.2.1, h.2.2⟩
/-- AN APPEND OF ONE THING to a row of things -/
theorem wpList_append_row {α : Type} (C : α → List Value) {w : World} {ops : Array Oper} {rest : List Oper} {o : Oper} {a : Act} {Q : Exit → Act → World → Prop} (hgd : o.guard = none) (s y : Operand) {t e : TypeId}
    (ho : o.op = .call { callee := .builtin .append, args := #[s, y], argTypes := #[t, t] }) (z : Value) (sz bts : Nat) (ht : Try.prog.underlying t = some (.slice e)) (hin : (Try.prog.info? e).map (fun i => (i.zero, i.size, i.bytes)) = some (some z, sz, bts)) (hzc : z.cells.size = sz) (hsz : 0 < sz) (hC : ∀ x, (C x).length = sz)
    (B n : Nat) (V : Value) (l : List α) (hs : a.eval s = V) (hlen : l.length = n) (hown : w.ownsRow B e sz V l.length (l.flatMap C)) (ad : Addr) (cap : Nat) (x : α) (hy : a.eval y = .slice (some ad) 1 cap) (hc : ∀ j v, (C x)[j]? = some v → w.cell? (ad.add j) = some v) (h1 : ∀ u ∈ C x, u.oneCell' = true) (hl : n ≤ 20000000) (hbts : bts ≤ 100) (hb : B ≤ w.heap.size)
    (h : ∀ g cap' w', w'.ownsRow B e sz (.slice (some ⟨g, 0, none⟩) (n + 1) cap') (l ++ [x]).length ((l ++ [x]).flatMap C) → w.grownBy w' V.ownBlock → (V.ownBlock = some g ∨ g = w.heap.size) → g < w'.heap.size → wpList Try.prog ops Q rest (a.put o.dst (.slice (some ⟨g, 0, none⟩) (n + 1) cap')) w') : wpList Try.prog ops Q (o :: rest) a w := by
  refine wpList_plain hgd fun K hK => ?_
  subst hlen
  obtain ⟨i0, hi, hz0, hz1, hz2⟩ := info_parts hin
  obtain ⟨g, cap', w', hr, ho2, hg, hgg, hlt⟩ := run_append_lies (P := Try.prog) w t o.type B e i0 z sz bts ht hi hz0 hz1 hz2 hzc hsz V l.length _ hown ad 1 cap (C x) (by rw [hC, Nat.one_mul]) hc
    h1 (by decide) (by simp only [maxLen]; omega) (by have := Nat.mul_le_mul_left (l.length + 1) hbts; omega) hb w.heap.size rfl
  unfold Oper.wp execOp
  simp only [ho, resolve, invoke, builtin, Sem.run_bind, Sem.run_pure, Result.andThen_ok, List.map_toArray, List.map_cons, List.map_nil, hs, hy, hr]
  refine hK _ _ (h g cap' w' ?_ hg hgg hlt)
  rw [List.length_append, fm_app]
  have e : [x].flatMap C = C x := by simp
  rw [e]
  exact ho2
end Go.Proofs.Ytmdhlaccioaomaa
