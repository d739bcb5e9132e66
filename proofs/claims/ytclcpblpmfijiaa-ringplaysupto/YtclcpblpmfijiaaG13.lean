/- Families of rows that are one's own, each in a block of its own (as stage 12's). -/
import Derived.Test.YtclcpblpmfijiaaG11
namespace Go.Proofs.Ytclcpblpmfijiaa
open Go.RowKit Go.Maps Rg

theorem own_at {u : World} {base : Nat} {t : TypeId} {V : Value} {k : Nat} {xs : List Value} (hr : u.ownsRow base t 1 V k xs) : ∀ b, V.ownBlock = some b → base ≤ b ∧ b < u.heap.size := fun b hb => hr.lt b hb
theorem own_keep {u v : World} {base : Nat} {t : TypeId} {V : Value} {k : Nat} {xs : List Value} (hr : u.ownsRow base t 1 V k xs) (hk : ∀ b, V.ownBlock = some b → v.heap[b]? = u.heap[b]?) : v.ownsRow base t 1 V k xs := ownsRow_keep hr (fun g hg _ _ => hk g hg)
/-- a row: its elements' type, its slice, its cells -/
abbrev Rw := TypeId × Value × List Value
structure Fam (A : Nat) (u : World) (F : Nat → Option Rw) : Prop where
  own : ∀ i t v xs, F i = some (t, v, xs) → u.ownsRow A t 1 v xs.length xs
  inj : ∀ i j t v xs t' v' xs' k, F i = some (t, v, xs) → F j = some (t', v', xs') → v.ownBlock = some k → v'.ownBlock = some k → i = j
def upd (F : Nat → Option Rw) (i : Nat) (r : Rw) : Nat → Option Rw := fun j => if j = i then some r else F j
theorem upd_at (F : Nat → Option Rw) (i : Nat) (r : Rw) : upd F i r i = some r := if_pos rfl
theorem upd_ne (F : Nat → Option Rw) {i j : Nat} (r : Rw) (h : j ≠ i) : upd F i r j = F j := if_neg h
section
variable {A : Nat} {u v : World} {F : Nat → Option Rw}
theorem Fam.keep (h : Fam A u F) (hk : ∀ i t x xs b, F i = some (t, x, xs) → x.ownBlock = some b → v.heap[b]? = u.heap[b]?) : Fam A v F :=
  ⟨fun i t x xs hi => own_keep (h.own i t x xs hi) (fun b hb => hk i t x xs b hi hb), h.inj⟩
theorem Fam.later (h : Fam A u F) (hb : Below u.heap.size u v) : Fam A v F :=
  h.keep (fun i t x xs b hi hx => hb.block b (own_at (h.own i t x xs hi) b hx).2)
/-- a row more, or another in its place -/
theorem Fam.set (h : Fam A u F) {i : Nat} {t : TypeId} {x : Value} {xs : List Value} (ho : u.ownsRow A t 1 x xs.length xs) (hd : ∀ j t' x' xs' b, j ≠ i → F j = some (t', x', xs') → x'.ownBlock = some b → x.ownBlock ≠ some b) : Fam A u (upd F i (t, x, xs)) := by
  refine ⟨fun j t' x' xs' hj => ?_, fun j k t1 x1 xs1 t2 x2 xs2 b hj hk h1 h2 => ?_⟩
  · by_cases e : j = i
    · subst e
      rw [upd_at] at hj
      cases hj
      exact ho
    · rw [upd_ne F _ e] at hj
      exact h.own j _ _ _ hj
  · by_cases ej : j = i
    · subst ej
      by_cases ek : k = j
      · exact ek.symm
      · rw [upd_ne F _ ek] at hk
        rw [upd_at] at hj
        cases hj
        exact absurd h1 (hd k _ _ _ b ek hk h2)
    · by_cases ek : k = i
      · subst ek
        rw [upd_ne F _ ej] at hj
        rw [upd_at] at hk
        cases hk
        exact absurd h2 (hd j _ _ _ b ej hj h1)
      · rw [upd_ne F _ ej] at hj
        rw [upd_ne F _ ek] at hk
        exact h.inj j k _ _ _ _ _ _ b hj hk h1 h2
theorem Fam.nil (h : Fam A u F) (i : Nat) (t : TypeId) : Fam A u (upd F i (t, .slice none 0 0, [])) :=
  h.set (World.ownsRow_nil u A t 1) (fun j t' x' xs' b _ _ _ hb => by simp [Value.ownBlock] at hb)
/-- a new row: in a block that there was not -/
theorem Fam.add (h : Fam A u F) (hb : Below u.heap.size u v) {i : Nat} {t : TypeId} {x : Value} {xs : List Value} (ho : v.ownsRow u.heap.size t 1 x xs.length xs) (hA : A ≤ u.heap.size) : Fam A v (upd F i (t, x, xs)) := by
  refine (h.later hb).set ?_ (fun j t' x' xs' b _ hj hx' hx => ?_)
  · refine ⟨ho.1, ?_⟩
    rcases ho.2 with h2 | ⟨g, cap, cur, hv, hBg, rest⟩
    · exact .inl h2
    · exact .inr ⟨g, cap, cur, hv, by omega, rest⟩
  · have h1 := (own_at (h.own j _ _ _ hj) b hx').2
    have h2 := (own_at ho b hx).1
    omega
/-- behind an append to row i -/
theorem Fam.grown (h : Fam A u F) {i : Nat} {t : TypeId} {x x' : Value} {xs ys : List Value} (hi : F i = some (t, x, xs)) (ho : v.ownsRow A t 1 x' ys.length ys) (hg : u.grownBy v x.ownBlock) (hh : Here u x x') : Fam A v (upd F i (t, x', ys)) := by
  have hother : ∀ j t' y zs b, j ≠ i → F j = some (t', y, zs) → y.ownBlock = some b → x.ownBlock ≠ some b := fun j t' y zs b hj hF hb hx => hj (h.inj j i _ _ _ _ _ _ b hF hi hb hx)
  refine ⟨fun j t' y zs hj => ?_, fun j k t1 x1 xs1 t2 x2 xs2 b hj hk h1 h2 => ?_⟩
  · by_cases e : j = i
    · subst e
      rw [upd_at] at hj
      cases hj
      exact ho
    · rw [upd_ne F _ e] at hj
      exact own_keep (h.own j _ _ _ hj) (fun b hb => hg.block b (own_at (h.own j _ _ _ hj) b hb).2 (fun hx => hother j _ _ _ b e hj hb hx.symm))
  · have key : ∀ m t' y zs, m ≠ i → F m = some (t', y, zs) → y.ownBlock = some b → x'.ownBlock ≠ some b := fun m t' y zs hm hF hb hx => by
      rcases hh b hx with h3 | h3
      · exact hother m _ _ _ b hm hF hb h3
      · have := (own_at (h.own m _ _ _ hF) b hb).2
        omega
    by_cases ej : j = i
    · subst ej
      by_cases ek : k = j
      · exact ek.symm
      · rw [upd_ne F _ ek] at hk
        rw [upd_at] at hj
        cases hj
        exact absurd h1 (key k _ _ _ ek hk h2)
    · by_cases ek : k = i
      · subst ek
        rw [upd_ne F _ ej] at hj
        rw [upd_at] at hk
        cases hk
        exact absurd h2 (key j _ _ _ ej hj h1)
      · rw [upd_ne F _ ej] at hj
        rw [upd_ne F _ ek] at hk
        exact h.inj j k _ _ _ _ _ _ b hj hk h1 h2
/-- a cell of row i written over -/
theorem Fam.put (h : Fam A u F) {i : Nat} {t : TypeId} {g n c : Nat} {xs : List Value} (hi : F i = some (t, .slice (some ⟨g, 0, none⟩) n c, xs)) (j : Nat) (x : Value) : Fam A (u.setCell ⟨g, j, none⟩ x) (upd F i (t, .slice (some ⟨g, 0, none⟩) n c, xs.set j x)) := by
  have ho := h.own i _ _ _ hi
  have hl : xs.length = n := by
    rcases ho.2 with ⟨e, _⟩ | ⟨g', cap, cur, e, _⟩
    · cases e
    · cases e; rfl
  rw [hl] at ho
  have hs := ho.stored j x
  have hother : ∀ k, k ≠ g → (u.setCell ⟨g, j, none⟩ x).heap[k]? = u.heap[k]? := fun k hk => Below.heap_setCell u ⟨g, j, none⟩ x k hk
  have h2 : Fam A u (fun k => if k = i then none else F k) := ⟨fun k t' y zs hk => h.own k t' y zs (by by_cases e : k = i <;> simp [e] at hk; exact hk), fun k m t1 x1 xs1 t2 x2 xs2 b hk hm h1 h2 => by
    by_cases e : k = i <;> by_cases e2 : m = i <;> simp [e, e2] at hk hm
    exact h.inj k m _ _ _ _ _ _ b hk hm h1 h2⟩
  have h3 : Fam A (u.setCell ⟨g, j, none⟩ x) (fun k => if k = i then none else F k) := h2.keep (fun k t' y zs b hk hb => hother b (fun e => by
    subst e
    by_cases e : k = i
    · simp [e] at hk
    · simp only [e, if_false] at hk
      exact e (h.inj k i _ _ _ _ _ _ b hk hi hb rfl)))
  have h4 := h3.set (i := i) (t := t) (x := .slice (some ⟨g, 0, none⟩) n c) (xs := xs.set j x) (by
    rw [List.length_set, hl]
    exact hs.1) (fun k t' y zs b hk hF hb hx => by
    simp only [hk, if_false] at hF
    exact hk (h.inj k i _ _ _ _ _ _ b hF hi hb hx))
  have e : upd (fun k => if k = i then none else F k) i (t, .slice (some ⟨g, 0, none⟩) n c, xs.set j x) = upd F i (t, .slice (some ⟨g, 0, none⟩) n c, xs.set j x) := by
    funext k
    unfold upd
    by_cases e : k = i <;> simp [e]
  rw [e] at h4
  exact h4
end
end Go.Proofs.Ytclcpblpmfijiaa
