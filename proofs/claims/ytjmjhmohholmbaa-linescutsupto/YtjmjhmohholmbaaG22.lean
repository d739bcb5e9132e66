/- LinesExact: its argument, its first loop's state. -/
import Derived.Test.YtjmjhmohholmbaaG21
namespace Go.Proofs.Ytjmjhmohholmbaa
open Go.RowKit Go.Maps Ln

/-- an op: bytes, drop, two -/
structure Opx where
  v : Value
  bs : List UInt8
  d : Bool
  t : Bool
def Opx.cells (o : Opx) : Array Value := #[o.v, .bool o.d, .bool o.t]
structure OpxAt (w : World) (a : Option Addr) (ops : List Opx) : Prop where
  cells : ops = [] ∨ ∃ b off, a = some ⟨b, off, none⟩ ∧ ∀ (i : Nat) (o : Opx), ops[i]? = some o → ∀ k v, o.cells[k]? = some v → w.cell? ⟨b, off + i * 3 + k, none⟩ = some v
  good : ∀ o ∈ ops, LAt w o.v (uv o.bs) ∧ o.bs.length ≤ 1048576
def gd (z : Int) : Bool := decide (0 ≤ z ∧ z ≤ 4096)
def pv (g : Bool) (b : Nat) : Value := .pointer (if g then some ⟨b, 0, none⟩ else none)
/-- WHAT THE FIRST LOOP HAS MADE -/
structure L1 (w : World) (A5 A6 : Nat) (z : Nat → Int) (j : Nat) (B R : Nat → Nat) (u : World) : Prop where
  lo : Below w.heap.size w u
  a5 : u.heap[A5]? = some (.cells #[if 0 < j then pv (gd (z 0)) (B 0) else .pointer none, if 1 < j then pv (gd (z 1)) (B 1) else .pointer none] 44 (0, 0))
  a6 : u.heap[A6]? = some (.cells #[if 0 < j then pv (gd (z 0)) (R 0) else .pointer none, if 1 < j then pv (gd (z 1)) (R 1) else .pointer none] 46 (0, 0))
  l5 : w.heap.size ≤ A5
  l6 : w.heap.size ≤ A6
  mm : ∀ i, i < j → gd (z i) = true → MkAt u (B i) (.slice none 0 0) (mk0 (z i).toNat) ∧ w.heap.size ≤ B i
  rk : ∀ i, i < j → gd (z i) = true → RkAt u (R i) (.slice none 0 0) (mk0 (z i).toNat) ∧ w.heap.size ≤ R i
  ne : ∀ i i', i < i' → i' < j → gd (z i) = true → gd (z i') = true → B i ≠ B i' ∧ R i ≠ R i'
section
variable {w u v : World} {A5 A6 j : Nat} {z : Nat → Int} {B R : Nat → Nat}
theorem L1.later (h : L1 w A5 A6 z j B R u) (hb : Below u.heap.size u v) : L1 w A5 A6 z j B R v :=
  ⟨below_step h.lo hb, (hb.block A5 (Array.getElem?_eq_some_iff.1 h.a5).1).trans h.a5, (hb.block A6 (Array.getElem?_eq_some_iff.1 h.a6).1).trans h.a6, h.l5, h.l6, fun i hi hg => ⟨(h.mm i hi hg).1.later hb, (h.mm i hi hg).2⟩, fun i hi hg => ⟨(h.rk i hi hg).1.later hb, (h.rk i hi hg).2⟩, h.ne⟩
theorem TyB.at {t : TypeId} {b : Nat} {x : Array Value} {f : Nat × Nat} (h : u.heap[b]? = some (.cells x t f)) (hf : f = (0, 0)) : TyB u t b := by subst hf; exact ⟨_, _, h⟩
/-- one more -/
theorem L1.put (h : L1 w A5 A6 z j B R u) (hj : j < 2) (b r : Nat) (hm : gd (z j) = true → MkAt u b (.slice none 0 0) (mk0 (z j).toNat) ∧ w.heap.size ≤ b ∧ ∀ i, i < j → gd (z i) = true → B i ≠ b) (hr : gd (z j) = true → RkAt u r (.slice none 0 0) (mk0 (z j).toNat) ∧ w.heap.size ≤ r ∧ ∀ i, i < j → gd (z i) = true → R i ≠ r) :
    L1 w A5 A6 z (j + 1) (upd B j b) (upd R j r) ((u.setCell ⟨A5, j, none⟩ (pv (gd (z j)) b)).setCell ⟨A6, j, none⟩ (pv (gd (z j)) r)) := by
  have t5 := TyB.at h.a5 rfl
  have t6 := TyB.at h.a6 rfl
  have hne : A5 ≠ A6 := fun e => by subst e; exact absurd (TyB.ne t5 t6) (by decide)
  have hk : ∀ k, k ≠ A5 → k ≠ A6 → ((u.setCell ⟨A5, j, none⟩ (pv (gd (z j)) b)).setCell ⟨A6, j, none⟩ (pv (gd (z j)) r)).heap[k]? = u.heap[k]? := fun k h1 h2 =>
    (Below.heap_setCell _ ⟨A6, j, none⟩ _ k h2).trans (Below.heap_setCell u ⟨A5, j, none⟩ _ k h1)
  have mk2 : ∀ {b' : Nat} {m : Mk}, MkAt u b' (.slice none 0 0) m → MkAt ((u.setCell ⟨A5, j, none⟩ (pv (gd (z j)) b)).setCell ⟨A6, j, none⟩ (pv (gd (z j)) r)) b' (.slice none 0 0) m := fun {b' m} hb =>
    ⟨(hk b' (fun e => absurd (TyB.ne (e ▸ hb.b.ty) t5) (by decide)) (fun e => absurd (TyB.ne (e ▸ hb.b.ty) t6) (by decide))).trans hb.b, hb.o.keep fun x hx _ => by cases hx⟩
  have rk2 : ∀ {b' : Nat} {m : Mk}, RkAt u b' (.slice none 0 0) m → RkAt ((u.setCell ⟨A5, j, none⟩ (pv (gd (z j)) b)).setCell ⟨A6, j, none⟩ (pv (gd (z j)) r)) b' (.slice none 0 0) m := fun {b' m} hb =>
    ⟨(hk b' (fun e => absurd (TyB.ne (e ▸ hb.b.ty) t5) (by decide)) (fun e => absurd (TyB.ne (e ▸ hb.b.ty) t6) (by decide))).trans hb.b, hb.o.keep fun x hx _ => by cases hx⟩
  have e5 : ((u.setCell ⟨A5, j, none⟩ (pv (gd (z j)) b)).setCell ⟨A6, j, none⟩ (pv (gd (z j)) r)).heap[A5]? = (u.setCell ⟨A5, j, none⟩ (pv (gd (z j)) b)).heap[A5]? := Below.heap_setCell _ ⟨A6, j, none⟩ _ A5 hne
  have e6 : (u.setCell ⟨A5, j, none⟩ (pv (gd (z j)) b)).heap[A6]? = u.heap[A6]? := Below.heap_setCell u ⟨A5, j, none⟩ _ A6 (fun e => hne e.symm)
  refine ⟨(h.lo.setCell (by simpa using h.l5) _).setCell (by simpa using h.l6) _, ?_, ?_, h.l5, h.l6, fun i hi hg => ?_, fun i hi hg => ?_, fun i i' h1 h2 g1 g2 => ?_⟩
  · rw [e5, heap_set h.a5]
    rcases (by omega : j = 0 ∨ j = 1) with rfl | rfl
    · simp [upd]
    · simp [upd]
  · rw [heap_set (e6.trans h.a6)]
    rcases (by omega : j = 0 ∨ j = 1) with rfl | rfl
    · simp [upd]
    · simp [upd]
  · by_cases e : i = j
    · subst e
      rw [upd_same]
      exact ⟨mk2 (hm hg).1, (hm hg).2.1⟩
    · rw [upd_other _ _ e]
      obtain ⟨x1, x2⟩ := h.mm i (by omega) hg
      exact ⟨mk2 x1, x2⟩
  · by_cases e : i = j
    · subst e
      rw [upd_same]
      exact ⟨rk2 (hr hg).1, (hr hg).2.1⟩
    · rw [upd_other _ _ e]
      obtain ⟨x1, x2⟩ := h.rk i (by omega) hg
      exact ⟨rk2 x1, x2⟩
  · have e : i ≠ j := by omega
    rw [upd_other _ _ e, upd_other _ _ e]
    by_cases e2 : i' = j
    · subst e2
      rw [upd_same, upd_same]
      exact ⟨(hm g2).2.2 i h1 g1, (hr g2).2.2 i h1 g1⟩
    · rw [upd_other _ _ e2, upd_other _ _ e2]
      exact h.ne i i' h1 (by omega) g1 g2
theorem two_cells {b : Nat} {x y : Value} {t : TypeId} (h : u.heap[b]? = some (.cells #[x, y] t (0, 0))) {j : Nat} (hj : j < 2) : ∃ c, u.cell? ⟨b, j, none⟩ = some c ∧ u.frozen? ⟨b, j, none⟩ = false := by
  rcases (by omega : j = 0 ∨ j = 1) with rfl | rfl
  · exact ⟨x, by simp [World.cell?, h], by simp [World.frozen?, h]⟩
  · exact ⟨y, by simp [World.cell?, h], by simp [World.frozen?, h]⟩
theorem L1.spots (h : L1 w A5 A6 z j B R u) {i : Nat} (hi : i < 2) (X : Value) : (∃ c, u.cell? ⟨A5, i, none⟩ = some c) ∧ u.frozen? ⟨A5, i, none⟩ = false ∧ (∃ c, (u.setCell ⟨A5, i, none⟩ X).cell? ⟨A6, i, none⟩ = some c) ∧ (u.setCell ⟨A5, i, none⟩ X).frozen? ⟨A6, i, none⟩ = false := by
  have hne : A6 ≠ A5 := fun e => by
    have t5 := TyB.at h.a5 rfl
    have t6 := TyB.at h.a6 rfl
    subst e; exact absurd (TyB.ne t5 t6) (by decide)
  obtain ⟨c, h1, h2⟩ := two_cells h.a5 hi
  obtain ⟨c', h3, h4⟩ := two_cells (u := u.setCell ⟨A5, i, none⟩ X) ((Below.heap_setCell u ⟨A5, i, none⟩ X A6 hne).trans h.a6) hi
  exact ⟨⟨c, h1⟩, h2, ⟨c', h3⟩, h4⟩
/-- both are there -/
theorem L1.four (h : L1 w A5 A6 z 2 B R u) (g0 : gd (z 0) = true) (g1 : gd (z 1) = true) : X4 w (fun k => k = A5 ∨ k = A6) B R (fun i => mk0 (z i).toNat) (fun i => mk0 (z i).toNat) (fun _ => .slice none 0 0) (fun _ => .slice none 0 0) u ∧ u.heap[A5]? = some (.cells #[.pointer (some ⟨B 0, 0, none⟩), .pointer (some ⟨B 1, 0, none⟩)] 44 (0, 0)) ∧ u.heap[A6]? = some (.cells #[.pointer (some ⟨R 0, 0, none⟩), .pointer (some ⟨R 1, 0, none⟩)] 46 (0, 0)) := by
  have g : ∀ i, i < 2 → gd (z i) = true := fun i hi => by
    rcases (by omega : i = 0 ∨ i = 1) with rfl | rfl
    · exact g0
    · exact g1
  have h5 := h.a5
  have h6 := h.a6
  rw [g0, g1] at h5 h6
  have t5 := TyB.at h.a5 rfl
  have t6 := TyB.at h.a6 rfl
  have n2 : ∀ i j, i < 2 → j < 2 → i ≠ j → B i ≠ B j ∧ R i ≠ R j := fun i j hi hj hne => by
    rcases Nat.lt_or_ge i j with x | x
    · exact h.ne i j x hj (g i hi) (g j hj)
    · have := h.ne j i (by omega) hi (g j hj) (g i hi)
      exact ⟨fun e => this.1 e.symm, fun e => this.2 e.symm⟩
  refine ⟨⟨fun i hi => (h.mm i hi (g i hi)).1, fun i hi => (h.rk i hi (g i hi)).1, fun i j b _ _ _ e => (by cases e), fun i j b _ _ _ e => (by cases e), fun i j b _ _ e => (by cases e), fun i b _ e => (by cases e), fun i b _ e => (by cases e), fun i hi => ⟨(h.mm i hi (g i hi)).2, fun e => ?_⟩, fun i hi => ⟨(h.rk i hi (g i hi)).2, fun e => ?_⟩, fun i j hi hj hne => (n2 i j hi hj hne).1, fun i j hi hj hne => (n2 i j hi hj hne).2, fun k hk => ?_, h.lo⟩, by simpa [pv] using h5, by simpa [pv] using h6⟩
  · have := (h.mm i hi (g i hi)).1.b.ty
    rcases e with e | e
    · rw [e] at this; exact absurd (TyB.ne this t5) (by decide)
    · rw [e] at this; exact absurd (TyB.ne this t6) (by decide)
  · have := (h.rk i hi (g i hi)).1.b.ty
    rcases e with e | e
    · rw [e] at this; exact absurd (TyB.ne this t5) (by decide)
    · rw [e] at this; exact absurd (TyB.ne this t6) (by decide)
  · rcases hk with e | e
    · rw [e]; exact t5.lt
    · rw [e]; exact t6.lt
end
end Go.Proofs.Ytjmjhmohholmbaa
