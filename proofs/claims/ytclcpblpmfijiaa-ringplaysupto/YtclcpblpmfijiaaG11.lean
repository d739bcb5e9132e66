/- A pair in memory: blocks by tags. -/
import Derived.Test.YtclcpblpmfijiaaG10
namespace Go.Proofs.Ytclcpblpmfijiaa
open Go.RowKit Go.Maps Rg

/-- whose a block is, and what for -/
abbrev Tg := Nat → Nat × Nat
def OwT (T : Tg) (t : Nat × Nat) (u : World) (e : TypeId) (V : Value) (n : Nat) (xs : List Value) : Prop := u.ownsRow 0 e 1 V n xs ∧ ∀ b, V.ownBlock = some b → T b = t
def TL (T : Tg) (t : Nat × Nat) (u : World) (V : Value) (xs : List Value) : Prop := LAtX (fun b => T b = t) u V xs
section
variable {T T' : Tg} {t : Nat × Nat} {u u' u'' : World} {e : TypeId} {V : Value} {n : Nat} {xs : List Value}
theorem own_lt {B : Nat} (h : u.ownsRow B e 1 V n xs) {b : Nat} (hb : V.ownBlock = some b) : b < u.heap.size := by
  rcases h.2 with ⟨rfl, _⟩ | ⟨g, cap, cur, rfl, hBg, hg, _⟩
  · simp [Value.ownBlock] at hb
  · simp [Value.ownBlock] at hb
    subst hb
    exact (Array.getElem?_eq_some_iff.1 hg).1
theorem OwT.move (h : OwT T t u e V n xs) (hT : ∀ k, k < u.heap.size → T' k = T k) (hs : ∀ k, k < u.heap.size → T k = t → u'.heap[k]? = u.heap[k]?) : OwT T' t u' e V n xs :=
  ⟨ownsRow_keep h.1 (fun g hg _ hlt => hs g hlt (h.2 g hg)), fun b hb => (hT b (own_lt h.1 hb)).trans (h.2 b hb)⟩
theorem OwT.ty (h : OwT T t u e V n xs) {b : Nat} (hb : V.ownBlock = some b) : TyB u e b := by
  rcases h.1.2 with ⟨rfl, _⟩ | ⟨g, cap, cur, rfl, hBg, hg, _⟩
  · simp [Value.ownBlock] at hb
  · simp [Value.ownBlock] at hb
    subst hb
    exact ⟨_, _, hg⟩
theorem TL.move (h : TL T t u V xs) (hT : ∀ k, k < u.heap.size → T' k = T k) (hs : ∀ k, k < u.heap.size → T k = t → u'.heap[k]? = u.heap[k]?) : TL T' t u' V xs := by
  have h1 : LAtX (fun b => T b = t) u' V xs := LAtX.keep h (fun b hb hlt => hs b hlt hb)
  refine ⟨h1.1, fun b off n c e hn => ?_⟩
  have hb := h.2 b off n c e hn
  obtain ⟨a, c', e2, _, _, h3⟩ := h.1
  rcases h3 with h3 | ⟨b', off', ea, hc⟩
  · exact absurd h3 hn
  · rw [e] at e2
    obtain ⟨e3, _, _⟩ := Value.slice.inj e2
    rw [ea] at e3
    cases e3
    have h0 : 0 < xs.length := by
      cases xs with
      | nil => exact absurd rfl hn
      | cons x r => simp
    exact (hT b (lt_of_cell (hc 0 xs[0] (List.getElem?_eq_getElem h0)))).trans hb
/-- a method on pair p has turned memory -/
structure Ext (p : Nat) (T T' : Tg) (u u' : World) : Prop where
  t : ∀ k, k < u.heap.size → T' k = T k
  f : FrP (fun k => (T k).1 = p) u u'
theorem Ext.refl (p : Nat) (T : Tg) (u : World) : Ext p T T u u := ⟨fun _ _ => rfl, FrP.refl _ u⟩
theorem Ext.trans {p : Nat} {T'' : Tg} (h : Ext p T T' u u') (h2 : Ext p T' T'' u' u'') : Ext p T T'' u u'' :=
  ⟨fun k hk => (h2.t k (Nat.lt_of_lt_of_le hk h.f.size)).trans (h.t k hk), h.f.trans h2.f (fun k hk hq => by rw [h.t k hk] at hq; exact hq)⟩
theorem Ext.of_below (p : Nat) (T : Tg) (h : Below u.heap.size u u') : Ext p T T u u' := ⟨fun _ _ => rfl, FrP.of_below _ h⟩
theorem Ext.of_frp {p : Nat} {Q : Nat → Prop} (h : FrP Q u u') (hq : ∀ k, Q k → (T k).1 = p) : Ext p T T u u' := ⟨fun _ _ => rfl, h.mono (fun k _ x => hq k x)⟩
end
/-- the lists that were answered, and what they must be -/
def LsAt (p : Nat) (T : Tg) (u : World) (VL VW : Value) (LL : List (List Int)) : Prop :=
  ∃ vs ws, OwT T (p, 4) u 43 VL LL.length vs ∧ OwT T (p, 5) u 43 VW LL.length ws ∧ ∀ (i : Nat) xs, LL[i]? = some xs → ∃ V W, vs[i]? = some V ∧ ws[i]? = some W ∧ OwT T (p, 7 + i) u 3 V xs.length (ints xs) ∧ TL T (p, 6) u W (ints xs) ∧ xs.length ≤ 64
theorem LsAt.move {p : Nat} {T T' : Tg} {u u' : World} {VL VW : Value} {LL : List (List Int)} (h : LsAt p T u VL VW LL) (hT : ∀ k, k < u.heap.size → T' k = T k) (hs : ∀ k r, k < u.heap.size → 4 ≤ r → T k = (p, r) → u'.heap[k]? = u.heap[k]?) : LsAt p T' u' VL VW LL := by
  obtain ⟨vs, ws, h1, h2, h3⟩ := h
  refine ⟨vs, ws, h1.move hT (fun k hk e => hs k 4 hk (by omega) e), h2.move hT (fun k hk e => hs k 5 hk (by omega) e), fun i xs hi => ?_⟩
  obtain ⟨V, W, a1, a2, a3, a4, a5⟩ := h3 i xs hi
  exact ⟨V, W, a1, a2, a3.move hT (fun k hk e => hs k (7 + i) hk (by omega) e), a4.move hT (fun k hk e => hs k 6 hk (by omega) e), a5⟩
def PBox (u : World) (D B Q : Nat) (VL VW : Value) : Prop := u.heap[D]? = some (.cells #[.pointer (some ⟨B, 0, none⟩), .pointer (some ⟨Q, 0, none⟩), VL, VW] 54 (0, 0))
section
variable {u u' : World} {D B Q : Nat} {VL VW : Value}
theorem PBox.cells (h : PBox u D B Q VL VW) : u.cell? ⟨D, 0, none⟩ = some (.pointer (some ⟨B, 0, none⟩)) ∧ u.cell? ⟨D, 1, none⟩ = some (.pointer (some ⟨Q, 0, none⟩)) ∧ u.cell? ⟨D, 2, none⟩ = some VL ∧ u.cell? ⟨D, 3, none⟩ = some VW := by
  simp [World.cell?, show u.heap[D]? = _ from h]
theorem PBox.frozen (h : PBox u D B Q VL VW) (j : Nat) : u.frozen? ⟨D, j, none⟩ = false := by simp [World.frozen?, show u.heap[D]? = _ from h]
theorem PBox.lt (h : PBox u D B Q VL VW) : D < u.heap.size := (Array.getElem?_eq_some_iff.1 h).1
theorem PBox.same (h : PBox u D B Q VL VW) (e : u'.heap[D]? = u.heap[D]?) : PBox u' D B Q VL VW := e.trans h
theorem PBox.put2 (h : PBox u D B Q VL VW) (V : Value) : PBox (u.setCell ⟨D, 2, none⟩ V) D B Q V VW := by unfold PBox; rw [heap_set h]; simp
theorem PBox.put3 (h : PBox u D B Q VL VW) (V : Value) : PBox (u.setCell ⟨D, 3, none⟩ V) D B Q VL V := by unfold PBox; rw [heap_set h]; simp
end
/-- A PAIR IN MEMORY: lr: the ring's things, lq: the document's -/
structure PAt (p : Nat) (T : Tg) (u : World) (D B R Q N f : Nat) (VQ VL VW : Value) (lr lq : List Int) (LL : List (List Int)) : Prop where
  d : PBox u D B Q VL VW
  g : RgAt u B R N f lr
  q : RefB u Q N VQ
  lq : TL T (p, 6) u VQ (ints lq)
  ls : LsAt p T u VL VW LL
  tD : T D = (p, 0)
  tB : T B = (p, 1)
  tR : T R = (p, 2)
  tQ : T Q = (p, 3)
section
variable {p : Nat} {T T' : Tg} {u u' : World} {D B R Q N f : Nat} {VQ VL VW : Value} {lr lq : List Int} {LL : List (List Int)}
theorem PAt.move (h : PAt p T u D B R Q N f VQ VL VW lr lq LL) (hT : ∀ k, k < u.heap.size → T' k = T k) (hs : ∀ k, k < u.heap.size → (T k).1 = p → u'.heap[k]? = u.heap[k]?) : PAt p T' u' D B R Q N f VQ VL VW lr lq LL :=
  ⟨h.d.same (hs D h.d.lt (by rw [h.tD])), h.g.same (hs B h.g.b.lt (by rw [h.tB])) (hs R h.g.r.lt (by rw [h.tR])), h.q.same (hs Q h.q.lt (by rw [h.tQ])), h.lq.move hT (fun k hk e => hs k hk (by rw [e])), h.ls.move hT (fun k r hk _ e => hs k hk (by rw [e])),
    (hT D h.d.lt).trans h.tD, (hT B h.g.b.lt).trans h.tB, (hT R h.g.r.lt).trans h.tR, (hT Q h.q.lt).trans h.tQ⟩
/-- another pair's method -/
theorem PAt.other {q : Nat} (h : PAt p T u D B R Q N f VQ VL VW lr lq LL) (hx : Ext q T T' u u') (hq : q ≠ p) : PAt p T' u' D B R Q N f VQ VL VW lr lq LL :=
  h.move hx.t (fun k hk e => hx.f.block k hk (fun e2 => hq (e2.symm.trans e)))
theorem PAt.later (h : PAt p T u D B R Q N f VQ VL VW lr lq LL) (hb : Below u.heap.size u u') : PAt p T u' D B R Q N f VQ VL VW lr lq LL :=
  h.move (fun _ _ => rfl) (fun k hk _ => hb.block k hk)
/-- the ring has turned -/
theorem PAt.ring (h : PAt p T u D B R Q N f VQ VL VW lr lq LL) {f' : Nat} {lr' : List Int} (h2 : RTo B R N f' lr' u u') : PAt p T u' D B R Q N f' VQ VL VW lr' lq LL ∧ Ext p T T u u' := by
  have hs : ∀ k r, k < u.heap.size → T k = (p, r) → r ≠ 1 → r ≠ 2 → u'.heap[k]? = u.heap[k]? := fun k r hk e n1 n2 => h2.2.block k hk (fun x => by
    rcases x with x | x
    · subst x; rw [h.tB] at e; exact n1 (by cases e; rfl)
    · subst x; rw [h.tR] at e; exact n2 (by cases e; rfl))
  refine ⟨⟨h.d.same (hs D 0 h.d.lt h.tD (by omega) (by omega)), h2.1, h.q.same (hs Q 3 h.q.lt h.tQ (by omega) (by omega)), h.lq.move (fun _ _ => rfl) (fun k hk e => hs k 6 hk e (by omega) (by omega)), h.ls.move (fun _ _ => rfl) (fun k r hk hr e => hs k r hk e (by omega) (by omega)), h.tD, h.tB, h.tR, h.tQ⟩, ?_⟩
  exact Ext.of_frp h2.2 (fun k x => by rcases x with x | x <;> subst x <;> simp [h.tB, h.tR])
/-- the document's ring has turned -/
theorem PAt.ref (h : PAt p T u D B R Q N f VQ VL VW lr lq LL) {VQ' : Value} {lq' : List Int} (h1 : RefB u' Q N VQ') (h2 : LAtX (fun b => u.heap.size ≤ b ∨ T b = (p, 6)) u' VQ' (ints lq')) (h3 : FrP (fun k => k = Q) u u') :
    PAt p (fun k => if k < u.heap.size then T k else (p, 6)) u' D B R Q N f VQ' VL VW lr lq' LL ∧ Ext p T (fun k => if k < u.heap.size then T k else (p, 6)) u u' := by
  have hT : ∀ k, k < u.heap.size → (fun k => if k < u.heap.size then T k else (p, 6)) k = T k := fun k hk => if_pos hk
  have hs : ∀ k r, k < u.heap.size → T k = (p, r) → r ≠ 3 → u'.heap[k]? = u.heap[k]? := fun k r hk e n1 => h3.block k hk (fun x => by
    subst x; rw [h.tQ] at e; exact n1 (by cases e; rfl))
  refine ⟨⟨h.d.same (hs D 0 h.d.lt h.tD (by omega)), h.g.same (hs B 1 h.g.b.lt h.tB (by omega)) (hs R 2 h.g.r.lt h.tR (by omega)), h1, ⟨h2.1, fun b off n c e hn => ?_⟩, h.ls.move hT (fun k r hk hr e => hs k r hk e (by omega)), (hT D h.d.lt).trans h.tD, (hT B h.g.b.lt).trans h.tB, (hT R h.g.r.lt).trans h.tR, (hT Q h.q.lt).trans h.tQ⟩, hT, h3.mono (fun k _ x => by subst x; rw [h.tQ])⟩
  show (if b < u.heap.size then T b else (p, 6)) = (p, 6)
  rcases h2.2 b off n c e hn with x | x
  · rw [if_neg (by omega)]
  · split
    · exact x
    · rfl
end
end Go.Proofs.Ytclcpblpmfijiaa
