/- Two makers and two of the document's, in new memory. -/
import Derived.Test.YtjmjhmohholmbaaG20
namespace Go.Proofs.Ytjmjhmohholmbaa
open Go.RowKit Go.Maps Ln

def upd {α : Type} (f : Nat → α) (i : Nat) (x : α) : Nat → α := fun j => if j = i then x else f j
theorem upd_same {α : Type} (f : Nat → α) (i : Nat) (x : α) : upd f i x i = x := if_pos rfl
theorem upd_other {α : Type} (f : Nat → α) {i j : Nat} (x : α) (h : j ≠ i) : upd f i x j = f j := if_neg h
/-- G: blocks that stand -/
structure X4 (w : World) (G : Nat → Prop) (B R : Nat → Nat) (m r : Nat → Mk) (V U : Nat → Value) (u : World) : Prop where
  mm : ∀ i, i < 2 → MkAt u (B i) (V i) (m i)
  rk : ∀ i, i < 2 → RkAt u (R i) (U i) (r i)
  vv : ∀ i j b, i < 2 → j < 2 → i ≠ j → (V i).ownBlock = some b → (V j).ownBlock ≠ some b
  uu : ∀ i j b, i < 2 → j < 2 → i ≠ j → (U i).ownBlock = some b → (U j).ownBlock ≠ some b
  vu : ∀ i j b, i < 2 → j < 2 → (V i).ownBlock = some b → (U j).ownBlock ≠ some b
  vl : ∀ i b, i < 2 → (V i).ownBlock = some b → w.heap.size ≤ b ∧ ¬ G b
  ul : ∀ i b, i < 2 → (U i).ownBlock = some b → w.heap.size ≤ b ∧ ¬ G b
  bl : ∀ i, i < 2 → w.heap.size ≤ B i ∧ ¬ G (B i)
  rl : ∀ i, i < 2 → w.heap.size ≤ R i ∧ ¬ G (R i)
  nB : ∀ i j, i < 2 → j < 2 → i ≠ j → B i ≠ B j
  nR : ∀ i j, i < 2 → j < 2 → i ≠ j → R i ≠ R j
  gl : ∀ k, G k → k < u.heap.size
  lo : Below w.heap.size w u
section
variable {w u v : World} {G G' : Nat → Prop} {B R : Nat → Nat} {m r : Nat → Mk} {V U : Nat → Value}
theorem RkAt.later {B : Nat} {V : Value} {m : Mk} (h : RkAt w B V m) (hb : Below w.heap.size w u) : RkAt u B V m := ⟨(hb.block B h.b.lt).trans h.b, h.o.keep fun b _ hl => hb.block b hl⟩
theorem X4.later (h : X4 w G B R m r V U u) (hb : Below u.heap.size u v) : X4 w G B R m r V U v :=
  ⟨fun i hi => (h.mm i hi).later hb, fun i hi => (h.rk i hi).later hb, h.vv, h.uu, h.vu, h.vl, h.ul, h.bl, h.rl, h.nB, h.nR, fun k hk => Nat.lt_of_lt_of_le (h.gl k hk) hb.size, below_step h.lo hb⟩
/-- new blocks stand, too -/
theorem X4.mark (h : X4 w G B R m r V U u) (hb : Below u.heap.size u v) : X4 w (fun k => G k ∨ (u.heap.size ≤ k ∧ k < v.heap.size)) B R m r V U v := by
  have h' := h.later hb
  refine ⟨h'.mm, h'.rk, h'.vv, h'.uu, h'.vu, fun i b hi hb => ⟨(h.vl i b hi hb).1, fun e => ?_⟩, fun i b hi hb => ⟨(h.ul i b hi hb).1, fun e => ?_⟩, fun i hi => ⟨(h.bl i hi).1, fun e => ?_⟩, fun i hi => ⟨(h.rl i hi).1, fun e => ?_⟩, h.nB, h.nR, fun k hk => ?_, h'.lo⟩
  · rcases e with e | e
    · exact (h.vl i b hi hb).2 e
    · have := ((h.mm i hi).o.ty hb).2; omega
  · rcases e with e | e
    · exact (h.ul i b hi hb).2 e
    · have := ((h.rk i hi).o.ty hb).2; omega
  · rcases e with e | e
    · exact (h.bl i hi).2 e
    · have := (h.mm i hi).b.lt; omega
  · rcases e with e | e
    · exact (h.rl i hi).2 e
    · have := (h.rk i hi).b.lt; omega
  · rcases hk with hk | hk
    · exact h'.gl k hk
    · exact hk.2
theorem X4.weaken (h : X4 w G B R m r V U u) (hg : ∀ k, G' k → G k) : X4 w G' B R m r V U u :=
  ⟨h.mm, h.rk, h.vv, h.uu, h.vu, fun i b hi hb => ⟨(h.vl i b hi hb).1, fun e => (h.vl i b hi hb).2 (hg _ e)⟩, fun i b hi hb => ⟨(h.ul i b hi hb).1, fun e => (h.ul i b hi hb).2 (hg _ e)⟩, fun i hi => ⟨(h.bl i hi).1, fun e => (h.bl i hi).2 (hg _ e)⟩, fun i hi => ⟨(h.rl i hi).1, fun e => (h.rl i hi).2 (hg _ e)⟩, h.nB, h.nR, fun k hk => h.gl k (hg k hk), h.lo⟩
/-- a block that stands is written -/
theorem X4.set (h : X4 w G B R m r V U u) {g : Nat} (hg : G g) (hw : w.heap.size ≤ g) (j : Nat) (x : Value) : X4 w G B R m r V U (u.setCell ⟨g, j, none⟩ x) := by
  have hk : ∀ k, k ≠ g → (u.setCell ⟨g, j, none⟩ x).heap[k]? = u.heap[k]? := fun k hk => Below.heap_setCell u ⟨g, j, none⟩ x k hk
  refine ⟨fun i hi => ⟨(hk _ (fun e => (h.bl i hi).2 (by rw [e]; exact hg))).trans (h.mm i hi).b, (h.mm i hi).o.keep fun b hb _ => hk b (fun e => (h.vl i b hi hb).2 (by rw [e]; exact hg))⟩, fun i hi => ⟨(hk _ (fun e => (h.rl i hi).2 (by rw [e]; exact hg))).trans (h.rk i hi).b, (h.rk i hi).o.keep fun b hb _ => hk b (fun e => (h.ul i b hi hb).2 (by rw [e]; exact hg))⟩, h.vv, h.uu, h.vu, h.vl, h.ul, h.bl, h.rl, h.nB, h.nR, fun k hk => by simpa using h.gl k hk, ?_⟩
  exact h.lo.setCell (by simpa using hw) _
/-- A MAKER GOES ON -/
theorem X4.stepM (h : X4 w G B R m r V U u) {i : Nat} (hi : i < 2) {m' : Mk} (hm : MTo (B i) (V i) m' u v) : ∃ V', X4 w G B R (upd m i m') r V' U v ∧ ∀ k, G k → v.heap[k]? = u.heap[k]? := by
  obtain ⟨X, b1, b2, b3⟩ := hm
  have hfr : ∀ k, k < u.heap.size → k ≠ B i → (V i).ownBlock ≠ some k → v.heap[k]? = u.heap[k]? := fun k hk h1 h2 => b3.block k hk (fun e => e.elim h1 h2)
  have ti := (h.mm i hi).b.ty
  have tt : ∀ b, (V i).ownBlock = some b → TyB u 5 b := fun b hb => ((h.mm i hi).o.ty hb).1
  have hx : ∀ b, X.ownBlock = some b → (V i).ownBlock = some b ∨ u.heap.size ≤ b := b2
  refine ⟨upd V i X, ⟨fun j hj => ?_, fun j hj => ?_, fun a b k ha hb hne hk => ?_, h.uu, fun a b k ha hb hk => ?_, fun a k ha hk => ?_, h.ul, h.bl, h.rl, h.nB, h.nR, fun k hk => Nat.lt_of_lt_of_le (h.gl k hk) b3.size, ?_⟩, fun k hk => hfr k (h.gl k hk) (fun e => (h.bl i hi).2 (by rw [← e]; exact hk)) (fun e => (h.vl i k hi e).2 hk)⟩
  · by_cases e : j = i
    · subst e; rw [upd_same, upd_same]; exact b1
    · rw [upd_other _ _ e, upd_other _ _ e]
      have hj' := h.mm j hj
      refine ⟨hj'.b.same (hfr _ hj'.b.lt (h.nB j i hj hi e) (fun x => absurd (TyB.ne (tt _ x) hj'.b.ty) (by decide))), hj'.o.keep fun b hb hl => hfr b hl (fun x => ?_) (fun x => h.vv i j b hi hj (fun y => e y.symm) x hb)⟩
      subst x; exact absurd (TyB.ne (hj'.o.ty hb).1 ti) (by decide)
  · have hj' := h.rk j hj
    refine ⟨(hfr _ hj'.b.lt (fun x => ?_) (fun x => absurd (TyB.ne (tt _ x) hj'.b.ty) (by decide))).trans hj'.b, hj'.o.keep fun b hb hl => hfr b hl (fun x => ?_) (fun x => h.vu i j b hi hj x hb)⟩
    · have := hj'.b.ty
      rw [x] at this
      exact absurd (TyB.ne this ti) (by decide)
    · subst x; exact absurd (TyB.ne (hj'.o.ty hb).1 ti) (by decide)
  · by_cases e : a = i
    · subst e
      rw [upd_same] at hk
      rw [upd_other _ _ (fun x => hne x.symm)]
      rcases hx k hk with x | x
      · exact h.vv a b k ha hb hne x
      · intro y; have := ((h.mm b hb).o.ty y).2; omega
    · rw [upd_other _ _ e] at hk
      by_cases e2 : b = i
      · subst e2
        rw [upd_same]
        intro y
        rcases hx k y with x | x
        · exact h.vv a b k ha hb hne hk x
        · have := ((h.mm a ha).o.ty hk).2; omega
      · rw [upd_other _ _ e2]
        exact h.vv a b k ha hb hne hk
  · by_cases e : a = i
    · subst e
      rw [upd_same] at hk
      rcases hx k hk with x | x
      · exact h.vu a b k ha hb x
      · intro y; have := ((h.rk b hb).o.ty y).2; omega
    · rw [upd_other _ _ e] at hk
      exact h.vu a b k ha hb hk
  · by_cases e : a = i
    · subst e
      rw [upd_same] at hk
      rcases hx k hk with x | x
      · exact h.vl a k ha x
      · exact ⟨Nat.le_trans h.lo.size x, fun y => by have := h.gl k y; omega⟩
    · rw [upd_other _ _ e] at hk
      exact h.vl a k ha hk
  · exact ⟨b3.os.trans h.lo.os, b3.tape.trans h.lo.tape, b3.output.trans h.lo.output, Nat.le_trans h.lo.size b3.size, fun k hk => (hfr k (Nat.lt_of_lt_of_le hk h.lo.size) (fun e => by have := (h.bl i hi).1; omega) (fun e => by have := (h.vl i k hi e).1; omega)).trans (h.lo.block k hk)⟩
/-- one of the document's goes on -/
theorem X4.stepR (h : X4 w G B R m r V U u) {i : Nat} (hi : i < 2) {m' : Mk} (hm : RTo (R i) (U i) m' u v) : ∃ U', X4 w G B R m (upd r i m') V U' v ∧ ∀ k, G k → v.heap[k]? = u.heap[k]? := by
  obtain ⟨X, b1, b2, b3⟩ := hm
  have hfr : ∀ k, k < u.heap.size → k ≠ R i → (U i).ownBlock ≠ some k → v.heap[k]? = u.heap[k]? := fun k hk h1 h2 => b3.block k hk (fun e => e.elim h1 h2)
  have ti := (h.rk i hi).b.ty
  have tt : ∀ b, (U i).ownBlock = some b → TyB u 5 b := fun b hb => ((h.rk i hi).o.ty hb).1
  have hx : ∀ b, X.ownBlock = some b → (U i).ownBlock = some b ∨ u.heap.size ≤ b := b2
  refine ⟨upd U i X, ⟨fun j hj => ?_, fun j hj => ?_, h.vv, fun a b k ha hb hne hk => ?_, fun a b k ha hb hk => ?_, h.vl, fun a k ha hk => ?_, h.bl, h.rl, h.nB, h.nR, fun k hk => Nat.lt_of_lt_of_le (h.gl k hk) b3.size, ?_⟩, fun k hk => hfr k (h.gl k hk) (fun e => (h.rl i hi).2 (by rw [← e]; exact hk)) (fun e => (h.ul i k hi e).2 hk)⟩
  · have hj' := h.mm j hj
    refine ⟨hj'.b.same (hfr _ hj'.b.lt (fun x => ?_) (fun x => absurd (TyB.ne (tt _ x) hj'.b.ty) (by decide))), hj'.o.keep fun b hb hl => hfr b hl (fun x => ?_) (fun x => h.vu j i b hj hi hb x)⟩
    · have := hj'.b.ty
      rw [x] at this
      exact absurd (TyB.ne this ti) (by decide)
    · subst x; exact absurd (TyB.ne (hj'.o.ty hb).1 ti) (by decide)
  · by_cases e : j = i
    · subst e; rw [upd_same, upd_same]; exact b1
    · rw [upd_other _ _ e, upd_other _ _ e]
      have hj' := h.rk j hj
      refine ⟨(hfr _ hj'.b.lt (h.nR j i hj hi e) (fun x => absurd (TyB.ne (tt _ x) hj'.b.ty) (by decide))).trans hj'.b, hj'.o.keep fun b hb hl => hfr b hl (fun x => ?_) (fun x => h.uu i j b hi hj (fun y => e y.symm) x hb)⟩
      subst x; exact absurd (TyB.ne (hj'.o.ty hb).1 ti) (by decide)
  · by_cases e : a = i
    · subst e
      rw [upd_same] at hk
      rw [upd_other _ _ (fun x => hne x.symm)]
      rcases hx k hk with x | x
      · exact h.uu a b k ha hb hne x
      · intro y; have := ((h.rk b hb).o.ty y).2; omega
    · rw [upd_other _ _ e] at hk
      by_cases e2 : b = i
      · subst e2
        rw [upd_same]
        intro y
        rcases hx k y with x | x
        · exact h.uu a b k ha hb hne hk x
        · have := ((h.rk a ha).o.ty hk).2; omega
      · rw [upd_other _ _ e2]
        exact h.uu a b k ha hb hne hk
  · by_cases e : b = i
    · subst e
      rw [upd_same]
      intro y
      rcases hx k y with x | x
      · exact h.vu a b k ha hb hk x
      · have := ((h.mm a ha).o.ty hk).2; omega
    · rw [upd_other _ _ e]
      exact h.vu a b k ha hb hk
  · by_cases e : a = i
    · subst e
      rw [upd_same] at hk
      rcases hx k hk with x | x
      · exact h.ul a k ha x
      · exact ⟨Nat.le_trans h.lo.size x, fun y => by have := h.gl k y; omega⟩
    · rw [upd_other _ _ e] at hk
      exact h.ul a k ha hk
  · exact ⟨b3.os.trans h.lo.os, b3.tape.trans h.lo.tape, b3.output.trans h.lo.output, Nat.le_trans h.lo.size b3.size, fun k hk => (hfr k (Nat.lt_of_lt_of_le hk h.lo.size) (fun e => by have := (h.rl i hi).1; omega) (fun e => by have := (h.ul i k hi e).1; omega)).trans (h.lo.block k hk)⟩
end
end Go.Proofs.Ytjmjhmohholmbaa
