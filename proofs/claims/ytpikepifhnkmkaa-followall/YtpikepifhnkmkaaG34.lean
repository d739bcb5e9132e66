/- A follower in memory. -/
import Derived.Test.YtpikepifhnkmkaaG29
import Derived.Test.YtpikepifhnkmkaaG33
namespace Go.Proofs.Ytpikepifhnkmkaa
open Go.RowKit Go.Maps Sf Ln Fo

def mkC (m : Mrk) : List Value := [.int .i64 m.s, .int .i64 m.n, .int .i64 m.g, .int .i64 m.o, .int .i64 m.ms, .int .i64 m.gn, .int .i64 m.ct, .int .i64 m.tl, .int .i64 m.lg]
def foC (B : Nat) (f : Fo) : Array Value := #[.pointer (some ⟨B, 0, none⟩), .int .i64 f.m.s, .int .i64 f.m.n, .int .i64 f.m.g, .int .i64 f.m.o, .int .i64 f.m.ms, .int .i64 f.m.gn, .int .i64 f.m.ct, .int .i64 f.m.tl, .int .i64 f.m.lg, .string f.nm, .int .i64 (f.ck : Nat)]
/-- block F is a follower's, but for its maker -/
def FoB (w : World) (F B : Nat) (f : Fo) : Prop := w.heap[F]? = some (.cells (foC B f) 75 (0, 0))
/-- A FOLLOWER IN MEMORY: its block and its maker's -/
structure FoAt (w : World) (F B : Nat) (V : Value) (f : Fo) : Prop where
  b : FoB w F B f
  m : MkAt w B V f.k
def FTo (F B : Nat) (V : Value) (f' : Fo) (w w' : World) : Prop := ∃ V', FoAt w' F B V' f' ∧ Here w V V' ∧ FrP (fun k => k = F ∨ k = B ∨ V.ownBlock = some k) w w'
section
variable {w u v : World} {F B : Nat} {V : Value} {f f' : Fo}
theorem FoB.cells (h : FoB w F B f) : w.cell? ⟨F, 0, none⟩ = some (.pointer (some ⟨B, 0, none⟩)) ∧ w.cell? ⟨F, 1, none⟩ = some (.int .i64 f.m.s) ∧ w.cell? ⟨F, 2, none⟩ = some (.int .i64 f.m.n) ∧ w.cell? ⟨F, 3, none⟩ = some (.int .i64 f.m.g) ∧ w.cell? ⟨F, 4, none⟩ = some (.int .i64 f.m.o) := by
  simp [World.cell?, show w.heap[F]? = _ from h, foC]
theorem FoB.losses (h : FoB w F B f) : w.cell? ⟨F, 5, none⟩ = some (.int .i64 f.m.ms) ∧ w.cell? ⟨F, 6, none⟩ = some (.int .i64 f.m.gn) ∧ w.cell? ⟨F, 7, none⟩ = some (.int .i64 f.m.ct) ∧ w.cell? ⟨F, 8, none⟩ = some (.int .i64 f.m.tl) ∧ w.cell? ⟨F, 9, none⟩ = some (.int .i64 f.m.lg) ∧ w.cell? ⟨F, 10, none⟩ = some (.string f.nm) ∧ w.cell? ⟨F, 11, none⟩ = some (.int .i64 (f.ck : Nat)) := by
  simp [World.cell?, show w.heap[F]? = _ from h, foC]
theorem FoB.frozen (h : FoB w F B f) (j : Nat) : w.frozen? ⟨F, j, none⟩ = false := by simp [World.frozen?, show w.heap[F]? = _ from h]
theorem FoB.ty (h : FoB w F B f) : TyB w 75 F := ⟨_, _, h⟩
theorem FoB.lt (h : FoB w F B f) : F < w.heap.size := (Array.getElem?_eq_some_iff.1 h).1
theorem FoB.set (h : FoB w F B f) (j : Nat) (x : Value) (hc : (foC B f).setIfInBounds j x = foC B f') : FoB (w.setCell ⟨F, j, none⟩ x) F B f' := by unfold FoB; rw [heap_set h, hc]
theorem FoAt.ne (h : FoAt w F B V f) : F ≠ B ∧ V.ownBlock ≠ some F ∧ V.ownBlock ≠ some B :=
  ⟨fun e => by have := h.b.ty; rw [e] at this; exact absurd (TyB.ne this h.m.b.ty) (by decide), fun e => absurd (TyB.ne (h.m.o.ty e).1 h.b.ty) (by decide), fun e => absurd (TyB.ne (h.m.o.ty e).1 h.m.b.ty) (by decide)⟩
theorem MkAt.setF (h : MkAt w B V f.k) (hb : FoB w F B f') (j : Nat) (x : Value) : MkAt (w.setCell ⟨F, j, none⟩ x) B V f.k :=
  ⟨h.b.same (Below.heap_setCell w ⟨F, j, none⟩ x B (fun e => by subst e; exact absurd (TyB.ne hb.ty h.b.ty) (by decide))), h.o.keep fun b hb2 _ => Below.heap_setCell w ⟨F, j, none⟩ x b (fun e => by subst e; exact absurd (TyB.ne (h.o.ty hb2).1 hb.ty) (by decide))⟩
theorem FoAt.later (h : FoAt w F B V f) (hb : Below w.heap.size w u) : FoAt u F B V f := ⟨(hb.block F h.b.lt).trans h.b, h.m.later hb⟩
theorem FTo.refl (h : FoAt w F B V f) : FTo F B V f w w := ⟨V, h, fun _ hb => .inl hb, FrP.refl _ w⟩
theorem FTo.below (h : FoAt w F B V f) (hb : Below w.heap.size w u) : FTo F B V f w u := ⟨V, h.later hb, fun _ hb => .inl hb, FrP.of_below _ hb⟩
theorem FTo.then {f1 : Fo} (h : FTo F B V f1 w u) (h2 : ∀ V', FoAt u F B V' f1 → FTo F B V' f' u v) : FTo F B V f' w v := by
  obtain ⟨V1, a1, a2, a3⟩ := h
  obtain ⟨V2, b1, b2, b3⟩ := h2 V1 a1
  refine ⟨V2, b1, fun b hb => ?_, a3.trans b3 (fun k hk hq => ?_)⟩
  · rcases b2 b hb with e | e
    · exact a2 b e
    · exact .inr (Nat.le_trans a3.size e)
  · rcases hq with e | e | e
    · exact .inl e
    · exact .inr (.inl e)
    · rcases a2 k e with e2 | e2
      · exact .inr (.inr e2)
      · omega
/-- a cell of the follower's is written -/
theorem FTo.set {f1 : Fo} (h : FTo F B V f1 w u) (j : Nat) (x : Value) (hk : f1.k = f'.k) (hc : (foC B f1).setIfInBounds j x = foC B f') : FTo F B V f' w (u.setCell ⟨F, j, none⟩ x) := by
  obtain ⟨V1, a1, a2, a3⟩ := h
  exact ⟨V1, ⟨a1.b.set j x hc, by rw [← hk]; exact a1.m.setF a1.b j x⟩, a2, a3.set (fun _ => .inl rfl) j x⟩
/-- the maker turns -/
theorem FTo.maker {f1 : Fo} {k : Mk} (h : FTo F B V f1 w u) (h2 : ∀ V', MkAt u B V' f1.k → MTo B V' k u v) (hf : f' = ⟨f1.m, f1.nm, f1.ck, k⟩) : FTo F B V f' w v := by
  refine h.then fun V1 a1 => ?_
  obtain ⟨V2, b1, b2, b3⟩ := h2 V1 a1.m
  subst hf
  exact ⟨V2, ⟨(b3.block F a1.b.lt (fun e => by
    rcases e with e | e
    · exact a1.ne.1 e
    · exact a1.ne.2.1 e)).trans a1.b, b1⟩, b2, b3.mono (fun k _ e => .inr e)⟩
theorem FTo.after (h : FTo F B V f w u) (hb : Below u.heap.size u v) : FTo F B V f w v := h.then fun _ a => FTo.below a hb
end
end Go.Proofs.Ytpikepifhnkmkaa
