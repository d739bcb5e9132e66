/- A step's turn in memory; what a read is. -/
import Derived.Test.YtpikepifhnkmkaaG40
namespace Go.Proofs.Ytpikepifhnkmkaa
open Go.RowKit Go.Maps Sf Ln Fo

def lineC : Option (Mrk × List UInt8) → List Value
  | none => [.int .i64 0, .int .i64 0, .int .i64 0, .int .i64 0, .int .i64 0, .int .i64 0, .int .i64 0, .int .i64 0, .int .i64 0, .string ⟨#[]⟩]
  | some (m, t) => mkC m ++ [.string ⟨t.toArray⟩]
def tuC (Bd : Nat) (l : Option (Mrk × List UInt8)) : Array Value := (.pointer (some ⟨Bd, 0, none⟩) :: (lineC l ++ [.bool l.isSome])).toArray
def TuC (w : World) (T : Nat) (C : Array Value) : Prop := w.heap[T]? = some (.cells C 88 (0, 0))
/-- a step leaves the follower so; the turn may have changed too -/
def STo (F B T : Nat) (V : Value) (f' : Fo) (w w' : World) : Prop := ∃ V', FoAt w' F B V' f' ∧ Here w V V' ∧ FrP (fun k => k = F ∨ k = B ∨ V.ownBlock = some k ∨ k = T) w w'
section
variable {w u v : World} {F B T : Nat} {V : Value} {f f' : Fo} {C : Array Value}
theorem TuC.ty (h : TuC w T C) : TyB w 88 T := ⟨_, _, h⟩
theorem TuC.lt (h : TuC w T C) : T < w.heap.size := (Array.getElem?_eq_some_iff.1 h).1
theorem TuC.frozen (h : TuC w T C) (j : Nat) : w.frozen? ⟨T, j, none⟩ = false := by simp [World.frozen?, show w.heap[T]? = _ from h]
theorem TuC.cell (h : TuC w T C) {j : Nat} {x : Value} (hc : C[j]? = some x) : w.cell? ⟨T, j, none⟩ = some x := by simp [World.cell?, show w.heap[T]? = _ from h, hc]
theorem TuC.set (h : TuC w T C) (j : Nat) (x : Value) : TuC (w.setCell ⟨T, j, none⟩ x) T (C.setIfInBounds j x) := heap_set h j x
theorem TuC.ne (h : TuC w T C) (hf : FoAt w F B V f) : T ≠ F ∧ T ≠ B ∧ V.ownBlock ≠ some T :=
  ⟨fun e => by have := h.ty; rw [e] at this; exact absurd (TyB.ne this hf.b.ty) (by decide), fun e => by have := h.ty; rw [e] at this; exact absurd (TyB.ne this hf.m.b.ty) (by decide), fun e => absurd (TyB.ne (hf.m.o.ty e).1 h.ty) (by decide)⟩
theorem TuC.kept (h : TuC w T C) (hf : FoAt w F B V f) (ht : FTo F B V f' w u) : TuC u T C := by
  obtain ⟨V', _, _, h3⟩ := ht
  obtain ⟨n1, n2, n3⟩ := h.ne hf
  exact (h3.block T h.lt (fun e => by
    rcases e with e | e | e
    · exact n1 e
    · exact n2 e
    · exact n3 e)).trans h
theorem TuC.later (h : TuC w T C) (hb : Below w.heap.size w u) : TuC u T C := (hb.block T h.lt).trans h
theorem FTo.st (h : FTo F B V f' w u) : STo F B T V f' w u := by
  obtain ⟨V', h1, h2, h3⟩ := h
  refine ⟨V', h1, h2, h3.mono (fun k _ e => ?_)⟩
  rcases e with e | e | e
  · exact .inl e
  · exact .inr (.inl e)
  · exact .inr (.inr (.inl e))
theorem STo.setT (h : STo F B T V f' w u) (hT : TuC u T C) (j : Nat) (x : Value) : STo F B T V f' w (u.setCell ⟨T, j, none⟩ x) := by
  obtain ⟨V', h1, h2, h3⟩ := h
  obtain ⟨n1, n2, n3⟩ := hT.ne h1
  refine ⟨V', ⟨(Below.heap_setCell u ⟨T, j, none⟩ x F (fun e => n1 e.symm)).trans h1.b, h1.m.b.same (Below.heap_setCell u ⟨T, j, none⟩ x B (fun e => n2 e.symm)), h1.m.o.keep fun b hb _ => Below.heap_setCell u ⟨T, j, none⟩ x b (fun e => by subst e; exact n3 hb)⟩, h2, h3.set (fun _ => .inr (.inr (.inr rfl))) j x⟩
theorem STo.setF {f1 : Fo} (h : STo F B T V f1 w u) (j : Nat) (x : Value) (hk : f1.k = f'.k) (hc : (foC B f1).setIfInBounds j x = foC B f') : STo F B T V f' w (u.setCell ⟨F, j, none⟩ x) := by
  obtain ⟨V1, a1, a2, a3⟩ := h
  exact ⟨V1, ⟨a1.b.set j x hc, by rw [← hk]; exact a1.m.setF a1.b j x⟩, a2, a3.set (fun _ => .inl rfl) j x⟩
theorem STo.after (h : STo F B T V f' w u) (hb : Below u.heap.size u v) : STo F B T V f' w v := by
  obtain ⟨V1, a1, a2, a3⟩ := h
  exact ⟨V1, a1.later hb, a2, a3.below hb⟩
/-- the line is told -/
theorem tell {Bd : Nat} (hT : TuC u T (tuC Bd none)) (h : STo F B T V f' w u) (m : Mrk) (t : List UInt8) (u' : World)
    (hu : u' = (((((((((((u.setCell ⟨T, 1, none⟩ (.int .i64 m.s)).setCell ⟨T, 2, none⟩ (.int .i64 m.n)).setCell ⟨T, 3, none⟩ (.int .i64 m.g)).setCell ⟨T, 4, none⟩ (.int .i64 m.o)).setCell ⟨T, 5, none⟩ (.int .i64 m.ms)).setCell ⟨T, 6, none⟩ (.int .i64 m.gn)).setCell ⟨T, 7, none⟩ (.int .i64 m.ct)).setCell ⟨T, 8, none⟩ (.int .i64 m.tl)).setCell ⟨T, 9, none⟩ (.int .i64 m.lg)).setCell ⟨T, 10, none⟩ (.string ⟨t.toArray⟩)).setCell ⟨T, 11, none⟩ (.bool true))) :
    TuC u' T (tuC Bd (some (m, t))) ∧ STo F B T V f' w u' := by
  subst hu
  have a1 := hT.set 1 (.int .i64 m.s)
  have a2 := a1.set 2 (.int .i64 m.n)
  have a3 := a2.set 3 (.int .i64 m.g)
  have a4 := a3.set 4 (.int .i64 m.o)
  have a5 := a4.set 5 (.int .i64 m.ms)
  have a6 := a5.set 6 (.int .i64 m.gn)
  have a7 := a6.set 7 (.int .i64 m.ct)
  have a8 := a7.set 8 (.int .i64 m.tl)
  have a9 := a8.set 9 (.int .i64 m.lg)
  have a10 := a9.set 10 (.string ⟨t.toArray⟩)
  have a11 := a10.set 11 (.bool true)
  have e : ((((((((((((tuC Bd none).setIfInBounds 1 (.int .i64 m.s)).setIfInBounds 2 (.int .i64 m.n)).setIfInBounds 3 (.int .i64 m.g)).setIfInBounds 4 (.int .i64 m.o)).setIfInBounds 5 (.int .i64 m.ms)).setIfInBounds 6 (.int .i64 m.gn)).setIfInBounds 7 (.int .i64 m.ct)).setIfInBounds 8 (.int .i64 m.tl)).setIfInBounds 9 (.int .i64 m.lg)).setIfInBounds 10 (.string ⟨t.toArray⟩)).setIfInBounds 11 (.bool true)) = tuC Bd (some (m, t)) := by
    simp [tuC, lineC, mkC]
  rw [e] at a11
  refine ⟨a11, ?_⟩
  exact ((((((((((h.setT hT 1 _).setT a1 2 _).setT a2 3 _).setT a3 4 _).setT a4 5 _).setT a5 6 _).setT a6 7 _).setT a7 8 _).setT a8 9 _).setT a9 10 _).setT a10 11 _
end
/-- what Read brings a follower -/
theorem read_got {P : Nat → Prop} {w : World} {Bd K C : Nat} {d : Dk} {f : Fo} (h : Dsk P w Bd d K) (hk : f.Ok C) {x : Ino} (hin : inoZ d f.m.n = some x) (hg : (x.gen : Int) = f.m.g) :
    Calls Try.prog 35 #[.pointer (some ⟨Bd, 0, none⟩), .int .i64 f.m.n, .int .i64 f.m.g, .int .i64 (f.m.o + (f.k.u.length : Nat)), .int .i64 (f.ck : Nat)] w fun e w' => ∃ va vc, e = .returned (.tuple #[.slice va (f.got x).length vc, .int .i64 0]) ∧ LAt w' (.slice va (f.got x).length vc) (uv (f.got x)) ∧ Below w.heap.size w w' := by
  have ho := hk.m.o
  have hu := hk.u
  have hc := hk.ck
  unfold top at ho
  refine (read_any h f.m.n f.m.g (f.m.o + (f.k.u.length : Nat)) (f.ck : Nat) (ofI_good hk.m.n) (by unfold goodI; omega) (by unfold goodI; omega)).mono ?_
  intro e w' y
  have h0 : readE d f.m.n f.m.g (f.m.o + (f.k.u.length : Nat)) (f.ck : Nat) = 0 := by
    unfold readE
    rw [if_neg (by omega), hin]
    simp only
    rw [if_pos hg]
  rcases y with ⟨y, _⟩ | ⟨_, f', V, hf', _, _, rfl, hrow, hb⟩
  · exact absurd h0 y
  · rw [hin] at hf'
    cases hf'
    have hcut : Ino.cut x (f.m.o + (f.k.u.length : Nat)).toNat ((f.ck : Nat) : Int).toNat = f.got x := by
      unfold Ino.cut Fo.got
      rw [Int.toNat_natCast]
    rw [hcut] at hrow
    obtain ⟨va, vc, rfl⟩ := own_form hrow
    exact ⟨va, vc, rfl, owns_lat hrow, hb⟩
end Go.Proofs.Ytpikepifhnkmkaa
