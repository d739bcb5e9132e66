/- A ring of numbers in memory. -/
import Derived.Test.YtclcpblpmfijiaaG05
import Derived.BigRegion
import Derived.Deep.RegionWith
namespace Go.Proofs.Ytclcpblpmfijiaa
open Go.RowKit Go.Maps Rg

def cI (z : Int) : Value := .int .i64 z
def RBox (w : World) (B R n f c : Nat) : Prop := w.heap[B]? = some (.cells #[.slice (some ⟨R, 0, none⟩) n n, .int .i64 (f : Nat), .int .i64 (c : Nat)] 63 (0, 0))
def RRow (w : World) (R n : Nat) (F : Nat → Int) : Prop := ∃ cur, w.heap[R]? = some (.cells cur 3 (0, 0)) ∧ cur.size = n ∧ ∀ p, p < n → cur[p]? = some (.int .i64 (F p))
section
variable {w u v : World} {B R n f c : Nat} {F : Nat → Int} {l : List Int}
theorem RBox.cells (h : RBox w B R n f c) : w.cell? ⟨B, 0, none⟩ = some (.slice (some ⟨R, 0, none⟩) n n) ∧ w.cell? ⟨B, 1, none⟩ = some (.int .i64 (f : Nat)) ∧ w.cell? ⟨B, 2, none⟩ = some (.int .i64 (c : Nat)) := by
  simp [World.cell?, show w.heap[B]? = _ from h]
theorem RBox.frozen (h : RBox w B R n f c) (j : Nat) : w.frozen? ⟨B, j, none⟩ = false := by simp [World.frozen?, show w.heap[B]? = _ from h]
theorem RBox.ty (h : RBox w B R n f c) : TyB w 63 B := ⟨_, _, h⟩
theorem RBox.lt (h : RBox w B R n f c) : B < w.heap.size := (Array.getElem?_eq_some_iff.1 h).1
theorem RBox.same (h : RBox w B R n f c) (e : u.heap[B]? = w.heap[B]?) : RBox u B R n f c := e.trans h
theorem RBox.put1 (h : RBox w B R n f c) (f' : Nat) : RBox (w.setCell ⟨B, 1, none⟩ (.int .i64 (f' : Nat))) B R n f' c := by unfold RBox; rw [heap_set h]; simp
theorem RBox.put2 (h : RBox w B R n f c) (c' : Nat) : RBox (w.setCell ⟨B, 2, none⟩ (.int .i64 (c' : Nat))) B R n f c' := by unfold RBox; rw [heap_set h]; simp
theorem RRow.cell (h : RRow w R n F) {p : Nat} (hp : p < n) : w.cell? ⟨R, p, none⟩ = some (.int .i64 (F p)) := by
  obtain ⟨cur, h1, h2, h3⟩ := h
  simp only [World.cell?, h1]
  exact h3 p hp
theorem RRow.frozen (h : RRow w R n F) (j : Nat) : w.frozen? ⟨R, j, none⟩ = false := by
  obtain ⟨cur, h1, _⟩ := h
  simp [World.frozen?, h1]
theorem RRow.ty (h : RRow w R n F) : TyB w 3 R := by obtain ⟨cur, h1, _⟩ := h; exact ⟨_, _, h1⟩
theorem RRow.lt (h : RRow w R n F) : R < w.heap.size := by obtain ⟨cur, h1, _⟩ := h; exact (Array.getElem?_eq_some_iff.1 h1).1
theorem RRow.same (h : RRow w R n F) (e : u.heap[R]? = w.heap[R]?) : RRow u R n F := by obtain ⟨cur, h1, h2⟩ := h; exact ⟨cur, e.trans h1, h2⟩
theorem RRow.congr {F' : Nat → Int} (h : RRow w R n F) (e : ∀ p, p < n → F p = F' p) : RRow w R n F' := by
  obtain ⟨cur, h1, h2, h3⟩ := h
  exact ⟨cur, h1, h2, fun p hp => by rw [h3 p hp, e p hp]⟩
theorem RRow.put (h : RRow w R n F) {q : Nat} (hq : q < n) (x : Int) : RRow (w.setCell ⟨R, q, none⟩ (.int .i64 x)) R n (fun p => if p = q then x else F p) := by
  obtain ⟨cur, h1, h2, h3⟩ := h
  refine ⟨_, heap_set h1 q _, by simpa using h2, fun p hp => ?_⟩
  rw [Array.getElem?_setIfInBounds]
  show _ = some (Value.int .i64 (if p = q then x else F p))
  by_cases e : q = p
  · subst e
    rw [if_pos rfl, if_pos (by omega), if_pos rfl]
  · rw [if_neg e, if_neg (fun x => e x.symm), h3 p hp]
end
/-- A RING IN MEMORY -/
structure RgAt (w : World) (B R n f : Nat) (l : List Int) : Prop where
  b : RBox w B R n f l.length
  r : RRow w R n (rd 0 n f l)
  f : f < n
  l : l.length ≤ n
  n : n ≤ 64
section
variable {w u v : World} {B R n f : Nat} {l : List Int}
theorem RgAt.ne (h : RgAt w B R n f l) : R ≠ B := fun e => by
  have := h.r.ty
  rw [e] at this
  exact absurd (TyB.ne this h.b.ty) (by decide)
theorem RgAt.same (h : RgAt w B R n f l) (e : u.heap[B]? = w.heap[B]?) (e2 : u.heap[R]? = w.heap[R]?) : RgAt u B R n f l := ⟨h.b.same e, h.r.same e2, h.f, h.l, h.n⟩
theorem RgAt.later (h : RgAt w B R n f l) (hb : Below w.heap.size w u) : RgAt u B R n f l := h.same (hb.block B h.b.lt) (hb.block R h.r.lt)
/-- a thing is put -/
theorem RgAt.push (h : RgAt w B R n f l) (x : Int) (hl : l.length < n) : RgAt ((w.setCell ⟨R, (f + l.length) % n, none⟩ (.int .i64 x)).setCell ⟨B, 2, none⟩ (.int .i64 ((l.length + 1 : Nat) : Nat))) B R n f (l ++ [x]) := by
  have hne := h.ne
  have h1 : RBox (w.setCell ⟨R, (f + l.length) % n, none⟩ (.int .i64 x)) B R n f l.length := h.b.same (Below.heap_setCell w ⟨R, _, none⟩ _ B (fun e => hne e.symm))
  have h2 := (h.r.put (place_lt h.f) x).same (u := (w.setCell ⟨R, (f + l.length) % n, none⟩ (.int .i64 x)).setCell ⟨B, 2, none⟩ (.int .i64 ((l.length + 1 : Nat) : Nat))) (Below.heap_setCell _ ⟨B, 2, none⟩ _ R hne)
  refine ⟨by rw [List.length_append]; exact h1.put2 _, h2.congr fun p hp => (rd_push h.f hl x hp).symm, h.f, by simp; omega, h.n⟩
/-- the first is taken -/
theorem RgAt.pop {x : Int} {t : List Int} (h : RgAt w B R n f (x :: t)) : RgAt (((w.setCell ⟨R, f, none⟩ (.int .i64 0)).setCell ⟨B, 1, none⟩ (.int .i64 (((f + 1) % n : Nat) : Nat))).setCell ⟨B, 2, none⟩ (.int .i64 (t.length : Nat))) B R n ((f + 1) % n) t := by
  have hne := h.ne
  have h1 : RBox (w.setCell ⟨R, f, none⟩ (.int .i64 0)) B R n f (x :: t).length := h.b.same (Below.heap_setCell w ⟨R, _, none⟩ _ B (fun e => hne e.symm))
  have h2 := ((h.r.put h.f 0).same (u := (w.setCell ⟨R, f, none⟩ (.int .i64 0)).setCell ⟨B, 1, none⟩ (.int .i64 (((f + 1) % n : Nat) : Nat))) (Below.heap_setCell _ ⟨B, 1, none⟩ _ R hne)).same (u := ((w.setCell ⟨R, f, none⟩ (.int .i64 0)).setCell ⟨B, 1, none⟩ (.int .i64 (((f + 1) % n : Nat) : Nat))).setCell ⟨B, 2, none⟩ (.int .i64 (t.length : Nat))) (Below.heap_setCell _ ⟨B, 2, none⟩ _ R hne)
  have hl := h.l
  simp only [List.length_cons] at hl
  refine ⟨(h1.put1 _).put2 _, h2.congr fun p hp => (rd_pop h.f (by omega) hp).symm, place_lt h.f, by omega, h.n⟩
end
/-- WHAT A CALL LEAVES -/
def RTo (B R n f : Nat) (l : List Int) (w w' : World) : Prop := RgAt w' B R n f l ∧ FrP (fun k => k = B ∨ k = R) w w'
end Go.Proofs.Ytclcpblpmfijiaa
