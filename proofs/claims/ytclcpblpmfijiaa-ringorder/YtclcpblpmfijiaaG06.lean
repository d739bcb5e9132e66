/- A ring of things (a text and a number) in memory. -/
import Derived.Test.YtclcpblpmfijiaaG05
import Derived.BigRegion
import Derived.Deep.RegionWith
namespace Go.Proofs.Ytclcpblpmfijiaa
open Go.RowKit Go.Maps Rg

structure Th where
  s : ByteArray
  n : Int
def thZ : Th := ⟨⟨#[]⟩, 0⟩
def Th.v (x : Th) : Value := .agg #[.string x.s, .int .i64 x.n]
def TBox (w : World) (B R n f c : Nat) : Prop := w.heap[B]? = some (.cells #[.slice (some ⟨R, 0, none⟩) n n, .int .i64 (f : Nat), .int .i64 (c : Nat)] 60 (0, 0))
def TRow (w : World) (R n : Nat) (F : Nat → Th) : Prop := ∃ cur, w.heap[R]? = some (.cells cur 29 (0, 0)) ∧ cur.size = n * 2 ∧ ∀ p, p < n → cur[p * 2]? = some (.string (F p).s) ∧ cur[p * 2 + 1]? = some (.int .i64 (F p).n)
section
variable {w u v : World} {B R n f c : Nat} {F : Nat → Th} {l : List Th}
theorem TBox.cells (h : TBox w B R n f c) : w.cell? ⟨B, 0, none⟩ = some (.slice (some ⟨R, 0, none⟩) n n) ∧ w.cell? ⟨B, 1, none⟩ = some (.int .i64 (f : Nat)) ∧ w.cell? ⟨B, 2, none⟩ = some (.int .i64 (c : Nat)) := by
  simp [World.cell?, show w.heap[B]? = _ from h]
theorem TBox.frozen (h : TBox w B R n f c) (j : Nat) : w.frozen? ⟨B, j, none⟩ = false := by simp [World.frozen?, show w.heap[B]? = _ from h]
theorem TBox.ty (h : TBox w B R n f c) : TyB w 60 B := ⟨_, _, h⟩
theorem TBox.lt (h : TBox w B R n f c) : B < w.heap.size := (Array.getElem?_eq_some_iff.1 h).1
theorem TBox.same (h : TBox w B R n f c) (e : u.heap[B]? = w.heap[B]?) : TBox u B R n f c := e.trans h
theorem TBox.put1 (h : TBox w B R n f c) (f' : Nat) : TBox (w.setCell ⟨B, 1, none⟩ (.int .i64 (f' : Nat))) B R n f' c := by unfold TBox; rw [heap_set h]; simp
theorem TBox.put2 (h : TBox w B R n f c) (c' : Nat) : TBox (w.setCell ⟨B, 2, none⟩ (.int .i64 (c' : Nat))) B R n f c' := by unfold TBox; rw [heap_set h]; simp
theorem TRow.cell (h : TRow w R n F) {p : Nat} (hp : p < n) : w.cell? ⟨R, p * 2, none⟩ = some (.string (F p).s) ∧ w.cell? ⟨R, p * 2 + 1, none⟩ = some (.int .i64 (F p).n) := by
  obtain ⟨cur, h1, h2, h3⟩ := h
  simp only [World.cell?, h1]
  exact h3 p hp
theorem TRow.frozen (h : TRow w R n F) (j : Nat) : w.frozen? ⟨R, j, none⟩ = false := by
  obtain ⟨cur, h1, _⟩ := h
  simp [World.frozen?, h1]
theorem TRow.ty (h : TRow w R n F) : TyB w 29 R := by obtain ⟨cur, h1, _⟩ := h; exact ⟨_, _, h1⟩
theorem TRow.lt (h : TRow w R n F) : R < w.heap.size := by obtain ⟨cur, h1, _⟩ := h; exact (Array.getElem?_eq_some_iff.1 h1).1
theorem TRow.same (h : TRow w R n F) (e : u.heap[R]? = w.heap[R]?) : TRow u R n F := by obtain ⟨cur, h1, h2⟩ := h; exact ⟨cur, e.trans h1, h2⟩
theorem TRow.congr {F' : Nat → Th} (h : TRow w R n F) (e : ∀ p, p < n → F p = F' p) : TRow w R n F' := by
  obtain ⟨cur, h1, h2, h3⟩ := h
  exact ⟨cur, h1, h2, fun p hp => by rw [← e p hp]; exact h3 p hp⟩
theorem TRow.put (h : TRow w R n F) {q : Nat} (hq : q < n) (x : Th) : TRow ((w.setCell ⟨R, q * 2, none⟩ (.string x.s)).setCell ⟨R, q * 2 + 1, none⟩ (.int .i64 x.n)) R n (fun p => if p = q then x else F p) := by
  obtain ⟨cur, h1, h2, h3⟩ := h
  refine ⟨_, heap_set (heap_set h1 (q * 2) _) (q * 2 + 1) _, by simpa using h2, fun p hp => ?_⟩
  show _ = some (Value.string (if p = q then x else F p).s) ∧ _ = some (Value.int .i64 (if p = q then x else F p).n)
  rw [Array.getElem?_setIfInBounds, Array.getElem?_setIfInBounds, Array.getElem?_setIfInBounds, Array.getElem?_setIfInBounds, Array.size_setIfInBounds]
  by_cases e : p = q
  · subst e
    rw [if_neg (by omega), if_pos rfl, if_pos (by omega), if_pos rfl, if_pos rfl, if_pos (by omega)]
    exact ⟨rfl, rfl⟩
  · rw [if_neg (show ¬ q * 2 + 1 = p * 2 by omega), if_neg (show ¬ q * 2 = p * 2 by omega), if_neg (show ¬ q * 2 + 1 = p * 2 + 1 by omega), if_neg (show ¬ q * 2 = p * 2 + 1 by omega), if_neg e]
    exact h3 p hp
end
/-- A RING IN MEMORY -/
structure TgAt (w : World) (B R n f : Nat) (l : List Th) : Prop where
  b : TBox w B R n f l.length
  r : TRow w R n (rd thZ n f l)
  f : f < n
  l : l.length ≤ n
  n : n ≤ 64
section
variable {w u v : World} {B R n f : Nat} {l : List Th}
theorem TgAt.ne (h : TgAt w B R n f l) : R ≠ B := fun e => by
  have := h.r.ty
  rw [e] at this
  exact absurd (TyB.ne this h.b.ty) (by decide)
theorem TgAt.same (h : TgAt w B R n f l) (e : u.heap[B]? = w.heap[B]?) (e2 : u.heap[R]? = w.heap[R]?) : TgAt u B R n f l := ⟨h.b.same e, h.r.same e2, h.f, h.l, h.n⟩
theorem TgAt.later (h : TgAt w B R n f l) (hb : Below w.heap.size w u) : TgAt u B R n f l := h.same (hb.block B h.b.lt) (hb.block R h.r.lt)
/-- a thing is laid at a place -/
def putT (w : World) (R q : Nat) (x : Th) : World := (w.setCell ⟨R, q * 2, none⟩ (.string x.s)).setCell ⟨R, q * 2 + 1, none⟩ (.int .i64 x.n)
theorem putT_block (w : World) (R q : Nat) (x : Th) (k : Nat) (h : k ≠ R) : (putT w R q x).heap[k]? = w.heap[k]? := (Below.heap_setCell _ ⟨R, _, none⟩ _ k h).trans (Below.heap_setCell w ⟨R, _, none⟩ _ k h)
/-- a thing is put -/
theorem TgAt.push (h : TgAt w B R n f l) (x : Th) (hl : l.length < n) : TgAt ((putT w R ((f + l.length) % n) x).setCell ⟨B, 2, none⟩ (.int .i64 ((l.length + 1 : Nat) : Nat))) B R n f (l ++ [x]) := by
  have hne := h.ne
  have h1 : TBox (putT w R ((f + l.length) % n) x) B R n f l.length := h.b.same (putT_block w R _ x B (fun e => hne e.symm))
  have h2 := (h.r.put (place_lt h.f) x).same (u := (putT w R ((f + l.length) % n) x).setCell ⟨B, 2, none⟩ (.int .i64 ((l.length + 1 : Nat) : Nat))) (Below.heap_setCell _ ⟨B, 2, none⟩ _ R hne)
  refine ⟨by rw [List.length_append]; exact h1.put2 _, h2.congr fun p hp => (rd_push h.f hl x hp).symm, h.f, by simp; omega, h.n⟩
/-- the first is taken -/
theorem TgAt.pop {x : Th} {t : List Th} (h : TgAt w B R n f (x :: t)) : TgAt (((putT w R f thZ).setCell ⟨B, 1, none⟩ (.int .i64 (((f + 1) % n : Nat) : Nat))).setCell ⟨B, 2, none⟩ (.int .i64 (t.length : Nat))) B R n ((f + 1) % n) t := by
  have hne := h.ne
  have h1 : TBox (putT w R f thZ) B R n f (x :: t).length := h.b.same (putT_block w R _ thZ B (fun e => hne e.symm))
  have h2 := ((h.r.put h.f thZ).same (u := (putT w R f thZ).setCell ⟨B, 1, none⟩ (.int .i64 (((f + 1) % n : Nat) : Nat))) (Below.heap_setCell _ ⟨B, 1, none⟩ _ R hne)).same (u := ((putT w R f thZ).setCell ⟨B, 1, none⟩ (.int .i64 (((f + 1) % n : Nat) : Nat))).setCell ⟨B, 2, none⟩ (.int .i64 (t.length : Nat))) (Below.heap_setCell _ ⟨B, 2, none⟩ _ R hne)
  have hl := h.l
  simp only [List.length_cons] at hl
  refine ⟨(h1.put1 _).put2 _, h2.congr fun p hp => (rd_pop h.f (by omega) hp).symm, place_lt h.f, by omega, h.n⟩
end
/-- WHAT A CALL LEAVES -/
def TTo (B R n f : Nat) (l : List Th) (w w' : World) : Prop := TgAt w' B R n f l ∧ FrP (fun k => k = B ∨ k = R) w w'
end Go.Proofs.Ytclcpblpmfijiaa
