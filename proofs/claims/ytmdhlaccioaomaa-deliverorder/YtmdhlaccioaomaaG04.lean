/- A disk in memory: its block, two maps, inodes with their bytes, labels. -/
import Derived.Test.YtmdhlaccioaomaaG01
import Derived.Test.YtmdhlaccioaomaaG03
namespace Go.Proofs.Ytmdhlaccioaomaa
open Go.RowKit Go.Maps Sf

/-! ### all but some blocks stand -/
structure FrP (Q : Nat → Prop) (w u : World) : Prop where
  os : u.os = w.os
  tape : u.tape = w.tape
  output : u.output = w.output
  size : w.heap.size ≤ u.heap.size
  block : ∀ k, k < w.heap.size → ¬ Q k → u.heap[k]? = w.heap[k]?
section
variable {Q Q' : Nat → Prop} {w u v : World}
theorem FrP.refl (Q : Nat → Prop) (w : World) : FrP Q w w := ⟨rfl, rfl, rfl, Nat.le_refl _, fun _ _ _ => rfl⟩
theorem FrP.mono (h : FrP Q w u) (hq : ∀ k, k < w.heap.size → Q k → Q' k) : FrP Q' w u := ⟨h.os, h.tape, h.output, h.size, fun k hk hn => h.block k hk (fun e => hn (hq k hk e))⟩
theorem FrP.trans (h : FrP Q w u) (h2 : FrP Q' u v) (hq : ∀ k, k < w.heap.size → Q' k → Q k) : FrP Q w v :=
  ⟨h2.os.trans h.os, h2.tape.trans h.tape, h2.output.trans h.output, Nat.le_trans h.size h2.size, fun k hk hn => (h2.block k (Nat.lt_of_lt_of_le hk h.size) (fun e => hn (hq k hk e))).trans (h.block k hk hn)⟩
theorem FrP.below (h : FrP Q w u) (h2 : Below u.heap.size u v) : FrP Q w v :=
  ⟨h2.os.trans h.os, h2.tape.trans h.tape, h2.output.trans h.output, Nat.le_trans h.size h2.size, fun k hk hn => (h2.block k (Nat.lt_of_lt_of_le hk h.size)).trans (h.block k hk hn)⟩
theorem FrP.of_below (Q : Nat → Prop) (h : Below w.heap.size w u) : FrP Q w u := (FrP.refl Q w).below h
theorem FrP.set (h : FrP Q w u) {a : Nat} (ha : a < w.heap.size → Q a) (j : Nat) (x : Value) : FrP Q w (u.setCell ⟨a, j, none⟩ x) :=
  ⟨h.os, h.tape, h.output, by have := h.size; simpa using this, fun k hk hn => (Below.heap_setCell u ⟨a, j, none⟩ x k (fun e => hn (by subst e; exact ha hk))).trans (h.block k hk hn)⟩
theorem FrP.grown (h : FrP Q w u) {q : Option Nat} (h2 : u.grownBy v q) (hq : ∀ k, k < w.heap.size → q = some k → Q k) : FrP Q w v :=
  ⟨h2.os.trans h.os, h2.tape.trans h.tape, h2.output.trans h.output, Nat.le_trans h.size h2.size, fun k hk hn => (h2.block k (Nat.lt_of_lt_of_le hk h.size) (fun e => hn (hq k hk e.symm))).trans (h.block k hk hn)⟩
theorem FrP.toBelow (h : FrP (fun _ => False) w u) : Below w.heap.size w u := ⟨h.os, h.tape, h.output, h.size, fun k hk => h.block k hk id⟩
end
/-! ### bytes, inodes, labels -/
def uv (l : List UInt8) : List Value := l.map fun b => Value.int .u8 (b.toNat : Nat)
theorem uv_len (l : List UInt8) : (uv l).length = l.length := by simp [uv]
theorem uv_app (l m : List UInt8) : uv (l ++ m) = uv l ++ uv m := by simp [uv]
theorem uv_one (l : List UInt8) : ∀ u ∈ uv l, u.oneCell' = true := fun u hu => by obtain ⟨z, _, rfl⟩ := List.mem_map.1 hu; rfl
theorem uv_take (l : List UInt8) (n : Nat) : uv (l.take n) = (uv l).take n := by simp [uv, List.map_take]
theorem uv_drop (l : List UInt8) (n : Nat) : uv (l.drop n) = (uv l).drop n := by simp [uv, List.map_drop]
def inoC (n : Nat) (f : Ino) (V : Value) : Array Value := #[.int .i64 (n : Nat), .string f.nm, .int .i64 (f.gen : Nat), V, .int .i64 (f.ls : Nat)]
def labC (q : Nat × Nat) : Array Value := #[.int .i64 (q.1 : Nat), .int .i64 (q.2 : Nat)]
def OwnB (w : World) (V : Value) (l : List UInt8) : Prop := w.ownsRow 0 5 1 V l.length (uv l)
section
variable {w u : World} {a n : Nat} {f : Ino} {V : Value} {q : Nat × Nat} {l : List UInt8}
theorem OwnB.keep (h : OwnB w V l) (hk : ∀ b, V.ownBlock = some b → b < w.heap.size → u.heap[b]? = w.heap[b]?) : OwnB u V l := ownsRow_keep h (fun b hb _ hl => hk b hb hl)
theorem OwnB.ty (h : OwnB w V l) {b : Nat} (hb : V.ownBlock = some b) : TyB w 5 b ∧ b < w.heap.size := by
  rcases h.2 with ⟨rfl, _⟩ | ⟨g, cap, cur, rfl, _, hg, _⟩
  · simp [Value.ownBlock] at hb
  · simp [Value.ownBlock] at hb
    subst hb
    exact ⟨⟨_, _, hg⟩, (Array.getElem?_eq_some_iff.1 hg).1⟩
theorem OwnB.form (h : OwnB w V l) : ∃ a c, V = .slice a l.length c ∧ l.length ≤ c ∧ c ≤ 9223372036854775807 := by
  obtain ⟨a, c, e, h1, h2, _⟩ := owns_lat h
  rw [uv_len] at e h1
  exact ⟨a, c, e, h1, h2⟩
end
/-! ### a disk -/
structure Lay where
  mi : Nat
  mn : Nat
  ci : Nat
  cn : Nat
  ai : Nat → Nat
  vi : Nat → Value
  an : ByteArray → Nat
def Lay.ino (L : Lay) (d : Dk) (z : Int) : Option Value := if 0 ≤ z then (d.ino z.toNat).map fun _ => .pointer (some ⟨L.ai z.toNat, 0, none⟩) else none
def Lay.lab (L : Lay) (d : Dk) (s : ByteArray) : Option Value := (d.lab s).map fun _ => .pointer (some ⟨L.an s, 0, none⟩)
/-- a disk's blocks, behind a call -/
def More (P : Nat → Prop) (w u : World) : Nat → Prop := fun k => P k ∨ (w.heap.size ≤ k ∧ k < u.heap.size)
section
variable {P : Nat → Prop} {w u : World} {B : Nat} {d : Dk} {L : Lay}
theorem map_ty {t : TypeId} {b : Nat} {es : Array MapEntry} {c : Nat} (h : w.heap[b]? = some (.map es c)) : ¬ TyB w t b := by
  rintro ⟨c, z, h2⟩
  rw [h] at h2
  cases h2
end
end Go.Proofs.Ytmdhlaccioaomaa
