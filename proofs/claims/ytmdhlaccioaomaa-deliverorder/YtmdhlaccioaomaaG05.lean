/- Slices of numbers as they are read (from other seats). -/
import Derived.Test.YtmdhlaccioaomaaG02
import Derived.Test.YtmdhlaccioaomaaG04
namespace Go.Proofs.Ytmdhlaccioaomaa
open Go.RowKit Go.Maps Rg

def ints (r : List Int) : List Value := r.map fun z => Value.int .i64 z
theorem ints_len (r : List Int) : (ints r).length = r.length := by simp [ints]
theorem ints_one (l : List Int) : ∀ u ∈ ints l, u.oneCell' = true := fun u hu => by obtain ⟨z, _, rfl⟩ := List.mem_map.1 hu; rfl
theorem own_form {u : World} {base : Nat} {t : TypeId} {sz : Nat} {V : Value} {k : Nat} {xs : List Value} (hr : u.ownsRow base t sz V k xs) : ∃ a c, V = .slice a k c := by
  rcases hr.2 with ⟨rfl, h0⟩ | ⟨g, cap, cur, rfl, _⟩
  · exact ⟨none, 0, by rw [h0]⟩
  · exact ⟨_, _, rfl⟩
theorem owns_nil (w : World) (B : Nat) (e : TypeId) : w.ownsRow B e 1 nilV 0 [] := ⟨rfl, .inl ⟨rfl, rfl⟩⟩
theorem lat_nth {w : World} {a : Option Addr} {n c : Nat} {xs : List Value} (h : LAt w (.slice a n c) xs) {k : Nat} (hk : k < n) : ∃ b off v, a = some ⟨b, off, none⟩ ∧ xs[k]? = some v ∧ w.cell? ⟨b, off + k, none⟩ = some v := by
  obtain ⟨a', c', e, h1, h2, h3⟩ := h
  cases e
  rcases h3 with rfl | ⟨b, off, rfl, hc⟩
  · simp at hk
  · exact ⟨b, off, xs[k], rfl, List.getElem?_eq_getElem hk, hc k _ (List.getElem?_eq_getElem hk)⟩
theorem lat_len {w : World} {V : Value} {xs : List Value} (h : LAt w V xs) : ∃ a c, V = .slice a xs.length c := by
  obtain ⟨a, c, e, _⟩ := h
  exact ⟨a, c, e⟩
theorem below_app {w u v : World} {q : Option Nat} (h : Below w.heap.size w u) (hg : u.grownBy v q) (hq : ∀ k, q = some k → w.heap.size ≤ k) : Below w.heap.size w v :=
  ⟨hg.os.trans h.os, hg.tape.trans h.tape, hg.output.trans h.output, Nat.le_trans h.size hg.size, fun k hk => (hg.block k (Nat.lt_of_lt_of_le hk h.size) (fun e => by have := hq k e.symm; omega)).trans (h.block k hk)⟩
theorem below_drew' {w u : World} (h : Hid (Below w.heap.size w u)) : Hid (Below w.heap.size w u.drew) := (h.out.trans (((Below.refl _ u).drew).mono h.out.size) : Below _ _ _)
end Go.Proofs.Ytmdhlaccioaomaa
