/- simfs's inodes: piece. -/
import Derived.Test.YtjmjhmohholmbaaG06
namespace Go.Proofs.Ytjmjhmohholmbaa
open Go.RowKit Go.Maps Sf
attribute [local go_sem ↓] Go.wp_at_zero Go.wp_at_succ

/-- what Read tells -/
def Ino.cut (f : Ino) (o s : Nat) : List UInt8 := (f.bs.drop o).take s
theorem LAt.drop {w : World} {V : Value} {xs : List Value} {b off n c k : Nat} (h : LAt w V xs) (e : V = .slice (some ⟨b, off, none⟩) n c) (hk : k ≤ n) : LAt w (.slice (some ⟨b, off + k, none⟩) (n - k) (c - k)) (xs.drop k) := by
  obtain ⟨a', c', e', h1, h2, h3⟩ := h
  rw [e] at e'
  cases e'
  refine ⟨_, _, by rw [List.length_drop], by rw [List.length_drop]; omega, by omega, ?_⟩
  rcases h3 with rfl | ⟨b', off', ea, hc⟩
  · exact .inl (by simp)
  · cases ea
    refine .inr ⟨b, off + k, rfl, fun j v hj => ?_⟩
    rw [List.getElem?_drop] at hj
    rw [Nat.add_assoc]
    exact hc _ v hj
theorem lat_at {w : World} {g lf vc M T x : Nat} {xs : List Value} (h : LAt w (.slice (some ⟨g, 0, none⟩) lf vc) xs) (hM : M ≤ lf) (hx : lf - M = 0 ∨ x = M) (hT : T ≤ lf - M) : LAt w (.slice (some ⟨g, x, none⟩) T (vc - M)) ((xs.drop M).take T) := by
  rcases hx with hx | rfl
  · obtain ⟨a', c', e', h1, h2, h3⟩ := h
    cases e'
    have hl : xs.drop M = [] := List.drop_eq_nil_of_le (by omega)
    rw [hl, List.take_nil]
    exact ⟨_, _, by rw [show T = ([] : List Value).length by simp; omega], by simp, by omega, .inl rfl⟩
  · have := h.drop (k := x) rfl hM
    rw [Nat.zero_add] at this
    exact this.take rfl hT
theorem nil_below {w u v : World} (h : Below w.heap.size w u) (hg : u.grownBy v (Value.slice none 0 0).ownBlock) : Below w.heap.size w v :=
  below_step h ⟨hg.os, hg.tape, hg.output, hg.size, fun k hk => hg.block k hk (fun e => by cases e)⟩
end Go.Proofs.Ytjmjhmohholmbaa
