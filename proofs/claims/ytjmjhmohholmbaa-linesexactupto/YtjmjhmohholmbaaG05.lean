/- simfs's inodes: synced, sync, lay, shorten. -/
import Derived.Test.YtjmjhmohholmbaaG04
namespace Go.Proofs.Ytjmjhmohholmbaa
open Go.RowKit Go.Maps Sf
attribute [local go_sem ↓] Go.wp_at_zero Go.wp_at_succ

theorem infB : (Try.prog.info? 5).map (fun i => (i.zero, i.size, i.bytes)) = some (some (.int .u8 0), 1, 1) := by kernel_rfl
theorem owns_nil (w : World) (B : Nat) (e : TypeId) : w.ownsRow B e 1 nilV 0 [] := ⟨rfl, .inl ⟨rfl, rfl⟩⟩
theorem LAt.take {w : World} {V : Value} {xs : List Value} {a : Option Addr} {n c k : Nat} (h : LAt w V xs) (e : V = .slice a n c) (hk : k ≤ n) : LAt w (.slice a k c) (xs.take k) := by
  obtain ⟨a', c', e', h1, h2, h3⟩ := h
  rw [e] at e'
  cases e'
  refine ⟨a, c, by rw [List.length_take, Nat.min_eq_left hk], by rw [List.length_take]; omega, h2, ?_⟩
  rcases h3 with rfl | ⟨b, off, ea, hc⟩
  · exact .inl (by simp)
  · refine .inr ⟨b, off, ea, fun j v hj => hc j v ?_⟩
    by_cases hjk : j < k
    · rwa [List.getElem?_take_of_lt hjk] at hj
    · rw [List.getElem?_take_eq_none (by omega)] at hj
      cases hj
theorem own_form {u : World} {base : Nat} {t : TypeId} {sz : Nat} {V : Value} {k : Nat} {xs : List Value} (hr : u.ownsRow base t sz V k xs) : ∃ a c, V = .slice a k c := by
  rcases hr.2 with ⟨rfl, h0⟩ | ⟨g, cap, cur, rfl, _⟩
  · exact ⟨none, 0, by rw [h0]⟩
  · exact ⟨_, _, rfl⟩
theorem nil_no {k : Nat} (h : (Value.slice none 0 0).ownBlock = some k) : False := by cases h
end Go.Proofs.Ytjmjhmohholmbaa
