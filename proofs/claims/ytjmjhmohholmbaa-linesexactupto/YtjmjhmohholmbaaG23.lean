/- Four makers: what the calls leave. -/
import Derived.Test.YtjmjhmohholmbaaG22
namespace Go.Proofs.Ytjmjhmohholmbaa
open Go.RowKit Go.Maps Ln

section
variable {w u : World} {G : Nat → Prop} {B R : Nat → Nat} {m r : Nat → Mk} {V U : Nat → Value} {i : Nat}
theorem x4_feed {Y : Value} {b : List UInt8} (h : X4 w G B R m r V U u) (hi : i < 2) (hY : LAt u Y (uv b)) (hm : (m i).most ≤ 4096) (hl : (m i).u.length + b.length ≤ 4611686018427387904) (hg : (m i).long ≤ 4611686018427387904) :
    Calls Try.prog 16 #[.pointer (some ⟨B i, 0, none⟩), Y] u fun e w' => e = .returned (.tuple #[.string ⟨((m i).text b).toArray⟩, .int .i64 (took b : Nat), .bool ((m i).whole b)]) ∧ FrP (fun k => k = B i ∨ (V i).ownBlock = some k) u w' ∧ ∃ V', X4 w G B R (upd m i ((m i).feed b)) r V' U w' ∧ ∀ k, G k → w'.heap[k]? = u.heap[k]? :=
  (feed_fn (h.mm i hi) hY hm hl hg).mono fun _ _ ⟨he, X, b1, b2, b3⟩ => ⟨he, b3, h.stepM hi ⟨X, b1, b2, b3⟩⟩
theorem x4_rfeed {ya : Option Addr} {yn yc : Nat} {b : List UInt8} (h : X4 w G B R m r V U u) (hi : i < 2) (hY : LAt w (.slice ya yn yc) (uv b)) (hyn : b.length = yn) (hm : (r i).most ≤ 4096) (hl : (r i).u.length + b.length ≤ 1099511627776) (hg : (r i).long ≤ 4611686018427387904) :
    Calls Try.prog 17 #[.pointer (some ⟨R i, 0, none⟩), .slice ya yn yc] u fun e w' => e = .returned (.tuple #[.string ⟨((r i).text b).toArray⟩, .int .i64 (took b : Nat), .bool ((r i).whole b)]) ∧ FrP (fun k => k = R i ∨ (U i).ownBlock = some k) u w' ∧ ∃ U', X4 w G B R m (upd r i ((r i).feed b)) V U' w' ∧ ∀ k, G k → w'.heap[k]? = u.heap[k]? := by
  have hA : Apart u (R i) (U i) ya b := fun k c hc => by
    obtain ⟨_, _, e0, _, _, hx⟩ := hY.open
    obtain ⟨bb, off, e1, h1⟩ := hx k _ (uv_at hc)
    have hlt := World.block_lt_of_cell? w _ h1
    refine ⟨bb, off, (Value.slice.inj e0).1.trans e1, cell_later h.lo _ _ _ h1, fun e => ?_, fun e => ?_⟩
    · have := (h.rl i hi).1; simp only at hlt; omega
    · have := (h.ul i bb hi e).1; simp only at hlt; omega
  exact (rfeed_fn (h.rk i hi) hA hyn hm hl hg).mono fun _ _ ⟨he, X, b1, b2, b3⟩ => ⟨he, b3, h.stepR hi ⟨X, b1, b2, b3⟩⟩
theorem x4_drop (h : X4 w G B R m r V U u) (hi : i < 2) :
    Calls Try.prog 13 #[.pointer (some ⟨B i, 0, none⟩)] u fun e w' => e = .returned (.tuple #[]) ∧ ∃ V', X4 w G B R (upd m i (m i).drop) r V' U w' ∧ ∀ k, G k → w'.heap[k]? = u.heap[k]? :=
  (drop_at (h.mm i hi)).mono fun _ _ ⟨he, hu⟩ => ⟨he, h.stepM hi hu⟩
theorem x4_rdrop (h : X4 w G B R m r V U u) (hi : i < 2) :
    Calls Try.prog 15 #[.pointer (some ⟨R i, 0, none⟩)] u fun e w' => e = .returned (.tuple #[]) ∧ ∃ U', X4 w G B R m (upd r i (r i).drop) V U' w' ∧ ∀ k, G k → w'.heap[k]? = u.heap[k]? :=
  (rdrop_fn (h.rk i hi)).mono fun _ _ ⟨he, hu⟩ => ⟨he, h.stepR hi hu⟩
end
theorem ten {α : Type} {l : List α} (h : l.length = 10) : ∃ a b c d e f g i j k, l = [a, b, c, d, e, f, g, i, j, k] := by
  match l, h with
  | [a, b, c, d, e, f, g, i, j, k], _ => exact ⟨a, b, c, d, e, f, g, i, j, k, rfl⟩
/-- WHAT THE SECOND LOOP HAS -/
structure XI (w : World) (A5 A6 : Nat) (B R : Nat → Nat) (k : Nat) (u : World) : Prop where
  ex : ∃ m V U, X4 w (fun k => k = A5 ∨ k = A6) B R m m V U u ∧ ∀ i, i < 2 → (m i).most ≤ 4096 ∧ (m i).u.length ≤ k * 1048576 ∧ (m i).long ≤ k
  a5 : u.heap[A5]? = some (.cells #[.pointer (some ⟨B 0, 0, none⟩), .pointer (some ⟨B 1, 0, none⟩)] 44 (0, 0))
  a6 : u.heap[A6]? = some (.cells #[.pointer (some ⟨R 0, 0, none⟩), .pointer (some ⟨R 1, 0, none⟩)] 46 (0, 0))
theorem ptr_at {u : World} {A : Nat} {B : Nat → Nat} {t : TypeId} (h : u.heap[A]? = some (.cells #[.pointer (some ⟨B 0, 0, none⟩), .pointer (some ⟨B 1, 0, none⟩)] t (0, 0))) {i : Nat} (hi : i < 2) : u.cell? ⟨A, i, none⟩ = some (.pointer (some ⟨B i, 0, none⟩)) := by
  rcases (by omega : i = 0 ∨ i = 1) with rfl | rfl
  · simp [World.cell?, h]
  · simp [World.cell?, h]
theorem ended_long (m : Mk) : m.ended.long ≤ m.long + 1 := by
  by_cases h : m.u.length ≤ m.most
  · rw [Mk.ended_yes h]; exact Nat.le_succ _
  · rw [Mk.ended_no h]; exact Nat.le_refl _
/-- a feed's bounds -/
theorem feed_bounds {m : Mk} {b : List UInt8} {k : Nat} (h : m.most ≤ 4096 ∧ m.u.length ≤ k * 1048576 ∧ m.long ≤ k) (hb : b.length ≤ 1048576) : (m.feed b).most ≤ 4096 ∧ (m.feed b).u.length ≤ (k + 1) * 1048576 ∧ (m.feed b).long ≤ k + 1 := by
  refine ⟨by rw [Mk.feed_most]; exact h.1, ?_, ?_⟩
  · have := Mk.feed_u m b
    rw [Nat.add_mul]
    omega
  · unfold Mk.feed
    by_cases e : nl b < b.length
    · rw [if_pos e]
      have h1 := ended_long (m.goOn (b.take (nl b)))
      have h2 : (m.goOn (b.take (nl b))).long = m.long := rfl
      have := h.2.2
      omega
    · rw [if_neg e]
      have := h.2.2
      show m.long ≤ k + 1
      omega
end Go.Proofs.Ytjmjhmohholmbaa
