/- simfs: New, Rename. -/
import Derived.Test.YtpikepifhnkmkaaG19
import Derived.Carry
namespace Go.Proofs.Ytpikepifhnkmkaa
open Go.RowKit Go.Maps Sf
attribute [local go_sem ↓] Go.wp_at_zero Go.wp_at_succ

set_option maxRecDepth 8000 in
set_option maxHeartbeats 800000 in
theorem new_any (w : World) : Calls Try.prog 7 #[] w fun e w' => ∃ B P, e = .returned (.pointer (some ⟨B, 0, none⟩)) ∧ Dsk P w' B Sf.new 0 ∧ (∀ k, P k → w.heap.size ≤ k) ∧ Below w.heap.size w w' := by
  obtain ⟨A, hA⟩ : ∃ A, w.heap.size = A := ⟨_, rfl⟩
  obtain ⟨w1, hw1⟩ : ∃ w1, w.alloc (.map #[] 0) = w1 := ⟨_, rfl⟩
  obtain ⟨w2, hw2⟩ : ∃ w2, w1.alloc (.map #[] 0) = w2 := ⟨_, rfl⟩
  obtain ⟨w3, hw3⟩ : ∃ w3, w2.alloc (.cells #[.int .i64 0, .map (some A), .map (some (A + 1))] 62) = w3 := ⟨_, rfl⟩
  have z1 : w1.heap.size = A + 1 := by rw [← hw1, ← hA]; simp
  have z2 : w2.heap.size = A + 2 := by rw [← hw2]; simp [z1]
  have z3 : w3.heap.size = A + 3 := by rw [← hw3]; simp [z2]
  have k1 : Below w.heap.size w w1 := by rw [← hw1]; exact (Below.refl _ _).alloc (Nat.le_refl _) _
  have k2 : Below w1.heap.size w1 w2 := by rw [← hw2]; exact (Below.refl _ _).alloc (Nat.le_refl _) _
  have k3 : Below w2.heap.size w2 w3 := by rw [← hw3]; exact (Below.refl _ _).alloc (Nat.le_refl _) _
  have m1 : MapB 3 kvI goodI (.pointer none) w3 A 0 (fun _ => none) := by
    have h := mapB_made w 3 kvI goodI (.pointer none)
    rw [hw1, hA] at h
    exact (h.same (k2.block A (by omega))).same (k3.block A (by omega))
  have m2 : MapB 9 kvS goodS (.pointer none) w3 (A + 1) 0 (fun _ => none) := by
    have h := mapB_made w1 9 kvS goodS (.pointer none)
    rw [hw2, z1] at h
    exact h.same (k3.block (A + 1) (by omega))
  have db : w3.heap[A + 2]? = some (.cells #[.int .i64 0, .map (some A), .map (some (A + 1))] 62 (0, 0)) := by
    have h := heap_alloc_new w2 (.cells #[.int .i64 0, .map (some A), .map (some (A + 1))] 62)
    rw [hw3, z2] at h
    exact h
  have HE : Hid (∃ B P, Ending.returned (.pointer (some ⟨A + 2, 0, none⟩)) = .returned (.pointer (some ⟨B, 0, none⟩)) ∧ Dsk P w3 B Sf.new 0 ∧ (∀ k, P k → w.heap.size ≤ k) ∧ Below w.heap.size w w3) := by
    refine ⟨A + 2, fun k => A ≤ k ∧ k < A + 3, rfl, ⟨⟨Nat.le_refl _, (fun _ _ hf => nomatch hf), (fun _ _ _ hq => nomatch hq)⟩, ⟨⟨A, A + 1, 0, 0, fun _ => 0, fun _ => nilV, fun _ => 0⟩, ?_, Nat.le_refl _, Nat.le_refl _⟩, by omega⟩, fun k hk => by omega, below_step (below_step k1 k2) k3⟩
    refine ⟨db, ?_, ?_, (fun _ _ hf => nomatch hf), (fun _ _ hq => nomatch hq), ⟨⟨by omega, by omega⟩, ⟨by show A ≤ A; omega, by show A < A + 3; omega⟩, ⟨by show A ≤ A + 1; omega, by show A + 1 < A + 3; omega⟩⟩, (fun _ _ hf => nomatch hf), (fun _ _ hq => nomatch hq), fun k hk => by omega, (fun _ _ _ _ hf => nomatch hf), (fun _ _ _ _ hq => nomatch hq), by show A ≠ A + 1; omega⟩
    · have e : (⟨A, A + 1, 0, 0, fun _ => 0, fun _ => nilV, fun _ => 0⟩ : Lay).ino Sf.new = fun _ => none := by
        funext z
        unfold Lay.ino Sf.new
        by_cases h : 0 ≤ z <;> simp [h]
      rw [e]
      exact m1
    · exact m2
  have HW : Hid (w.alloc (.map #[] 0) = w1 ∧ w1.alloc (.map #[] 0) = w2 ∧ w2.alloc (.cells #[.int .i64 0, .map (some A), .map (some (A + 1))] 62) = w3 ∧ w.heap.size = A ∧ w1.heap.size = A + 1 ∧ w2.heap.size = A + 2) := ⟨hw1, hw2, hw3, hA, z1, z2⟩
  clear hw1 hw2 hw3 hA z1 z2 z3 k1 k2 k3 m1 m2 db
  have q1 : (Instr.makeMap 59 none).run Try.prog w = .ok (.map (some A)) w1 := by rw [← HW.out.1, ← HW.out.2.2.2.1]; exact run_makeMap _ w
  have q2 : (Instr.makeMap 60 none).run Try.prog w1 = .ok (.map (some (A + 1))) w2 := by rw [← HW.out.2.1, ← HW.out.2.2.2.2.1]; exact run_makeMap _ w1
  go_enter Try.func7, Try.ntmps7
  go_wp2
  rw [HW.out.2.2.1, HW.out.2.2.2.2.2]
  go_ret
  exact HE.out
end Go.Proofs.Ytpikepifhnkmkaa
