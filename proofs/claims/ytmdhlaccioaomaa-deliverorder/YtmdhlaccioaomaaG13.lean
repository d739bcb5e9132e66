/- Delays and their sums, as plain mathematics. -/
import Derived.Test.YtmdhlaccioaomaaG00
namespace Bo
/-- the delay behind the k-th refusal -/
def dl (b m : Nat) : Nat → Nat
  | 0 => min b m
  | k + 1 => min (2 * dl b m k) m
/-- the first n delays together -/
def sm (b m : Nat) : Nat → Nat
  | 0 => 0
  | n + 1 => sm b m n + dl b m n
theorem dl_le (b m k : Nat) : dl b m k ≤ m := by cases k <;> exact Nat.min_le_right _ _
theorem dl_pow (b m k : Nat) : dl b m k = min (b * 2 ^ k) m := by
  induction k with
  | zero => simp [dl]
  | succ k ih => rw [dl, ih, Nat.pow_succ, ← Nat.mul_assoc]; omega
theorem dl_mono (b m k : Nat) : dl b m k ≤ dl b m (k + 1) := by
  have := dl_le b m k
  rw [dl]; omega
theorem dl_twice (b m k : Nat) : dl b m (k + 1) ≤ 2 * dl b m k := by rw [dl]; omega
/-- what has come to 0 or to the greatest stays -/
theorem dl_stays (b m k j : Nat) (h : dl b m k = 0 ∨ dl b m k = m) : dl b m (k + j) = dl b m k := by
  induction j with
  | zero => rfl
  | succ j ih =>
    rw [← Nat.add_assoc, dl, ih]
    rcases h with h | h <;> rw [h] <;> omega
theorem dl_stay (b m : Nat) {k n : Nat} (hk : k ≤ n) (h : dl b m k = 0 ∨ dl b m k = m) : dl b m n = dl b m k := by
  obtain ⟨j, rfl⟩ := Nat.le.dest hk
  exact dl_stays b m k j h
theorem dl_zero (m k : Nat) : dl 0 m k = 0 := by rw [dl_pow]; simp
theorem dl_far {b m k : Nat} (hb : 0 < b) (hm : m ≤ 1099511627776) (hk : 40 ≤ k) : dl b m k = m := by
  rw [dl_pow]
  have h1 : (2 : Nat) ^ 40 ≤ 2 ^ k := Nat.pow_le_pow_right (by omega) hk
  have h2 : 1 * 2 ^ k ≤ b * 2 ^ k := Nat.mul_le_mul_right _ hb
  have h3 : (2 : Nat) ^ 40 = 1099511627776 := by decide
  omega
theorem sm_le (b m n : Nat) : sm b m n ≤ n * m := by
  induction n with
  | zero => simp [sm]
  | succ n ih =>
    have := dl_le b m n
    rw [sm, Nat.succ_mul]; omega
theorem sm_mono (b m : Nat) {k n : Nat} (h : k ≤ n) : sm b m k ≤ sm b m n := by
  induction h with
  | refl => exact Nat.le_refl _
  | step h ih => rw [sm]; omega
theorem sm_bound {b m n : Nat} (hm : m ≤ 1099511627776) (hn : n ≤ 1048576) : sm b m n ≤ 1152921504606846976 :=
  Nat.le_trans (sm_le b m n) (Nat.le_trans (Nat.mul_le_mul hn hm) (by decide))
end Bo
