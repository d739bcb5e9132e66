/- A ring of places, as plain mathematics: where things stand. -/
import Derived.Test.YtmdhlaccioaomaaG01
namespace Rg
section
variable {α : Type}
/-- what stands at place p of n, where l begins at f -/
def rd (z : α) (n f : Nat) (l : List α) (p : Nat) : α := (l[(p + n - f) % n]?).getD z
theorem dist {n f p : Nat} (hf : f < n) (hp : p < n) : (p + n - f) % n = if f ≤ p then p - f else p + n - f := by
  by_cases h : f ≤ p
  · rw [if_pos h, show p + n - f = (p - f) + n by omega, Nat.add_mod_right, Nat.mod_eq_of_lt (by omega)]
  · rw [if_neg h, Nat.mod_eq_of_lt (by omega)]
theorem place_eq {n f k : Nat} (hf : f < n) (hk : k ≤ n) : (f + k) % n = if f + k < n then f + k else f + k - n := by
  by_cases h : f + k < n
  · rw [if_pos h, Nat.mod_eq_of_lt h]
  · rw [if_neg h, show f + k = (f + k - n) + n by omega, Nat.add_mod_right, Nat.mod_eq_of_lt (by omega)]; omega
theorem place_lt {n f k : Nat} (hf : f < n) : (f + k) % n < n := Nat.mod_lt _ (by omega)
theorem dist_place {n f k : Nat} (hf : f < n) (hk : k < n) : ((f + k) % n + n - f) % n = k := by
  rw [dist hf (place_lt hf), place_eq hf (by omega)]
  split <;> split <;> omega
theorem dist_inj {n f p k : Nat} (hf : f < n) (hp : p < n) (hk : k < n) (h : (p + n - f) % n = k) : p = (f + k) % n := by
  rw [dist hf hp] at h
  rw [place_eq hf (by omega)]
  split at h <;> split <;> omega
theorem rd_at {z : α} {n f : Nat} {l : List α} (hf : f < n) (hl : l.length ≤ n) {k : Nat} (hk : k < l.length) : rd z n f l ((f + k) % n) = l[k] := by
  unfold rd
  rw [dist_place hf (by omega)]
  simp [hk]
theorem rd_first {z : α} {n f : Nat} {l : List α} (hf : f < n) : rd z n f l f = l.head?.getD z := by
  unfold rd
  rw [show f + n - f = n by omega, Nat.mod_self]
  cases l <;> rfl
theorem rd_push {z : α} {n f : Nat} {l : List α} (hf : f < n) (hl : l.length < n) (x : α) {p : Nat} (hp : p < n) : rd z n f (l ++ [x]) p = if p = (f + l.length) % n then x else rd z n f l p := by
  unfold rd
  by_cases h : p = (f + l.length) % n
  · rw [if_pos h, h, dist_place hf hl]
    simp
  · rw [if_neg h]
    have hne : (p + n - f) % n ≠ l.length := fun e => h (dist_inj hf hp hl e)
    by_cases h2 : (p + n - f) % n < l.length
    · rw [List.getElem?_append_left h2]
    · rw [List.getElem?_eq_none (by simp; omega), List.getElem?_eq_none (by omega)]
theorem rd_pop {z : α} {n f : Nat} {x : α} {t : List α} (hf : f < n) (hl : t.length < n) {p : Nat} (hp : p < n) : rd z n ((f + 1) % n) t p = if p = f then z else rd z n f (x :: t) p := by
  have hf1 : (f + 1) % n < n := place_lt hf
  unfold rd
  rw [dist hf1 hp, dist hf hp, place_eq hf (by omega)]
  by_cases h : p = f
  · rw [if_pos h, List.getElem?_eq_none (by split <;> split <;> omega)]
    rfl
  · rw [if_neg h]
    congr 1
    by_cases h2 : f ≤ p
    · rw [if_pos h2]
      have e : p - f = (p - f - 1) + 1 := by omega
      rw [e, List.getElem?_cons_succ]
      congr 1
      split <;> split <;> omega
    · rw [if_neg h2]
      have e : p + n - f = (p + n - f - 1) + 1 := by omega
      rw [e, List.getElem?_cons_succ]
      congr 1
      split <;> split <;> omega
theorem rd_new (z : α) (n f p : Nat) : rd z n f [] p = z := rfl
end
end Rg
