/- Lines out of bytes, as plain mathematics. -/
import Derived.Test.YtpikepifhnkmkaaG07
namespace Ln
/-- where the first newline is, or how many bytes there are -/
def nl : List UInt8 → Nat
  | [] => 0
  | c :: r => if c = 10 then 0 else nl r + 1
theorem nl_le : ∀ l : List UInt8, nl l ≤ l.length
  | [] => Nat.le_refl _
  | c :: r => by
    unfold nl
    have := nl_le r
    by_cases h : c = 10
    · rw [if_pos h]; exact Nat.zero_le _
    · rw [if_neg h, List.length_cons]; omega
theorem nl_at : ∀ l : List UInt8, nl l < l.length → l[nl l]? = some 10
  | [], h => by simp at h
  | c :: r, h => by
    unfold nl at h ⊢
    by_cases e : c = 10
    · rw [if_pos e, e]; rfl
    · rw [if_neg e, List.length_cons] at h
      rw [if_neg e, List.getElem?_cons_succ]
      exact nl_at r (by omega)
theorem nl_not : ∀ (l : List UInt8) (k : Nat), k < nl l → ∃ c, l[k]? = some c ∧ c ≠ 10
  | [], k, h => by simp [nl] at h
  | c :: r, k, h => by
    unfold nl at h
    by_cases e : c = 10
    · rw [if_pos e] at h; omega
    · rw [if_neg e] at h
      cases k with
      | zero => exact ⟨c, rfl, e⟩
      | succ k => rw [List.getElem?_cons_succ]; exact nl_not r k (by omega)
/-- it is told by its first newline -/
theorem nl_first {l : List UInt8} {k : Nat} (h : l[k]? = some 10) (hn : ∀ j, j < k → ∃ c, l[j]? = some c ∧ c ≠ 10) : nl l = k := by
  rcases Nat.lt_trichotomy (nl l) k with h1 | h1 | h1
  · obtain ⟨c, h2, h3⟩ := hn _ h1
    have hk : k < l.length := (List.getElem?_eq_some_iff.1 h).1
    rw [nl_at l (by omega)] at h2
    cases h2
    exact absurd rfl h3
  · exact h1
  · obtain ⟨c, h2, h3⟩ := nl_not l k h1
    rw [h] at h2
    cases h2
    exact absurd rfl h3
theorem nl_none {l : List UInt8} (hn : ∀ j, j < l.length → ∃ c, l[j]? = some c ∧ c ≠ 10) : nl l = l.length := by
  rcases Nat.lt_or_ge (nl l) l.length with h1 | h1
  · obtain ⟨c, h2, h3⟩ := hn _ h1
    rw [nl_at l h1] at h2
    cases h2
    exact absurd rfl h3
  · have := nl_le l; omega
/-- a maker: the line under way, most, how many were too long -/
structure Mk where
  u : List UInt8
  most : Nat
  long : Nat
def Mk.held (m : Mk) : List UInt8 := if m.u.length ≤ m.most then m.u else []
def Mk.goOn (m : Mk) (b : List UInt8) : Mk := ⟨m.u ++ b, m.most, m.long⟩
def Mk.drop (m : Mk) : Mk := ⟨[], m.most, m.long⟩
def Mk.ended (m : Mk) : Mk := ⟨[], m.most, if m.u.length ≤ m.most then m.long else m.long + 1⟩
def Mk.feed (m : Mk) (b : List UInt8) : Mk := if nl b < b.length then (m.goOn (b.take (nl b))).ended else m.goOn b
def Mk.text (m : Mk) (b : List UInt8) : List UInt8 := if nl b < b.length then (m.goOn (b.take (nl b))).held else []
def took (b : List UInt8) : Nat := if nl b < b.length then nl b + 1 else b.length
def Mk.whole (m : Mk) (b : List UInt8) : Bool := decide (nl b < b.length) && decide (m.u.length + nl b ≤ m.most)
theorem Mk.held_yes {m : Mk} (h : m.u.length ≤ m.most) : m.held = m.u := if_pos h
theorem Mk.held_no {m : Mk} (h : ¬ m.u.length ≤ m.most) : m.held = [] := if_neg h
theorem Mk.ended_yes {m : Mk} (h : m.u.length ≤ m.most) : m.ended = ⟨[], m.most, m.long⟩ := by unfold Mk.ended; rw [if_pos h]
theorem Mk.ended_no {m : Mk} (h : ¬ m.u.length ≤ m.most) : m.ended = ⟨[], m.most, m.long + 1⟩ := by unfold Mk.ended; rw [if_neg h]
theorem Mk.held_le (m : Mk) : m.held.length ≤ m.most ∧ m.held.length ≤ m.u.length := by
  unfold Mk.held
  by_cases h : m.u.length ≤ m.most
  · rw [if_pos h]; exact ⟨h, Nat.le_refl _⟩
  · rw [if_neg h]; exact ⟨Nat.zero_le _, Nat.zero_le _⟩
theorem took_le (b : List UInt8) : took b ≤ b.length := by unfold took; by_cases h : nl b < b.length; rw [if_pos h]; omega; rw [if_neg h]; omega
theorem took_pos {b : List UInt8} (h : 0 < b.length) : 0 < took b := by unfold took; by_cases h : nl b < b.length; rw [if_pos h]; omega; rw [if_neg h]; omega
theorem Mk.feed_most (m : Mk) (b : List UInt8) : (m.feed b).most = m.most := by unfold Mk.feed; by_cases h : nl b < b.length; rw [if_pos h]; rfl; rw [if_neg h]; rfl
theorem Mk.text_le (m : Mk) (b : List UInt8) : (m.text b).length ≤ m.most := by
  unfold Mk.text
  by_cases h : nl b < b.length
  · rw [if_pos h]; exact (Mk.held_le _).1
  · rw [if_neg h]; exact Nat.zero_le _
theorem Mk.text_no {m : Mk} {b : List UInt8} (h : m.whole b = false) : m.text b = [] := by
  unfold Mk.text Mk.whole at *
  by_cases h1 : nl b < b.length
  · rw [if_pos h1]
    simp only [h1, decide_true, Bool.true_and, decide_eq_false_iff_not] at h
    unfold Mk.held Mk.goOn
    rw [if_neg (by simp only [List.length_append, List.length_take]; omega)]
  · rw [if_neg h1]
theorem Mk.feed_u (m : Mk) (b : List UInt8) : (m.feed b).u.length ≤ m.u.length + b.length := by
  unfold Mk.feed
  by_cases h : nl b < b.length
  · rw [if_pos h]; exact Nat.zero_le _
  · rw [if_neg h]; simp [Mk.goOn]
/-! ### all bytes gone through -/
structure St where
  ls : List (List UInt8)
  u : List UInt8
  lg : Nat
def St.step (most : Nat) (s : St) (c : UInt8) : St := if c = 10 then (if s.u.length ≤ most then ⟨s.ls ++ [s.u], [], s.lg⟩ else ⟨s.ls, [], s.lg + 1⟩) else ⟨s.ls, s.u ++ [c], s.lg⟩
def St.go (most : Nat) (s : St) (l : List UInt8) : St := l.foldl (St.step most) s
theorem St.go_append (most : Nat) (s : St) (a b : List UInt8) : s.go most (a ++ b) = (s.go most a).go most b := by unfold St.go; exact List.foldl_append ..
theorem St.go_no (most : Nat) : ∀ (l : List UInt8) (s : St), (∀ c ∈ l, c ≠ 10) → s.go most l = ⟨s.ls, s.u ++ l, s.lg⟩
  | [], s, _ => by simp [St.go]
  | c :: r, s, h => by
    have h1 : St.step most s c = ⟨s.ls, s.u ++ [c], s.lg⟩ := by unfold St.step; rw [if_neg (h c (by simp))]
    have := St.go_no most r (St.step most s c) (fun x hx => h x (by simp [hx]))
    unfold St.go at this ⊢
    rw [List.foldl_cons, this, h1]
    simp
def St.of (ls : List (List UInt8)) (m : Mk) : St := ⟨ls, m.u, m.long⟩
/-- A CALL OF FEED goes through the bytes that it takes -/
theorem St.feed (ls : List (List UInt8)) (m : Mk) (b : List UInt8) : St.of (if m.whole b then ls ++ [m.text b] else ls) (m.feed b) = (St.of ls m).go m.most (b.take (took b)) := by
  have hb : ∀ c ∈ b.take (nl b), c ≠ 10 := fun c hc => by
    obtain ⟨j, hj, e⟩ := List.getElem_of_mem hc
    have hj1 : j < nl b := by rw [List.length_take] at hj; omega
    obtain ⟨d, h1, h2⟩ := nl_not b j hj1
    have : (b.take (nl b))[j]? = some c := by rw [List.getElem?_eq_getElem hj, e]
    rw [List.getElem?_take_of_lt hj1, h1] at this
    cases this
    exact h2
  by_cases h : nl b < b.length
  · have e1 : b.take (took b) = b.take (nl b) ++ [10] := by
      unfold took
      rw [if_pos h, List.take_add_one, nl_at b h]
      rfl
    have hl : (b.take (nl b)).length = nl b := by rw [List.length_take]; omega
    rw [e1, St.go_append, St.go_no _ _ _ hb]
    have hg : ∀ s : St, St.go m.most s [10] = St.step m.most s 10 := fun s => rfl
    rw [hg]
    by_cases hw : m.u.length + nl b ≤ m.most
    · have hwh : m.whole b = true := by unfold Mk.whole; simp [h, hw]
      have h3 : (m.u ++ b.take (nl b)).length ≤ m.most := by rw [List.length_append, hl]; exact hw
      rw [hwh]
      unfold Mk.text Mk.feed
      rw [if_pos h, if_pos h]
      rw [Mk.held_yes (m := m.goOn (b.take (nl b))) h3, Mk.ended_yes (m := m.goOn (b.take (nl b))) h3]
      show _ = St.step m.most ⟨ls, m.u ++ b.take (nl b), m.long⟩ 10
      unfold St.step
      rw [if_pos rfl, if_pos h3]
      rfl
    · have hwh : m.whole b = false := by unfold Mk.whole; simp [h, hw]
      have h3 : ¬ (m.u ++ b.take (nl b)).length ≤ m.most := by rw [List.length_append, hl]; exact hw
      rw [hwh]
      unfold Mk.feed
      rw [if_pos h]
      rw [Mk.ended_no (m := m.goOn (b.take (nl b))) h3]
      show _ = St.step m.most ⟨ls, m.u ++ b.take (nl b), m.long⟩ 10
      unfold St.step
      rw [if_pos rfl, if_neg h3]
      rfl
  · have e0 : nl b = b.length := by have := nl_le b; omega
    have e1 : b.take (took b) = b := by unfold took; rw [if_neg h, List.take_length]
    have hwh : m.whole b = false := by unfold Mk.whole; simp [h]
    rw [e0, List.take_length] at hb
    rw [e1, St.go_no _ _ _ hb, hwh]
    unfold Mk.feed
    rw [if_neg h]
    simp [Mk.goOn, St.of]
/-- the lines do not hang on what was told ahead -/
theorem St.shift (most : Nat) : ∀ (l : List UInt8) (ls : List (List UInt8)) (u : List UInt8) (k : Nat), (St.mk ls u k).go most l = ⟨ls ++ ((St.mk [] u 0).go most l).ls, ((St.mk [] u 0).go most l).u, k + ((St.mk [] u 0).go most l).lg⟩
  | [], ls, u, k => by simp [St.go]
  | c :: r, ls, u, k => by
    have hg : ∀ s : St, s.go most (c :: r) = (St.step most s c).go most r := fun s => rfl
    rw [hg, hg]
    unfold St.step
    by_cases h : c = 10
    · rw [if_pos h, if_pos h]
      by_cases h2 : u.length ≤ most
      · rw [if_pos h2, if_pos h2, St.shift most r (ls ++ [u]) [] k, St.shift most r ([] ++ [u]) [] 0]
        simp
      · rw [if_neg h2, if_neg h2, St.shift most r ls [] (k + 1), St.shift most r [] [] (0 + 1)]
        simp [Nat.add_assoc]
    · rw [if_neg h, if_neg h]
      exact St.shift most r ls (u ++ [c]) k
theorem St.go_bounds (most : Nat) : ∀ (l : List UInt8) (s : St), (s.go most l).ls.length + (s.go most l).lg ≤ s.ls.length + s.lg + l.length ∧ (s.go most l).u.length ≤ s.u.length + l.length
  | [], s => by simp [St.go]
  | c :: r, s => by
    have hg : s.go most (c :: r) = (St.step most s c).go most r := rfl
    rw [hg]
    obtain ⟨h1, h2⟩ := St.go_bounds most r (St.step most s c)
    have h3 : (St.step most s c).ls.length + (St.step most s c).lg ≤ s.ls.length + s.lg + 1 ∧ (St.step most s c).u.length ≤ s.u.length + 1 := by
      unfold St.step
      by_cases h : c = 10
      · rw [if_pos h]
        by_cases h2 : s.u.length ≤ most
        · rw [if_pos h2]; simp only [List.length_append, List.length_cons, List.length_nil]; omega
        · rw [if_neg h2]; simp only [List.length_nil]; omega
      · rw [if_neg h]; simp only [List.length_append, List.length_cons, List.length_nil]; omega
    rw [List.length_cons]
    omega
end Ln
