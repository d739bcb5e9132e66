/- Plain mathematics of layer 3: a set of bytes is a function from numbers to bools; its words are the numbers whose bits it tells. -/

namespace Oct

/-- a set of bytes, by which it has -/
abbrev S := Nat → Bool
/-- the number of which bit k is 's (o + k)', for k below n -/
def wd (s : S) (o : Nat) : Nat → Nat
  | 0 => 0
  | n + 1 => wd s o n ||| (if s (o + n) then 2 ^ n else 0)
theorem wd_bit (s : S) (o n k : Nat) : (wd s o n).testBit k = (decide (k < n) && s (o + k)) := by
  induction n with
  | zero => simp [wd]
  | succ n ih =>
    rw [wd, Nat.testBit_or, ih]
    by_cases h : s (o + n) = true
    · rw [if_pos h, Nat.testBit_two_pow]
      by_cases e : n = k
      · subst e; simp [h]
      · have : (k < n + 1) ↔ (k < n) := by omega
        simp [e, this]
    · rw [if_neg h]
      by_cases e : n = k
      · subst e; simp at h; simp [h]
      · have : (k < n + 1) ↔ (k < n) := by omega
        simp [this]
theorem wd_lt (s : S) (o n : Nat) : wd s o n < 2 ^ n := by
  apply Nat.lt_pow_two_of_testBit
  intro i hi
  rw [wd_bit]
  have : ¬ i < n := by omega
  simp [this]
/-- word i of a set -/
def word (s : S) (i : Nat) : Nat := wd s (64 * i) 64
theorem word_bit (s : S) (i k : Nat) : (word s i).testBit k = (decide (k < 64) && s (64 * i + k)) := wd_bit s (64 * i) 64 k
theorem word_lt (s : S) (i : Nat) : word s i < 18446744073709551616 := wd_lt s (64 * i) 64
theorem bits_above {x k : Nat} (hx : x < 18446744073709551616) (hk : 64 ≤ k) : x.testBit k = false := by
  apply Nat.testBit_lt_two_pow
  exact Nat.lt_of_lt_of_le hx (Nat.pow_le_pow_right (n := 2) (by decide) hk)
theorem word_eq {s : S} {i x : Nat} (hx : x < 18446744073709551616) (h : ∀ k, k < 64 → x.testBit k = s (64 * i + k)) : x = word s i := by
  apply Nat.eq_of_testBit_eq
  intro k
  rw [word_bit]
  by_cases hk : k < 64
  · rw [h k hk]; simp [hk]
  · rw [bits_above hx (by omega)]; simp [hk]
theorem word_congr {s t : S} {i : Nat} (h : ∀ k, k < 64 → s (64 * i + k) = t (64 * i + k)) : word s i = word t i :=
  word_eq (word_lt s i) (fun k hk => by rw [word_bit]; simp [hk, h k hk])
theorem word_none (i : Nat) : word (fun _ => false) i = 0 := (word_eq (by decide) (by simp)).symm

/-- the set whose words are these -/
def ofWords (x0 x1 x2 x3 : Nat) : S := fun b => (if b < 64 then x0 else if b < 128 then x1 else if b < 192 then x2 else x3).testBit (b % 64)
theorem ofWords0 (x0 x1 x2 x3 : Nat) (h : x0 < 18446744073709551616) : x0 = word (ofWords x0 x1 x2 x3) 0 := word_eq h (fun k hk => by
  have h1 : 64 * 0 + k < 64 := by omega
  have h2 : (64 * 0 + k) % 64 = k := by omega
  simp only [ofWords, h1, h2, if_true])
theorem ofWords1 (x0 x1 x2 x3 : Nat) (h : x1 < 18446744073709551616) : x1 = word (ofWords x0 x1 x2 x3) 1 := word_eq h (fun k hk => by
  have h0 : ¬ 64 * 1 + k < 64 := by omega
  have h1 : 64 * 1 + k < 128 := by omega
  have h2 : (64 * 1 + k) % 64 = k := by omega
  simp only [ofWords, h0, h1, h2, if_true, if_false])
theorem ofWords2 (x0 x1 x2 x3 : Nat) (h : x2 < 18446744073709551616) : x2 = word (ofWords x0 x1 x2 x3) 2 := word_eq h (fun k hk => by
  have h0 : ¬ 64 * 2 + k < 64 := by omega
  have h1 : ¬ 64 * 2 + k < 128 := by omega
  have h3 : 64 * 2 + k < 192 := by omega
  have h2 : (64 * 2 + k) % 64 = k := by omega
  simp only [ofWords, h0, h1, h2, h3, if_true, if_false])
theorem ofWords3 (x0 x1 x2 x3 : Nat) (h : x3 < 18446744073709551616) : x3 = word (ofWords x0 x1 x2 x3) 3 := word_eq h (fun k hk => by
  have h0 : ¬ 64 * 3 + k < 64 := by omega
  have h1 : ¬ 64 * 3 + k < 128 := by omega
  have h3 : ¬ 64 * 3 + k < 192 := by omega
  have h2 : (64 * 3 + k) % 64 = k := by omega
  simp only [ofWords, h0, h1, h2, h3, if_false])

/-! ### what the calls make of sets -/
def none : S := fun _ => false
def ins (s : S) (b : Nat) : S := fun c => c == b || s c
def del (s : S) (b : Nat) : S := fun c => s c && !(c == b)
def has (bs : List Nat) : S := fun c => bs.contains c
def span (f t : Nat) : S := fun c => decide (f ≤ c) && decide (c ≤ t)
def join (s t : S) : S := fun c => s c || t c
def meet (s t : S) : S := fun c => s c && t c
def inv (s : S) : S := fun c => !(s c) && !(c == 10)
def joins (l : List S) : S := fun c => l.any (fun s => s c)
def count (s : S) (n : Nat) : Nat := ((List.range n).filter s).length

theorem word_ins_same (s : S) (i k : Nat) (hk : k < 64) : word s i ||| 2 ^ k = word (ins s (64 * i + k)) i := by
  refine word_eq (Nat.or_lt_two_pow (n := 64) (word_lt s i) (Nat.pow_lt_pow_right (by decide) hk)) (fun j hj => ?_)
  rw [Nat.testBit_or, word_bit, Nat.testBit_two_pow]
  by_cases e : k = j
  · subst e; simp [ins]
  · have h1 : ¬ (64 * i + j = 64 * i + k) := by omega
    have h2 : ¬ j = k := by omega
    simp [ins, hj, e, h2]
theorem word_ins_other (s : S) (i j k : Nat) (hk : k < 64) (h : i ≠ j) : word s j = word (ins s (64 * i + k)) j := word_congr (fun m hm => by
  have h1 : ¬ (64 * j + m = 64 * i + k) := by omega
  simp [ins, h1])
theorem word_del_same (s : S) (i k : Nat) (hk : k < 64) : word s i &&& (18446744073709551615 - 2 ^ k) = word (del s (64 * i + k)) i := by
  have hp : 2 ^ k < 2 ^ 64 := Nat.pow_lt_pow_right (by decide) hk
  refine word_eq (Nat.lt_of_le_of_lt Nat.and_le_left (word_lt s i)) (fun j hj => ?_)
  rw [Nat.testBit_and, word_bit]
  have h3 : (18446744073709551615 - 2 ^ k).testBit j = (decide (j < 64) && !(2 ^ k).testBit j) := by
    have h4 : 18446744073709551615 - 2 ^ k = 2 ^ 64 - (2 ^ k + 1) := by have : (18446744073709551615 : Nat) = 2 ^ 64 - 1 := by decide
                                                                        omega
    rw [h4]
    exact Nat.testBit_two_pow_sub_succ hp j
  rw [h3, Nat.testBit_two_pow]
  by_cases e : k = j
  · subst e; simp [del]
  · have h2 : ¬ j = k := by omega
    simp [del, hj, e, h2]
theorem word_del_other (s : S) (i j k : Nat) (hk : k < 64) (h : i ≠ j) : word s j = word (del s (64 * i + k)) j := word_congr (fun m hm => by
  have h1 : ¬ (64 * j + m = 64 * i + k) := by omega
  simp [del, h1])
theorem word_join (s t : S) (i : Nat) : word s i ||| word t i = word (join s t) i :=
  word_eq (Nat.or_lt_two_pow (n := 64) (word_lt s i) (word_lt t i)) (fun j hj => by rw [Nat.testBit_or, word_bit, word_bit]; simp [join, hj])
theorem word_meet (s t : S) (i : Nat) : word s i &&& word t i = word (meet s t) i :=
  word_eq (Nat.lt_of_le_of_lt Nat.and_le_left (word_lt s i)) (fun j hj => by rw [Nat.testBit_and, word_bit, word_bit]; simp [meet, hj])
theorem word_not (s : S) (i : Nat) : 18446744073709551615 - word s i = word (fun c => !(s c)) i := by
  refine word_eq (by omega) (fun j hj => ?_)
  have h4 : 18446744073709551615 - word s i = 2 ^ 64 - (word s i + 1) := by have : (18446744073709551615 : Nat) = 2 ^ 64 - 1 := by decide
                                                                            omega
  rw [h4, Nat.testBit_two_pow_sub_succ (word_lt s i) j, word_bit]
  simp [hj]
theorem word_has (s : S) (b : Nat) : word s (b / 64) / 2 ^ (b % 64) % 2 = if s b then 1 else 0 := by
  have h := word_bit s (b / 64) (b % 64)
  have e : 64 * (b / 64) + b % 64 = b := by omega
  have hm : b % 64 < 64 := by omega
  rw [e, Nat.testBit_eq_decide_div_mod_eq] at h
  simp only [hm, decide_true, Bool.true_and] at h
  by_cases hs : s b = true
  · rw [hs] at h; simp only [decide_eq_true_eq] at h; rw [h, if_pos hs]
  · rw [if_neg hs]; simp at hs; rw [hs] at h; simp only [decide_eq_false_iff_not] at h; omega
/-- a bit that is off, turned on: or is plus -/
theorem or_add {x k : Nat} (h : x.testBit k = false) : x ||| 2 ^ k = x + 2 ^ k := by
  rw [Nat.testBit_eq_decide_div_mod_eq] at h
  simp only [decide_eq_false_iff_not] at h
  have h0 : x / 2 ^ k % 2 = 0 := by omega
  have hp : 0 < 2 ^ k := Nat.pow_pos (by decide)
  apply Nat.eq_of_testBit_eq
  intro j
  have hx : x = 2 ^ (k + 1) * (x / 2 ^ (k + 1)) + x % 2 ^ k := by
    have e1 : x / 2 ^ (k + 1) = x / 2 ^ k / 2 := by rw [Nat.pow_succ, Nat.div_div_eq_div_mul]
    have e2 : 2 * (x / 2 ^ k / 2) = x / 2 ^ k := by omega
    have e3 := Nat.div_add_mod x (2 ^ k)
    rw [e1, Nat.pow_succ, Nat.mul_assoc, e2]
    exact e3.symm
  have hm : x % 2 ^ k < 2 ^ k := Nat.mod_lt _ hp
  have hs : x + 2 ^ k = 2 ^ (k + 1) * (x / 2 ^ (k + 1)) + (2 ^ k + x % 2 ^ k) := by omega
  have hm2 : 2 ^ k + x % 2 ^ k < 2 ^ (k + 1) := by rw [Nat.pow_succ]; omega
  have hm3 : x % 2 ^ k < 2 ^ (k + 1) := by rw [Nat.pow_succ]; omega
  rw [Nat.testBit_or, Nat.testBit_two_pow, hs, Nat.testBit_two_pow_mul_add _ hm2]
  have hx' : x.testBit j = (2 ^ (k + 1) * (x / 2 ^ (k + 1)) + x % 2 ^ k).testBit j := by rw [← hx]
  rw [hx', Nat.testBit_two_pow_mul_add _ hm3]
  by_cases hj : j < k + 1
  · rw [if_pos hj, if_pos hj]
    by_cases e : k = j
    · subst e
      rw [Nat.testBit_two_pow_add_eq]
      simp [Nat.testBit_lt_two_pow hm]
    · have hjk : j < k := by omega
      rw [Nat.testBit_two_pow_add_gt hjk]
      simp [e]
  · have e : ¬ k = j := by omega
    rw [if_neg hj, if_neg hj]
    simp [e]
theorem count_succ (s : S) (n : Nat) : count s (n + 1) = count s n + if s n then 1 else 0 := by
  unfold count
  rw [List.range_succ, List.filter_append]
  by_cases h : s n = true <;> simp [h]
theorem count_le (s : S) (n : Nat) : count s n ≤ n := by
  unfold count
  have := List.length_filter_le s (List.range n)
  simpa using this
/-- one set below a word, another from it on -/
def upto (j : Nat) (f g : S) : S := fun c => if c < 64 * j then f c else g c
theorem word_upto_lt (f g : S) (i j : Nat) (h : i < j) : word (upto j f g) i = word f i := word_congr (fun k hk => by
  have : 64 * i + k < 64 * j := by omega
  simp [upto, this])
theorem word_upto_ge (f g : S) (i j : Nat) (h : j ≤ i) : word (upto j f g) i = word g i := word_congr (fun k hk => by
  have : ¬ 64 * i + k < 64 * j := by omega
  simp [upto, this])
theorem word_upto_step (f g : S) (i j : Nat) (h : i ≠ j) : word (upto j f g) i = word (upto (j + 1) f g) i := by
  rcases Nat.lt_or_ge i j with h1 | h1
  · rw [word_upto_lt _ _ _ _ h1, word_upto_lt _ _ _ _ (by omega)]
  · rw [word_upto_ge _ _ _ _ h1, word_upto_ge _ _ _ _ (by omega)]
theorem upto_all (f g : S) (b : Nat) (h : b < 256) : upto 4 f g b = f b := by
  have : b < 64 * 4 := by omega
  simp [upto, this]
theorem upto_zero (f g : S) : upto 0 f g = g := by
  funext b
  simp [upto]
theorem has_snoc (bs : List Nat) (b c : Nat) : ins (has bs) b c = has (bs ++ [b]) c := by
  simp only [ins, has, List.contains_eq_mem, List.mem_append, List.mem_singleton]
  by_cases h : c = b <;> simp [h]
theorem has_take_succ (bs : List Nat) (k : Nat) (h : k < bs.length) (c : Nat) : ins (has (bs.take k)) (bs.getD k 0) c = has (bs.take (k + 1)) c := by
  rw [has_snoc, List.take_succ_eq_append_getElem h]
  simp [List.getD, h]
/-- so many bytes from one on -/
def run (f k : Nat) : S := fun c => decide (f ≤ c) && decide (c < f + k)
theorem run_succ (f k c : Nat) : ins (run f k) (f + k) c = run f (k + 1) c := by
  simp only [ins, run]
  by_cases h : c = f + k
  · subst h; simp
  · have : c < f + (k + 1) ↔ c < f + k := by omega
    simp [h, this]
theorem joins_snoc (l : List S) (s : S) (c : Nat) : join (joins l) s c = joins (l ++ [s]) c := by simp [join, joins]
theorem joins_take_succ (l : List S) (k : Nat) (s : S) (h : l[k]? = some s) (c : Nat) : join (joins (l.take k)) s c = joins (l.take (k + 1)) c := by
  obtain ⟨hk, e⟩ := List.getElem?_eq_some_iff.1 h
  rw [joins_snoc, List.take_succ_eq_append_getElem hk, e]
/-- those of a set below a number -/
def below (n : Nat) (f : S) : S := fun c => decide (c < n) && f c
theorem below_zero (f : S) : below 0 f = none := by funext c; simp [below, none]
theorem below_all (f : S) (c : Nat) (h : c < 256) : below 256 f c = f c := by simp [below, h]
theorem below_yes (n : Nat) (f : S) (h : f n = true) (c : Nat) : ins (below n f) n c = below (n + 1) f c := by
  simp only [ins, below]
  by_cases e : c = n
  · subst e; simp [h]
  · have : c < n + 1 ↔ c < n := by omega
    simp [e, this]
theorem below_no (n : Nat) (f : S) (h : f n = false) (c : Nat) : below n f c = below (n + 1) f c := by
  simp only [below]
  by_cases e : c = n
  · subst e; simp [h]
  · have : c < n + 1 ↔ c < n := by omega
    simp [this]
end Oct
