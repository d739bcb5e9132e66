/- Plain mathematics of OctetsBack: the rows of a set rise and don't touch; the set is their join, and their bytes; its count is their lengths' sum. -/
import Derived.Test.YtkgpmaclaahmbaaRowsMath
namespace Go.Proofs.Ytkgpmaclaahmbaa

abbrev Pr := Nat × Nat
/-- the bytes of a row -/
def bytesOf (x : Pr) : List Nat := List.range' x.1 (x.2 + 1 - x.1)
theorem mem_bytesOf (x : Pr) (b : Nat) : b ∈ bytesOf x ↔ x.1 ≤ b ∧ b ≤ x.2 := by
  unfold bytesOf
  rw [List.mem_range'_1]
  omega
/-- where the last row ends -/
def lastOf (p : Int) : List Pr → Int
  | [] => p
  | x :: r => lastOf (x.2 : Int) r
/-- the rows rise, don't touch, and lie in the set -/
def good (s : Oct.S) (p : Int) : List Pr → Prop
  | [] => True
  | x :: r => (p + 1 < (x.1 : Int) ∧ x.1 ≤ x.2 ∧ ∀ b, x.1 ≤ b → b ≤ x.2 → s b = true) ∧ good s (x.2 : Int) r
theorem lastOf_snoc (p : Int) (l : List Pr) (x : Pr) : lastOf p (l ++ [x]) = (x.2 : Int) := by
  induction l generalizing p with
  | nil => rfl
  | cons y l ih => exact ih _
theorem good_snoc (s : Oct.S) (p : Int) (l : List Pr) (x : Pr) : good s p (l ++ [x]) ↔ good s p l ∧ (lastOf p l + 1 < (x.1 : Int) ∧ x.1 ≤ x.2 ∧ ∀ b, x.1 ≤ b → b ≤ x.2 → s b = true) := by
  induction l generalizing p with
  | nil => simp [good, lastOf]
  | cons y l ih =>
    simp only [List.cons_append, good, lastOf]
    rw [ih]
    constructor
    · rintro ⟨h1, h2, h3⟩; exact ⟨⟨h1, h2⟩, h3⟩
    · rintro ⟨⟨h1, h2⟩, h3⟩; exact ⟨h1, h2, h3⟩
theorem good_prefix {s : Oct.S} {p : Int} {l m : List Pr} (h : l <+: m) (hg : good s p m) : good s p l := by
  obtain ⟨r, rfl⟩ := h
  induction l generalizing p with
  | nil => trivial
  | cons y l ih => exact ⟨hg.1, ih hg.2⟩
/-- the lengths' sum -/
def total : List Pr → Nat
  | [] => 0
  | x :: r => (x.2 + 1 - x.1) + total r
theorem total_snoc (l : List Pr) (x : Pr) : total (l ++ [x]) = total l + (x.2 + 1 - x.1) := by
  induction l with
  | nil => simp [total]
  | cons y l ih => simp only [List.cons_append, total, ih]; omega
def allBytes (l : List Pr) : List Nat := l.flatMap bytesOf
def allSets (l : List Pr) : List Oct.S := l.map (fun x => Oct.span x.1 x.2)
theorem allBytes_snoc (l : List Pr) (x : Pr) : allBytes (l ++ [x]) = allBytes l ++ bytesOf x := by simp [allBytes]
theorem allSets_snoc (l : List Pr) (x : Pr) : allSets (l ++ [x]) = allSets l ++ [Oct.span x.1 x.2] := by simp [allSets]
theorem st_lt (s : Oct.S) (k : Nat) (h : opn s k = true) : st s k < k := by
  cases k with
  | zero => simp [opn] at h
  | succ k =>
    have hs : ∀ j, st s j ≤ j := fun j => by
      induction j with
      | zero => simp [st]
      | succ j ihj => simp only [st]; split <;> omega
    rw [st_succ]
    split
    · have := hs k; omega
    · omega
theorem lastOf_closed (s : Oct.S) (k : Nat) : lastOf (-2) (closed s k) + 1 < (k : Int) := by
  by_cases h : closed s k = []
  · rw [h]; simp [lastOf]; omega
  · obtain ⟨r, x, e⟩ := exists_last h
    have := closed_lt s k x (by rw [e]; simp)
    rw [e, lastOf_snoc]
    omega
theorem ref_good (s : Oct.S) (k : Nat) : good s (-2) (refRows s k) := by
  induction k with
  | zero => rw [ref_zero]; trivial
  | succ k ih =>
    cases h : s k with
    | false => rw [ref_no s k h]; exact ih
    | true =>
      cases ho : opn s k with
      | false =>
        rw [ref_new s k h ho, good_snoc]
        refine ⟨ih, ?_, Nat.le_refl _, fun b h1 h2 => ?_⟩
        · have e : refRows s k = closed s k := by unfold refRows; rw [ho]; simp
          rw [e]
          exact lastOf_closed s k
        · have : b = k := by simp at h1 h2; omega
          rw [this]; exact h
      | true =>
        obtain ⟨e1, e2⟩ := ref_more s k h ho
        rw [e1, good_snoc] at ih
        rw [e2, good_snoc]
        have hp := opn_pos ho
        have hst := st_lt s k ho
        refine ⟨ih.1, ih.2.1, by simp; omega, fun b h1 h2 => ?_⟩
        simp at h1 h2
        by_cases hb : b = k
        · rw [hb]; exact h
        · exact ih.2.2.2 b h1 (by simp; omega)
/-- which bytes the rows have -/
def covers (l : List Pr) (b : Nat) : Prop := ∃ x ∈ l, x.1 ≤ b ∧ b ≤ x.2
theorem covers_snoc (l : List Pr) (x : Pr) (b : Nat) : covers (l ++ [x]) b ↔ covers l b ∨ (x.1 ≤ b ∧ b ≤ x.2) := by
  unfold covers
  constructor
  · rintro ⟨y, hy, h⟩
    rcases List.mem_append.1 hy with h1 | h1
    · exact .inl ⟨y, h1, h⟩
    · simp at h1; subst h1; exact .inr h
  · rintro (⟨y, hy, h⟩ | h)
    · exact ⟨y, List.mem_append.2 (.inl hy), h⟩
    · exact ⟨x, by simp, h⟩
theorem ref_covers (s : Oct.S) (k b : Nat) : covers (refRows s k) b ↔ b < k ∧ s b = true := by
  induction k with
  | zero => rw [ref_zero]; simp [covers]
  | succ k ih =>
    cases h : s k with
    | false =>
      rw [ref_no s k h, ih]
      constructor
      · rintro ⟨h1, h2⟩; exact ⟨by omega, h2⟩
      · rintro ⟨h1, h2⟩
        refine ⟨?_, h2⟩
        by_cases e : b = k
        · rw [e, h] at h2; cases h2
        · omega
    | true =>
      cases ho : opn s k with
      | false =>
        rw [ref_new s k h ho, covers_snoc, ih]
        constructor
        · rintro (⟨h1, h2⟩ | ⟨h1, h2⟩)
          · exact ⟨by omega, h2⟩
          · have : b = k := by simp at h1 h2; omega
            exact ⟨by omega, by rw [this]; exact h⟩
        · rintro ⟨h1, h2⟩
          by_cases e : b = k
          · exact .inr ⟨by simp; omega, by simp; omega⟩
          · exact .inl ⟨by omega, h2⟩
      | true =>
        obtain ⟨e1, e2⟩ := ref_more s k h ho
        have hp := opn_pos ho
        have hst := st_lt s k ho
        rw [e1, covers_snoc] at ih
        rw [e2, covers_snoc]
        simp only at ih ⊢
        constructor
        · rintro (h1 | ⟨h1, h2⟩)
          · have := ih.1 (.inl h1); exact ⟨by omega, this.2⟩
          · by_cases e : b = k
            · exact ⟨by omega, by rw [e]; exact h⟩
            · have := ih.1 (.inr ⟨h1, by omega⟩); exact ⟨by omega, this.2⟩
        · rintro ⟨h1, h2⟩
          by_cases e : b = k
          · exact .inr ⟨by omega, by omega⟩
          · rcases ih.2 ⟨by omega, h2⟩ with h3 | ⟨h3, h4⟩
            · exact .inl h3
            · exact .inr ⟨h3, by omega⟩
theorem ref_total (s : Oct.S) (k : Nat) : total (refRows s k) = Oct.count s k := by
  induction k with
  | zero => rw [ref_zero]; rfl
  | succ k ih =>
    rw [Oct.count_succ]
    cases h : s k with
    | false => rw [ref_no s k h, ih]; simp
    | true =>
      cases ho : opn s k with
      | false => rw [ref_new s k h ho, total_snoc, ih]; simp
      | true =>
        obtain ⟨e1, e2⟩ := ref_more s k h ho
        have hst := st_lt s k ho
        rw [e1, total_snoc] at ih
        rw [e2, total_snoc]
        simp only [if_true] at ih ⊢
        omega
theorem has_all (s : Oct.S) (b : Nat) (hb : b < 256) : Oct.has (allBytes (refRows s 256)) b = s b := by
  have h := ref_covers s 256 b
  have h2 : Oct.has (allBytes (refRows s 256)) b = true ↔ covers (refRows s 256) b := by
    unfold Oct.has allBytes covers
    rw [List.contains_eq_mem, decide_eq_true_iff, List.mem_flatMap]
    constructor
    · rintro ⟨x, hx, h⟩; exact ⟨x, hx, (mem_bytesOf x b).1 h⟩
    · rintro ⟨x, hx, h⟩; exact ⟨x, hx, (mem_bytesOf x b).2 h⟩
  rw [Bool.eq_iff_iff, h2, h]
  simp [hb]
theorem joins_all (s : Oct.S) (b : Nat) (hb : b < 256) : Oct.joins (allSets (refRows s 256)) b = s b := by
  have h := ref_covers s 256 b
  have h2 : Oct.joins (allSets (refRows s 256)) b = true ↔ covers (refRows s 256) b := by
    unfold Oct.joins allSets covers
    simp [Oct.span]
  rw [Bool.eq_iff_iff, h2, h]
  simp [hb]
theorem allBytes_lt (s : Oct.S) : ∀ b ∈ allBytes (refRows s 256), b < 256 := by
  intro b hb
  obtain ⟨x, hx, h⟩ := List.mem_flatMap.1 hb
  exact ((ref_covers s 256 b).1 ⟨x, hx, (mem_bytesOf x b).1 h⟩).1
end Go.Proofs.Ytkgpmaclaahmbaa
