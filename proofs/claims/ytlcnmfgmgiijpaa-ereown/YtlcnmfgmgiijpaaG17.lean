/- All of ere's reader; the bound that is always enough. -/
import Derived.Test.YtlcnmfgmgiijpaaG16
namespace Go.Proofs.Ytlcnmfgmgiijpaa
open Go.RowKit

theorem all_ok : ∀ n, PatOK n ∧ AltOK n ∧ PieceOK n ∧ AtomOK n ∧ GroupOK n := by
  intro n
  induction n using Nat.strongRecOn with
  | ind n ih => exact ⟨pat_walk n (fun m h => (ih m h).2.1), alt_walk n (fun m h => (ih m h).2.2.1), piece_walk n (fun m h => (ih m h).2.2.2.1), atom_walk n (fun m h => (ih m h).2.2.2.2), group_walk n (fun m h => (ih m h).1)⟩
theorem count_out {s : ByteArray} {o i : Nat} : count s o i ≠ .out := by unfold count; split <;> simp
theorem countsEnd_out {s : ByteArray} {o j : Nat} {l m : Int} : countsEnd s o l m j ≠ .out := by unfold countsEnd; split <;> simp
theorem counts_out {s : ByteArray} {i : Nat} : counts s i ≠ .out := by
  unfold counts
  split
  · split
    · split
      · exact countsEnd_out
      · split
        · exact countsEnd_out
        · simp
        · rename_i h; exact absurd h count_out
    · exact countsEnd_out
  · simp
  · rename_i h; exact absurd h count_out
theorem repeated_out {s : ByteArray} {t : Tr} {i : Nat} : repeated s t i ≠ .out := by
  unfold repeated
  split
  · simp
  · split
    · simp
    · split
      · simp
      · split
        · split
          · simp
          · simp
          · rename_i h; exact absurd h counts_out
        · simp
theorem item_out {s : ByteArray} {o i : Nat} : item s o i ≠ .out := by
  unfold item
  split
  · simp
  · split
    · unfold class_
      split
      · split <;> simp
      · simp
    · split
      · simp
      · split
        · unfold span_
          split <;> simp
        · simp
theorem setLoop_out {s : ByteArray} {o : Nat} : ∀ {f : Nat} {a : Oct.S} {i : Nat}, i ≤ s.size → s.size - i < f → setLoop s o f a i ≠ .out := by
  intro f
  induction f with
  | zero => intro a i _ h; omega
  | succ f ih =>
    intro a i hi hf
    rw [setLoop]
    split
    · simp
    · split
      · rename_i b j hc
        have h1 := item_le hi hc
        exact ih h1.1 (by omega)
      · simp
      · rename_i h; exact absurd h item_out
theorem setOf_out {s : ByteArray} {f i : Nat} (hi : i < s.size) (hf : s.size - i < f) : setOf s f i ≠ .out := by
  unfold setOf
  split
  · rename_i a j hc
    have h2 : (if sees s (i + 1) 94 = true then i + 2 else i + 1) ≤ s.size := by
      split
      · rename_i h; unfold sees at h; simp at h; omega
      · omega
    have h1 := item_le h2 hc
    have h3 : i < j := by
      have := h1.2
      split at this <;> omega
    split
    · simp
    · simp
    · rename_i h; exact absurd h (setLoop_out h1.1 (by omega))
  · simp
  · rename_i h; exact absurd h item_out
theorem sees_lt {s : ByteArray} {i b : Nat} (h : sees s i b = true) : i < s.size := by unfold sees at h; simp at h; exact h.1
theorem enough (s : ByteArray) (n : Nat) : (∀ d i, 8 * (s.size - i) + 8 ≤ n → pat s n d i ≠ .out) ∧ (∀ d acc i, 8 * (s.size - i) + 6 ≤ n → patLoop s n d acc i ≠ .out) ∧ (∀ d i, 8 * (s.size - i) + 5 ≤ n → alt s n d i ≠ .out) ∧ (∀ d acc i, 8 * (s.size - i) + 4 ≤ n → altLoop s n d acc i ≠ .out) ∧ (∀ d i, i < s.size → 8 * (s.size - i) + 3 ≤ n → piece s n d i ≠ .out) ∧ (∀ d i, i < s.size → 8 * (s.size - i) + 2 ≤ n → atom s n d i ≠ .out) ∧ (∀ d i, i < s.size → 8 * (s.size - i) + 1 ≤ n → group s n d i ≠ .out) := by
  induction n with
  | zero => refine ⟨?_, ?_, ?_, ?_, ?_, ?_, ?_⟩ <;> intros <;> omega
  | succ n ih =>
    obtain ⟨i1, i2, i3, i4, i5, i6, i7⟩ := ih
    have hge := read_ge s n
    refine ⟨fun d i hn => ?_, fun d acc i hn => ?_, fun d i hn => ?_, fun d acc i hn => ?_, fun d i hi hn => ?_, fun d i hi hn => ?_, fun d i hi hn => ?_⟩
    · rw [pat]
      split
      · rename_i t j hc
        have := hge.2.2.1 _ _ _ _ hc
        exact i2 _ _ _ (by omega)
      · simp
      · rename_i h; exact absurd h (i3 _ _ (by omega))
    · rw [patLoop]
      split
      · rename_i hs
        have hlt := sees_lt hs
        split
        · rename_i t j hc
          have := hge.2.2.1 _ _ _ _ hc
          exact i2 _ _ _ (by omega)
        · simp
        · rename_i h; exact absurd h (i3 _ _ (by omega))
      · simp
    · rw [alt]
      exact i4 _ _ _ (by omega)
    · rw [altLoop]
      split
      · rename_i hs
        have hlt : i < s.size := by simp at hs; exact hs.1.1
        split
        · rename_i t j hc
          have := hge.2.2.2.2.1 _ _ _ _ hc
          exact i4 _ _ _ (by omega)
        · simp
        · rename_i h; exact absurd h (i5 _ _ hlt (by omega))
      · simp
    · rw [piece]
      split
      · simp
      · split
        · simp
        · split
          · exact repeated_out
          · simp
          · rename_i h; exact absurd h (i6 _ _ hi (by omega))
    · rw [atom]
      split
      · simp
      · split
        · exact i7 _ _ hi (by omega)
        · split
          · split
            · simp
            · simp
            · rename_i h; exact absurd h (setOf_out hi (by omega))
          · split
            · simp
            · split
              · split <;> simp
              · simp
    · rw [group]
      split
      · simp
      · split
        · split <;> simp
        · simp
        · rename_i h; exact absurd h (i1 _ _ (by omega))
/-- a whole pattern, read -/
def patOf (s : ByteArray) : Rs Tr := pat s (8 * s.size + 8) 0 0
theorem patOf_out (s : ByteArray) : patOf s ≠ .out := (enough s _).1 0 0 (by omega)
theorem pattern_any (B : Nat) (s : ByteArray) (w : World) (h : Pre w B s 0 0) : Calls Try.prog 39 #[.pointer (some ⟨B, 0, none⟩)] w (Reads w B s 0 (patOf s) (TreeV w.heap.size)) := (all_ok _).1 B 0 0 s w h (patOf_out s)
end Go.Proofs.Ytlcnmfgmgiijpaa

/- A greater bound reads the same. -/
namespace Go.Proofs.Ytlcnmfgmgiijpaa

theorem setLoop_more {s : ByteArray} {o : Nat} : ∀ {f : Nat} {a : Oct.S} {i : Nat}, setLoop s o f a i ≠ .out → setLoop s o (f + 1) a i = setLoop s o f a i := by
  intro f
  induction f with
  | zero => intro a i h; exact absurd rfl h
  | succ f ih =>
    intro a i h
    rw [setLoop] at h
    rw [setLoop, setLoop]
    split
    · rfl
    · rename_i h93
      rw [if_neg h93] at h
      cases hc : item s o i with
      | ok b j =>
        rw [hc] at h
        exact ih h
      | bad x e => rfl
      | out => rfl
theorem setOf_more {s : ByteArray} {f i : Nat} (h : setOf s f i ≠ .out) : setOf s (f + 1) i = setOf s f i := by
  unfold setOf at h ⊢
  cases hc : item s i (if sees s (i + 1) 94 = true then i + 2 else i + 1) with
  | ok a j =>
    rw [hc] at h
    simp only at h ⊢
    have h1 : setLoop s i f a j ≠ .out := fun e => h (by rw [e])
    rw [setLoop_more h1]
  | bad x e => rfl
  | out => rfl
theorem read_more (s : ByteArray) (n : Nat) : (∀ d i, pat s n d i ≠ .out → pat s (n + 1) d i = pat s n d i) ∧ (∀ d acc i, patLoop s n d acc i ≠ .out → patLoop s (n + 1) d acc i = patLoop s n d acc i) ∧ (∀ d i, alt s n d i ≠ .out → alt s (n + 1) d i = alt s n d i) ∧ (∀ d acc i, altLoop s n d acc i ≠ .out → altLoop s (n + 1) d acc i = altLoop s n d acc i) ∧ (∀ d i, piece s n d i ≠ .out → piece s (n + 1) d i = piece s n d i) ∧ (∀ d i, atom s n d i ≠ .out → atom s (n + 1) d i = atom s n d i) ∧ (∀ d i, group s n d i ≠ .out → group s (n + 1) d i = group s n d i) := by
  induction n with
  | zero => refine ⟨?_, ?_, ?_, ?_, ?_, ?_, ?_⟩ <;> intros <;> rename_i h <;> simp [pat, patLoop, alt, altLoop, piece, atom, group] at h
  | succ n ih =>
    obtain ⟨i1, i2, i3, i4, i5, i6, i7⟩ := ih
    refine ⟨fun d i h => ?_, fun d acc i h => ?_, fun d i h => ?_, fun d acc i h => ?_, fun d i h => ?_, fun d i h => ?_, fun d i h => ?_⟩
    · rw [pat] at h
      rw [pat, pat]
      have h1 : alt s n d i ≠ .out := fun e => h (by rw [e])
      rw [i3 d i h1]
      cases hc : alt s n d i with
      | ok t j => rw [hc] at h; exact i2 _ _ _ h
      | bad a e => rfl
      | out => rfl
    · rw [patLoop] at h
      rw [patLoop, patLoop]
      split
      · rename_i hs
        rw [if_pos hs] at h
        have h1 : alt s n d (i + 1) ≠ .out := fun e => h (by rw [e])
        rw [i3 d (i + 1) h1]
        cases hc : alt s n d (i + 1) with
        | ok t j => rw [hc] at h; exact i2 _ _ _ h
        | bad a e => rfl
        | out => rfl
      · rfl
    · rw [alt] at h
      rw [alt, alt]
      exact i4 _ _ _ h
    · rw [altLoop] at h
      rw [altLoop, altLoop]
      split
      · rename_i hs
        rw [if_pos hs] at h
        have h1 : piece s n d i ≠ .out := fun e => h (by rw [e])
        rw [i5 d i h1]
        cases hc : piece s n d i with
        | ok t j => rw [hc] at h; exact i4 _ _ _ h
        | bad a e => rfl
        | out => rfl
      · rfl
    · rw [piece] at h
      rw [piece, piece]
      split
      · rfl
      · rename_i h94
        rw [if_neg h94] at h
        split
        · rfl
        · rename_i h36
          rw [if_neg h36] at h
          have h1 : atom s n d i ≠ .out := fun e => h (by rw [e])
          rw [i6 d i h1]
    · rw [atom] at h
      rw [atom, atom]
      split
      · rfl
      · rename_i g1
        rw [if_neg g1] at h
        split
        · rename_i g2
          rw [if_pos g2] at h
          exact i7 _ _ h
        · rename_i g2
          rw [if_neg g2] at h
          split
          · rename_i g3
            rw [if_pos g3] at h
            have h1 : setOf s n i ≠ .out := fun e => h (by rw [e])
            rw [setOf_more h1]
          · rfl
    · rw [group] at h
      rw [group, group]
      split
      · rfl
      · rename_i g1
        rw [if_neg g1] at h
        have h1 : pat s n (d + 1) (i + 1) ≠ .out := fun e => h (by rw [e])
        rw [i1 _ _ h1]
theorem pat_more {s : ByteArray} {n d i : Nat} (h : pat s n d i ≠ .out) : ∀ k, pat s (n + k) d i = pat s n d i := by
  intro k
  induction k with
  | zero => rfl
  | succ k ih => rw [← Nat.add_assoc, (read_more s (n + k)).1 d i (by rw [ih]; exact h), ih]
/-- any bound that is great enough reads the pattern -/
theorem patOf_eq {s : ByteArray} {n : Nat} (h : 8 * s.size + 8 ≤ n) : pat s n 0 0 = patOf s := by
  obtain ⟨k, rfl⟩ : ∃ k, n = 8 * s.size + 8 + k := ⟨n - (8 * s.size + 8), by omega⟩
  exact pat_more (patOf_out s) k
end Go.Proofs.Ytlcnmfgmgiijpaa

/- Places that are told lie in the pattern. -/
namespace Go.Proofs.Ytlcnmfgmgiijpaa

theorem count_at {s : ByteArray} {o i a e : Nat} (h : count s o i = .bad a e) : a = o := by
  unfold count at h
  split at h
  · cases h; rfl
  · cases h
theorem countsEnd_at {s : ByteArray} {o j a e : Nat} {l x : Int} (h : countsEnd s o l x j = .bad a e) : a = o := by
  unfold countsEnd at h
  split at h
  · cases h
  · cases h; rfl
theorem counts_at {s : ByteArray} {i a e : Nat} (h : counts s i = .bad a e) : a = i := by
  unfold counts at h
  split at h
  · split at h
    · split at h
      · exact countsEnd_at h
      · split at h
        · exact countsEnd_at h
        · rename_i h2; cases h; exact count_at h2
        · cases h
    · exact countsEnd_at h
  · rename_i h2; cases h; exact count_at h2
  · cases h
theorem repeated_at {s : ByteArray} {t : Tr} {i a e : Nat} (h : repeated s t i = .bad a e) : a = i := by
  unfold repeated at h
  split at h
  · cases h
  · split at h
    · cases h
    · split at h
      · cases h
      · split at h
        · split at h
          · cases h
          · rename_i h2; cases h; exact counts_at h2
          · cases h
        · cases h
theorem repeated_le {s : ByteArray} {t u : Tr} {i j : Nat} (hi : i ≤ s.size) (h : repeated s t i = .ok u j) : j ≤ s.size := by
  unfold repeated at h
  split at h
  · rename_i g; cases h; exact sees_lt g
  · split at h
    · rename_i g; cases h; exact sees_lt g
    · split at h
      · rename_i g; cases h; exact sees_lt g
      · split at h
        · split at h
          · rename_i h2; cases h; exact counts_lt h2
          · cases h
          · cases h
        · cases h; exact hi
theorem item_at {s : ByteArray} {o i a e : Nat} (h : item s o i = .bad a e) : a = o ∨ a = i := by
  unfold item at h
  split at h
  · cases h; exact .inl rfl
  · split at h
    · unfold class_ at h
      split at h
      · split at h
        · cases h
        · cases h; exact .inr rfl
      · cases h; exact .inl rfl
    · split at h
      · cases h; exact .inr rfl
      · split at h
        · unfold span_ at h
          split at h
          · cases h; exact .inr rfl
          · cases h
        · cases h
theorem setLoop_at {s : ByteArray} {o : Nat} (ho : o ≤ s.size) : ∀ {f : Nat} {x : Oct.S} {i : Nat}, i ≤ s.size → (∀ y j, setLoop s o f x i = .ok y j → j ≤ s.size) ∧ (∀ a e, setLoop s o f x i = .bad a e → a ≤ s.size) := by
  intro f
  induction f with
  | zero => intro x i _; exact ⟨fun y j h => by simp [setLoop] at h, fun a e h => by simp [setLoop] at h⟩
  | succ f ih =>
    intro x i hi
    rw [setLoop]
    split
    · rename_i g
      exact ⟨fun y j h => (by cases h; exact sees_lt g), fun a e h => by cases h⟩
    · cases hc : item s o i with
      | ok b k => exact ih (item_le hi hc).1
      | bad a e => exact ⟨fun y j h => (by cases h), fun a e h => by cases h; rcases item_at hc with rfl | rfl <;> omega⟩
      | out => exact ⟨fun y j h => (by cases h), fun a e h => by cases h⟩
theorem setOf_at {s : ByteArray} {f i : Nat} (hi : i < s.size) : (∀ y j, setOf s f i = .ok y j → j ≤ s.size) ∧ (∀ a e, setOf s f i = .bad a e → a ≤ s.size) := by
  have hb : (if sees s (i + 1) 94 = true then i + 2 else i + 1) ≤ s.size := by
    split
    · rename_i g; have := sees_lt g; omega
    · omega
  unfold setOf
  cases hc : item s i (if sees s (i + 1) 94 = true then i + 2 else i + 1) with
  | bad a e =>
    refine ⟨fun y j h => ?_, fun a e h => ?_⟩
    · cases h
    · cases h
      rcases item_at hc with rfl | rfl <;> omega
  | out => exact ⟨fun y j h => (by cases h), fun a e h => by cases h⟩
  | ok b k =>
    have h1 := setLoop_at (s := s) (o := i) (by omega) (f := f) (x := b) (item_le hb hc).1
    refine ⟨fun y j h => ?_, fun a e h => ?_⟩
    · simp only at h
      split at h
      · rename_i h2; cases h; exact h1.1 _ _ h2
      · cases h
      · cases h
    · simp only at h
      split at h
      · cases h
      · rename_i h2; cases h; exact h1.2 _ _ h2
      · cases h
theorem read_at (s : ByteArray) (n : Nat) : (∀ d i, i ≤ s.size → (∀ t j, pat s n d i = .ok t j → j ≤ s.size) ∧ (∀ a e, pat s n d i = .bad a e → a ≤ s.size)) ∧ (∀ d acc i, i ≤ s.size → (∀ t j, patLoop s n d acc i = .ok t j → j ≤ s.size) ∧ (∀ a e, patLoop s n d acc i = .bad a e → a ≤ s.size)) ∧ (∀ d i, i ≤ s.size → (∀ t j, alt s n d i = .ok t j → j ≤ s.size) ∧ (∀ a e, alt s n d i = .bad a e → a ≤ s.size)) ∧ (∀ d acc i, i ≤ s.size → (∀ t j, altLoop s n d acc i = .ok t j → j ≤ s.size) ∧ (∀ a e, altLoop s n d acc i = .bad a e → a ≤ s.size)) ∧ (∀ d i, i < s.size → (∀ t j, piece s n d i = .ok t j → j ≤ s.size) ∧ (∀ a e, piece s n d i = .bad a e → a ≤ s.size)) ∧ (∀ d i, i < s.size → (∀ t j, atom s n d i = .ok t j → j ≤ s.size) ∧ (∀ a e, atom s n d i = .bad a e → a ≤ s.size)) ∧ (∀ d i, i < s.size → (∀ t j, group s n d i = .ok t j → j ≤ s.size) ∧ (∀ a e, group s n d i = .bad a e → a ≤ s.size)) := by
  induction n with
  | zero => refine ⟨?_, ?_, ?_, ?_, ?_, ?_, ?_⟩ <;> intros <;> simp [pat, patLoop, alt, altLoop, piece, atom, group]
  | succ n ih =>
    obtain ⟨i1, i2, i3, i4, i5, i6, i7⟩ := ih
    refine ⟨fun d i hi => ?_, fun d acc i hi => ?_, fun d i hi => ?_, fun d acc i hi => ?_, fun d i hi => ?_, fun d i hi => ?_, fun d i hi => ?_⟩
    · rw [pat]
      cases hc : alt s n d i with
      | ok t j => exact i2 _ _ _ ((i3 d i hi).1 _ _ hc)
      | bad a e => exact ⟨fun t j h => (by cases h), fun a e h => by cases h; exact (i3 d i hi).2 _ _ hc⟩
      | out => exact ⟨fun t j h => (by cases h), fun a e h => by cases h⟩
    · rw [patLoop]
      split
      · rename_i g
        have hlt := sees_lt g
        cases hc : alt s n d (i + 1) with
        | ok t j => exact i2 _ _ _ ((i3 d (i + 1) hlt).1 _ _ hc)
        | bad a e => exact ⟨fun t j h => (by cases h), fun a e h => by cases h; exact (i3 d (i + 1) hlt).2 _ _ hc⟩
        | out => exact ⟨fun t j h => (by cases h), fun a e h => by cases h⟩
      · exact ⟨fun t j h => (by cases h; exact hi), fun a e h => by cases h⟩
    · rw [alt]
      exact i4 _ _ _ hi
    · rw [altLoop]
      split
      · rename_i g
        have hlt : i < s.size := by simp at g; exact g.1.1
        cases hc : piece s n d i with
        | ok t j => exact i4 _ _ _ ((i5 d i hlt).1 _ _ hc)
        | bad a e => exact ⟨fun t j h => (by cases h), fun a e h => by cases h; exact (i5 d i hlt).2 _ _ hc⟩
        | out => exact ⟨fun t j h => (by cases h), fun a e h => by cases h⟩
      · exact ⟨fun t j h => (by cases h; exact hi), fun a e h => by cases h⟩
    · rw [piece]
      split
      · exact ⟨fun t j h => (by cases h; exact hi), fun a e h => by cases h⟩
      · split
        · exact ⟨fun t j h => (by cases h; exact hi), fun a e h => by cases h⟩
        · cases hc : atom s n d i with
          | ok t j =>
            have hj := (i6 d i hi).1 _ _ hc
            exact ⟨fun u k h => repeated_le hj h, fun a e h => by have := repeated_at h; omega⟩
          | bad a e => exact ⟨fun t j h => (by cases h), fun a e h => by cases h; exact (i6 d i hi).2 _ _ hc⟩
          | out => exact ⟨fun t j h => (by cases h), fun a e h => by cases h⟩
    · rw [atom]
      split
      · exact ⟨fun t j h => (by cases h), fun a e h => by cases h; omega⟩
      · split
        · exact i7 _ _ hi
        · split
          · cases hc : setOf s n i with
            | ok x j => exact ⟨fun t k h => (by cases h; exact (setOf_at hi).1 _ _ hc), fun a e h => by cases h⟩
            | bad a e => exact ⟨fun t j h => (by cases h), fun a e h => by cases h; exact (setOf_at hi).2 _ _ hc⟩
            | out => exact ⟨fun t j h => (by cases h), fun a e h => by cases h⟩
          · split
            · exact ⟨fun t j h => (by cases h; exact hi), fun a e h => by cases h⟩
            · split
              · split
                · exact ⟨fun t j h => (by cases h), fun a e h => by cases h; omega⟩
                · rename_i g
                  have hne : ¬ i + 1 = s.size := fun e => g (by simp [e])
                  exact ⟨fun t j h => (by cases h; omega), fun a e h => by cases h⟩
              · exact ⟨fun t j h => (by cases h; exact hi), fun a e h => by cases h⟩
    · rw [group]
      split
      · exact ⟨fun t j h => (by cases h), fun a e h => by cases h; omega⟩
      · cases hc : pat s n (d + 1) (i + 1) with
        | ok t j =>
          have hj := (i1 (d + 1) (i + 1) hi).1 _ _ hc
          simp only
          split
          · exact ⟨fun t j h => (by cases h), fun a e h => by cases h; omega⟩
          · exact ⟨fun t j h => (by cases h; omega), fun a e h => by cases h⟩
        | bad a e => exact ⟨fun t j h => (by cases h), fun a e h => by cases h; exact (i1 (d + 1) (i + 1) hi).2 _ _ hc⟩
        | out => exact ⟨fun t j h => (by cases h), fun a e h => by cases h⟩
end Go.Proofs.Ytlcnmfgmgiijpaa
