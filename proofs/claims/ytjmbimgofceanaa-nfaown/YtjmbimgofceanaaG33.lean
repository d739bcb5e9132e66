/- A pattern read where it stands further on: the same, its places moved. -/
import Derived.Test.YtjmbimgofceanaaG32
import Derived.Test.YtjmbimgofceanaaG10
namespace Go.Proofs.Ytjmbimgofceanaa

def Rs.sh {α : Type} (o : Nat) : Rs α → Rs α
  | .ok x i => .ok x (i + o)
  | .bad i e => .bad (i + o) e
  | .out => .out
/-- s stands in s' from o on, to the end -/
structure Sh (s s' : ByteArray) (o : Nat) : Prop where
  b : ∀ i, byt s' (i + o) = byt s i
  z : s'.size = s.size + o
variable {s s' : ByteArray} {o : Nat}
theorem Sh.lt (h : Sh s s' o) (i : Nat) : decide (i + o < s'.size) = decide (i < s.size) := by rw [h.z]; simp
theorem Sh.sees (h : Sh s s' o) (i b : Nat) : Ytjmbimgofceanaa.sees s' (i + o) b = Ytjmbimgofceanaa.sees s i b := by
  unfold Ytjmbimgofceanaa.sees
  rw [h.lt, h.b]
theorem Sh.digit (h : Sh s s' o) (i : Nat) : isDigit s' (i + o) = isDigit s i := by
  unfold isDigit
  rw [h.lt, h.b]
theorem Sh.digits (h : Sh s s' o) : ∀ (f i n : Nat), Ytjmbimgofceanaa.digits s' f (i + o) n = ((Ytjmbimgofceanaa.digits s f i n).1, (Ytjmbimgofceanaa.digits s f i n).2 + o) := by
  intro f
  induction f with
  | zero => intro i n; rfl
  | succ f ih =>
    intro i n
    rw [Ytjmbimgofceanaa.digits, Ytjmbimgofceanaa.digits, h.digit, h.b]
    split
    · rw [show i + o + 1 = (i + 1) + o by omega, ih]
    · rfl
theorem Sh.count (h : Sh s s' o) (a i : Nat) : Ytjmbimgofceanaa.count s' (a + o) (i + o) = (Ytjmbimgofceanaa.count s a i).sh o := by
  unfold Ytjmbimgofceanaa.count
  rw [h.digits]
  simp only
  by_cases e : (Ytjmbimgofceanaa.digits s 3 i 0).2 = i
  · rw [if_pos (by omega), if_pos e]; rfl
  · rw [if_neg (by omega), if_neg e]; rfl
theorem Sh.countsEnd (h : Sh s s' o) (a j : Nat) (l m : Int) : Ytjmbimgofceanaa.countsEnd s' (a + o) l m (j + o) = (Ytjmbimgofceanaa.countsEnd s a l m j).sh o := by
  unfold Ytjmbimgofceanaa.countsEnd
  rw [h.sees]
  split <;> rfl
theorem Sh.counts (h : Sh s s' o) (i : Nat) : Ytjmbimgofceanaa.counts s' (i + o) = (Ytjmbimgofceanaa.counts s i).sh o := by
  unfold Ytjmbimgofceanaa.counts
  rw [show i + o + 1 = (i + 1) + o by omega, h.count]
  cases Ytjmbimgofceanaa.count s i (i + 1) with
  | ok l j =>
    simp only [Rs.sh]
    rw [h.sees, show j + o + 1 = (j + 1) + o by omega, h.sees, h.count]
    split
    · split
      · exact h.countsEnd _ _ _ _
      · cases Ytjmbimgofceanaa.count s i (j + 1) with
        | ok m k => simp only [Rs.sh]; exact h.countsEnd _ _ _ _
        | bad a e => rfl
        | out => rfl
    · exact h.countsEnd _ _ _ _
  | bad a e => rfl
  | out => rfl
theorem Sh.repeated (h : Sh s s' o) (t : Tr) (i : Nat) : Ytjmbimgofceanaa.repeated s' t (i + o) = (Ytjmbimgofceanaa.repeated s t i).sh o := by
  unfold Ytjmbimgofceanaa.repeated
  rw [h.sees, h.sees, h.sees, h.sees, h.counts]
  split
  · simp only [Rs.sh]; congr 1; omega
  · split
    · simp only [Rs.sh]; congr 1; omega
    · split
      · simp only [Rs.sh]; congr 1; omega
      · split
        · cases Ytjmbimgofceanaa.counts s i with
          | ok x j => obtain ⟨l, m⟩ := x; simp only [Rs.sh]; congr 1; omega
          | bad a e => rfl
          | out => rfl
        · rfl
theorem Sh.special (h : Sh s s' o) (i : Nat) : Ytjmbimgofceanaa.special s' (i + o) = Ytjmbimgofceanaa.special s i := by
  unfold Ytjmbimgofceanaa.special
  rw [show i + o + 1 = (i + 1) + o by omega, h.lt, h.b, h.b]
theorem Sh.rest (h : Sh s s' o) (i : Nat) : (Ytjmbimgofceanaa.rest s' (i + o)).data.toList = (Ytjmbimgofceanaa.rest s i).data.toList := by
  have l1 := rest_len s i
  have l2 := rest_len s' (i + o)
  have hz := h.z
  apply List.ext_getElem (by omega)
  intro k h1 h2
  have e1 := rest_byt s i k
  have e2 := rest_byt s' (i + o) k
  rw [byt_list] at e1 e2
  rw [List.getD_eq_getElem?_getD, List.getElem?_eq_getElem h2] at e1
  rw [List.getD_eq_getElem?_getD, List.getElem?_eq_getElem h1] at e2
  rw [show i + o + k = (i + k) + o by omega, h.b, ← e1] at e2
  exact UInt8.toNat_inj.1 e2
theorem Sh.cls (h : Sh s s' o) (a i : Nat) : class_ s' (a + o) (i + o) = (class_ s a i).sh o := by
  have hn : className s' (i + o) = className s i := by
    unfold className
    rw [show i + o + 2 = (i + 2) + o by omega, h.rest]
  have he : classEnds s' (i + o) = classEnds s i := by
    unfold classEnds
    rw [show i + o + 2 = (i + 2) + o by omega, h.rest]
  unfold class_
  rw [hn, he]
  split
  · split
    · simp only [Rs.sh]; congr 1; omega
    · rfl
  · rfl
theorem Sh.span (h : Sh s s' o) (i : Nat) : span_ s' (i + o) = (span_ s i).sh o := by
  unfold span_
  rw [show i + o + 2 = (i + 2) + o by omega, h.b, h.b, h.special]
  split
  · rfl
  · simp only [Rs.sh]; congr 1; omega
theorem Sh.item (h : Sh s s' o) (a i : Nat) : Ytjmbimgofceanaa.item s' (a + o) (i + o) = (Ytjmbimgofceanaa.item s a i).sh o := by
  unfold Ytjmbimgofceanaa.item
  rw [h.z, show i + o + 1 = (i + 1) + o by omega, show i + o + 2 = (i + 2) + o by omega, h.b, h.b, h.b, h.special, h.span, h.cls]
  by_cases e : i = s.size
  · rw [if_pos (by omega), if_pos e]; rfl
  · rw [if_neg (by omega), if_neg e]
    simp only [Nat.add_lt_add_iff_right]
    split
    · rfl
    · split
      · rfl
      · split
        · rfl
        · rfl
theorem Sh.setLoop (h : Sh s s' o) (a : Nat) : ∀ (f : Nat) (x : Oct.S) (i : Nat), Ytjmbimgofceanaa.setLoop s' (a + o) f x (i + o) = (Ytjmbimgofceanaa.setLoop s a f x i).sh o := by
  intro f
  induction f with
  | zero => intro x i; rfl
  | succ f ih =>
    intro x i
    rw [Ytjmbimgofceanaa.setLoop, Ytjmbimgofceanaa.setLoop, h.sees, h.item]
    split
    · simp only [Rs.sh]; congr 1; omega
    · cases Ytjmbimgofceanaa.item s a i with
      | ok b j => simp only [Rs.sh]; exact ih _ _
      | bad a e => rfl
      | out => rfl
theorem Sh.setOf (h : Sh s s' o) (f i : Nat) : Ytjmbimgofceanaa.setOf s' f (i + o) = (Ytjmbimgofceanaa.setOf s f i).sh o := by
  unfold Ytjmbimgofceanaa.setOf
  rw [show i + o + 1 = (i + 1) + o by omega, h.sees, show (if Ytjmbimgofceanaa.sees s (i + 1) 94 = true then i + o + 2 else (i + 1) + o) = (if Ytjmbimgofceanaa.sees s (i + 1) 94 = true then i + 2 else i + 1) + o by split <;> omega, h.item]
  cases Ytjmbimgofceanaa.item s i (if Ytjmbimgofceanaa.sees s (i + 1) 94 = true then i + 2 else i + 1) with
  | ok a j =>
    simp only [Rs.sh]
    rw [h.setLoop]
    cases Ytjmbimgofceanaa.setLoop s i f a j with
    | ok b k => rfl
    | bad a e => rfl
    | out => rfl
  | bad a e => rfl
  | out => rfl
theorem read_shift (h : Sh s s' o) (n : Nat) : (∀ d i, pat s' n d (i + o) = (pat s n d i).sh o) ∧ (∀ d acc i, patLoop s' n d acc (i + o) = (patLoop s n d acc i).sh o) ∧ (∀ d i, alt s' n d (i + o) = (alt s n d i).sh o) ∧ (∀ d acc i, altLoop s' n d acc (i + o) = (altLoop s n d acc i).sh o) ∧ (∀ d i, piece s' n d (i + o) = (piece s n d i).sh o) ∧ (∀ d i, atom s' n d (i + o) = (atom s n d i).sh o) ∧ (∀ d i, group s' n d (i + o) = (group s n d i).sh o) := by
  induction n with
  | zero => refine ⟨?_, ?_, ?_, ?_, ?_, ?_, ?_⟩ <;> intros <;> simp [pat, patLoop, alt, altLoop, piece, atom, group, Rs.sh]
  | succ n ih =>
    obtain ⟨i1, i2, i3, i4, i5, i6, i7⟩ := ih
    refine ⟨fun d i => ?_, fun d acc i => ?_, fun d i => ?_, fun d acc i => ?_, fun d i => ?_, fun d i => ?_, fun d i => ?_⟩
    · rw [pat, pat, i3]
      cases alt s n d i with
      | ok t j => simp only [Rs.sh]; exact i2 _ _ _
      | bad a e => rfl
      | out => rfl
    · rw [patLoop, patLoop, h.sees, show i + o + 1 = (i + 1) + o by omega, i3]
      split
      · cases alt s n d (i + 1) with
        | ok t j => simp only [Rs.sh]; exact i2 _ _ _
        | bad a e => rfl
        | out => rfl
      · rfl
    · rw [alt, alt]
      exact i4 _ _ _
    · rw [altLoop, altLoop, h.lt, h.sees, h.sees, i5]
      split
      · cases piece s n d i with
        | ok t j => simp only [Rs.sh]; exact i4 _ _ _
        | bad a e => rfl
        | out => rfl
      · rfl
    · rw [piece, piece, h.b, i6]
      split
      · simp only [Rs.sh]; congr 1; omega
      · split
        · simp only [Rs.sh]; congr 1; omega
        · cases atom s n d i with
          | ok t j => simp only [Rs.sh]; exact h.repeated _ _
          | bad a e => rfl
          | out => rfl
    · rw [atom, atom, show i + o + 1 = (i + 1) + o by omega, h.b, h.b, i7, h.setOf, h.z]
      simp only [Nat.add_right_cancel_iff]
      split
      · rfl
      · split
        · rfl
        · split
          · cases setOf s n i with
            | ok t j => rfl
            | bad a e => rfl
            | out => rfl
          · split
            · rfl
            · split
              · split
                · rfl
                · simp only [Rs.sh]; congr 1; omega
              · rfl
    · rw [group, group, show i + o + 1 = (i + 1) + o by omega, i1, h.z]
      split
      · rfl
      · cases pat s n (d + 1) (i + 1) with
        | ok t j =>
          simp only [Rs.sh, Nat.add_right_cancel_iff]
          split
          · rfl
          · congr 1; omega
        | bad a e => rfl
        | out => rfl
end Go.Proofs.Ytjmbimgofceanaa

/- Places that are told lie in the pattern. -/
namespace Go.Proofs.Ytjmbimgofceanaa

theorem count_at {s : ByteArray} {o i a e : Nat} (h : count s o i = .bad a e) : a = o := by
  unfold count at h
  split at h
  · cases h; rfl
  · cases h
theorem countsEnd_at {s : ByteArray} {o j a e : Nat} {l x : Int} (h : countsEnd s o l x j = .bad a e) : a = o := by
  unfold countsEnd at h
  split at h
  · cases h
  · cases h; rfl
theorem counts_at {s : ByteArray} {i a e : Nat} (h : counts s i = .bad a e) : a = i := by
  unfold counts at h
  split at h
  · split at h
    · split at h
      · exact countsEnd_at h
      · split at h
        · exact countsEnd_at h
        · rename_i h2; cases h; exact count_at h2
        · cases h
    · exact countsEnd_at h
  · rename_i h2; cases h; exact count_at h2
  · cases h
theorem repeated_at {s : ByteArray} {t : Tr} {i a e : Nat} (h : repeated s t i = .bad a e) : a = i := by
  unfold repeated at h
  split at h
  · cases h
  · split at h
    · cases h
    · split at h
      · cases h
      · split at h
        · split at h
          · cases h
          · rename_i h2; cases h; exact counts_at h2
          · cases h
        · cases h
theorem repeated_le {s : ByteArray} {t u : Tr} {i j : Nat} (hi : i ≤ s.size) (h : repeated s t i = .ok u j) : j ≤ s.size := by
  unfold repeated at h
  split at h
  · rename_i g; cases h; exact sees_lt g
  · split at h
    · rename_i g; cases h; exact sees_lt g
    · split at h
      · rename_i g; cases h; exact sees_lt g
      · split at h
        · split at h
          · rename_i h2; cases h; exact counts_lt h2
          · cases h
          · cases h
        · cases h; exact hi
theorem item_at {s : ByteArray} {o i a e : Nat} (h : item s o i = .bad a e) : a = o ∨ a = i := by
  unfold item at h
  split at h
  · cases h; exact .inl rfl
  · split at h
    · unfold class_ at h
      split at h
      · split at h
        · cases h
        · cases h; exact .inr rfl
      · cases h; exact .inl rfl
    · split at h
      · cases h; exact .inr rfl
      · split at h
        · unfold span_ at h
          split at h
          · cases h; exact .inr rfl
          · cases h
        · cases h
theorem setLoop_at {s : ByteArray} {o : Nat} (ho : o ≤ s.size) : ∀ {f : Nat} {x : Oct.S} {i : Nat}, i ≤ s.size → (∀ y j, setLoop s o f x i = .ok y j → j ≤ s.size) ∧ (∀ a e, setLoop s o f x i = .bad a e → a ≤ s.size) := by
  intro f
  induction f with
  | zero => intro x i _; exact ⟨fun y j h => by simp [setLoop] at h, fun a e h => by simp [setLoop] at h⟩
  | succ f ih =>
    intro x i hi
    rw [setLoop]
    split
    · rename_i g
      exact ⟨fun y j h => (by cases h; exact sees_lt g), fun a e h => by cases h⟩
    · cases hc : item s o i with
      | ok b k => exact ih (item_le hi hc).1
      | bad a e => exact ⟨fun y j h => (by cases h), fun a e h => by cases h; rcases item_at hc with rfl | rfl <;> omega⟩
      | out => exact ⟨fun y j h => (by cases h), fun a e h => by cases h⟩
theorem setOf_at {s : ByteArray} {f i : Nat} (hi : i < s.size) : (∀ y j, setOf s f i = .ok y j → j ≤ s.size) ∧ (∀ a e, setOf s f i = .bad a e → a ≤ s.size) := by
  have hb : (if sees s (i + 1) 94 = true then i + 2 else i + 1) ≤ s.size := by
    split
    · rename_i g; have := sees_lt g; omega
    · omega
  unfold setOf
  cases hc : item s i (if sees s (i + 1) 94 = true then i + 2 else i + 1) with
  | bad a e =>
    refine ⟨fun y j h => ?_, fun a e h => ?_⟩
    · cases h
    · cases h
      rcases item_at hc with rfl | rfl <;> omega
  | out => exact ⟨fun y j h => (by cases h), fun a e h => by cases h⟩
  | ok b k =>
    have h1 := setLoop_at (s := s) (o := i) (by omega) (f := f) (x := b) (item_le hb hc).1
    refine ⟨fun y j h => ?_, fun a e h => ?_⟩
    · simp only at h
      split at h
      · rename_i h2; cases h; exact h1.1 _ _ h2
      · cases h
      · cases h
    · simp only at h
      split at h
      · cases h
      · rename_i h2; cases h; exact h1.2 _ _ h2
      · cases h
theorem read_at (s : ByteArray) (n : Nat) : (∀ d i, i ≤ s.size → (∀ t j, pat s n d i = .ok t j → j ≤ s.size) ∧ (∀ a e, pat s n d i = .bad a e → a ≤ s.size)) ∧ (∀ d acc i, i ≤ s.size → (∀ t j, patLoop s n d acc i = .ok t j → j ≤ s.size) ∧ (∀ a e, patLoop s n d acc i = .bad a e → a ≤ s.size)) ∧ (∀ d i, i ≤ s.size → (∀ t j, alt s n d i = .ok t j → j ≤ s.size) ∧ (∀ a e, alt s n d i = .bad a e → a ≤ s.size)) ∧ (∀ d acc i, i ≤ s.size → (∀ t j, altLoop s n d acc i = .ok t j → j ≤ s.size) ∧ (∀ a e, altLoop s n d acc i = .bad a e → a ≤ s.size)) ∧ (∀ d i, i < s.size → (∀ t j, piece s n d i = .ok t j → j ≤ s.size) ∧ (∀ a e, piece s n d i = .bad a e → a ≤ s.size)) ∧ (∀ d i, i < s.size → (∀ t j, atom s n d i = .ok t j → j ≤ s.size) ∧ (∀ a e, atom s n d i = .bad a e → a ≤ s.size)) ∧ (∀ d i, i < s.size → (∀ t j, group s n d i = .ok t j → j ≤ s.size) ∧ (∀ a e, group s n d i = .bad a e → a ≤ s.size)) := by
  induction n with
  | zero => refine ⟨?_, ?_, ?_, ?_, ?_, ?_, ?_⟩ <;> intros <;> simp [pat, patLoop, alt, altLoop, piece, atom, group]
  | succ n ih =>
    obtain ⟨i1, i2, i3, i4, i5, i6, i7⟩ := ih
    refine ⟨fun d i hi => ?_, fun d acc i hi => ?_, fun d i hi => ?_, fun d acc i hi => ?_, fun d i hi => ?_, fun d i hi => ?_, fun d i hi => ?_⟩
    · rw [pat]
      cases hc : alt s n d i with
      | ok t j => exact i2 _ _ _ ((i3 d i hi).1 _ _ hc)
      | bad a e => exact ⟨fun t j h => (by cases h), fun a e h => by cases h; exact (i3 d i hi).2 _ _ hc⟩
      | out => exact ⟨fun t j h => (by cases h), fun a e h => by cases h⟩
    · rw [patLoop]
      split
      · rename_i g
        have hlt := sees_lt g
        cases hc : alt s n d (i + 1) with
        | ok t j => exact i2 _ _ _ ((i3 d (i + 1) hlt).1 _ _ hc)
        | bad a e => exact ⟨fun t j h => (by cases h), fun a e h => by cases h; exact (i3 d (i + 1) hlt).2 _ _ hc⟩
        | out => exact ⟨fun t j h => (by cases h), fun a e h => by cases h⟩
      · exact ⟨fun t j h => (by cases h; exact hi), fun a e h => by cases h⟩
    · rw [alt]
      exact i4 _ _ _ hi
    · rw [altLoop]
      split
      · rename_i g
        have hlt : i < s.size := by simp at g; exact g.1.1
        cases hc : piece s n d i with
        | ok t j => exact i4 _ _ _ ((i5 d i hlt).1 _ _ hc)
        | bad a e => exact ⟨fun t j h => (by cases h), fun a e h => by cases h; exact (i5 d i hlt).2 _ _ hc⟩
        | out => exact ⟨fun t j h => (by cases h), fun a e h => by cases h⟩
      · exact ⟨fun t j h => (by cases h; exact hi), fun a e h => by cases h⟩
    · rw [piece]
      split
      · exact ⟨fun t j h => (by cases h; exact hi), fun a e h => by cases h⟩
      · split
        · exact ⟨fun t j h => (by cases h; exact hi), fun a e h => by cases h⟩
        · cases hc : atom s n d i with
          | ok t j =>
            have hj := (i6 d i hi).1 _ _ hc
            exact ⟨fun u k h => repeated_le hj h, fun a e h => by have := repeated_at h; omega⟩
          | bad a e => exact ⟨fun t j h => (by cases h), fun a e h => by cases h; exact (i6 d i hi).2 _ _ hc⟩
          | out => exact ⟨fun t j h => (by cases h), fun a e h => by cases h⟩
    · rw [atom]
      split
      · exact ⟨fun t j h => (by cases h), fun a e h => by cases h; omega⟩
      · split
        · exact i7 _ _ hi
        · split
          · cases hc : setOf s n i with
            | ok x j => exact ⟨fun t k h => (by cases h; exact (setOf_at hi).1 _ _ hc), fun a e h => by cases h⟩
            | bad a e => exact ⟨fun t j h => (by cases h), fun a e h => by cases h; exact (setOf_at hi).2 _ _ hc⟩
            | out => exact ⟨fun t j h => (by cases h), fun a e h => by cases h⟩
          · split
            · exact ⟨fun t j h => (by cases h; exact hi), fun a e h => by cases h⟩
            · split
              · split
                · exact ⟨fun t j h => (by cases h), fun a e h => by cases h; omega⟩
                · rename_i g
                  have hne : ¬ i + 1 = s.size := fun e => g (by simp [e])
                  exact ⟨fun t j h => (by cases h; omega), fun a e h => by cases h⟩
              · exact ⟨fun t j h => (by cases h; exact hi), fun a e h => by cases h⟩
    · rw [group]
      split
      · exact ⟨fun t j h => (by cases h), fun a e h => by cases h; omega⟩
      · cases hc : pat s n (d + 1) (i + 1) with
        | ok t j =>
          have hj := (i1 (d + 1) (i + 1) hi).1 _ _ hc
          simp only
          split
          · exact ⟨fun t j h => (by cases h), fun a e h => by cases h; omega⟩
          · exact ⟨fun t j h => (by cases h; omega), fun a e h => by cases h⟩
        | bad a e => exact ⟨fun t j h => (by cases h), fun a e h => by cases h; exact (i1 (d + 1) (i + 1) hi).2 _ _ hc⟩
        | out => exact ⟨fun t j h => (by cases h), fun a e h => by cases h⟩
end Go.Proofs.Ytjmbimgofceanaa

/- The '|' outside of groups and the depth of the groups, counted without reading: 'bars' and 'behind' as plain functions; where a set is read, 'behind' is its end. -/
namespace Go.Proofs.Ytjmbimgofceanaa

def clsHere (s : ByteArray) (i : Nat) : Bool := decide (i + 1 < s.size) && !(decide (byt s i = 58) && decide (byt s (i + 1) = 93) && decide (byt s (i - 1) ≠ 91))
def clsTo (s : ByteArray) : Nat → Nat → Nat
  | 0, i => i
  | f + 1, i => if clsHere s i then clsTo s f (i + 1) else i
def isCls (s : ByteArray) (i : Nat) : Bool := decide (byt s i = 91) && decide (i + 1 < s.size) && decide (byt s (i + 1) = 58)
def isSpan (s : ByteArray) (i : Nat) : Bool := decide (i + 2 < s.size) && decide (byt s (i + 1) = 45) && decide (byt s (i + 2) ≠ 93)
def behNext (s : ByteArray) (i : Nat) : Nat := if isCls s i then clsTo s s.size (i + 1) + 2 else if isSpan s i then i + 3 else i + 1
def behHere (s : ByteArray) (first : Bool) (i : Nat) : Bool := decide (i < s.size) && (first || decide (byt s i ≠ 93))
def beh (s : ByteArray) : Nat → Bool → Nat → Nat
  | 0, _, i => i
  | f + 1, first, i => if behHere s first i then beh s f false (behNext s i) else i
def behFrom (s : ByteArray) (i : Nat) : Nat := if sees s (i + 1) 94 then i + 2 else i + 1
def behindOf (s : ByteArray) (i : Nat) : Nat := beh s s.size true (behFrom s i)
theorem clsTo_ge (s : ByteArray) : ∀ (f i : Nat), i ≤ clsTo s f i := by
  intro f
  induction f with
  | zero => intro i; exact Nat.le_refl _
  | succ f ih =>
    intro i
    rw [clsTo]
    split
    · exact Nat.le_trans (Nat.le_succ _) (ih _)
    · exact Nat.le_refl _
theorem behNext_gt (s : ByteArray) (i : Nat) : i < behNext s i := by
  unfold behNext
  split
  · have := clsTo_ge s s.size (i + 1); omega
  · split <;> omega
theorem beh_ge (s : ByteArray) : ∀ (f : Nat) (b : Bool) (i : Nat), i ≤ beh s f b i := by
  intro f
  induction f with
  | zero => intro b i; exact Nat.le_refl _
  | succ f ih =>
    intro b i
    rw [beh]
    split
    · have h1 := behNext_gt s i
      have h2 := ih false (behNext s i)
      omega
    · exact Nat.le_refl _
theorem behFrom_gt (s : ByteArray) (i : Nat) : i < behFrom s i := by unfold behFrom; split <;> omega
theorem behFrom_le (s : ByteArray) (i : Nat) (h : i < s.size) : behFrom s i ≤ s.size := by
  unfold behFrom
  split
  · rename_i hc; have := sees_lt hc; omega
  · omega
theorem behindOf_gt (s : ByteArray) (i : Nat) : i < behindOf s i := Nat.lt_of_lt_of_le (behFrom_gt s i) (beh_ge _ _ _ _)
/-! ### more rounds than needed turn nothing -/
theorem beh_more (s : ByteArray) : ∀ (f g : Nat) (b : Bool) (i : Nat), s.size - i ≤ f → s.size - i ≤ g → beh s f b i = beh s g b i := by
  intro f
  induction f with
  | zero =>
    intro g b i hf hg
    cases g with
    | zero => rfl
    | succ g => rw [beh, beh, if_neg (by unfold behHere; simp; omega)]
  | succ f ih =>
    intro g b i hf hg
    cases g with
    | zero => rw [beh, beh, if_neg (by unfold behHere; simp; omega)]
    | succ g =>
      rw [beh, beh]
      have h1 := behNext_gt s i
      split
      · exact ih _ _ _ (by omega) (by omega)
      · rfl
theorem clsTo_to {s : ByteArray} {k : Nat} (hk : clsHere s k = false) : ∀ (f i : Nat), i ≤ k → k - i ≤ f → (∀ l, i ≤ l → l < k → clsHere s l = true) → clsTo s f i = k := by
  intro f
  induction f with
  | zero => intro i h1 h2 _; rw [clsTo]; omega
  | succ f ih =>
    intro i h1 h2 h3
    rw [clsTo]
    by_cases e : i = k
    · subst e; rw [hk]; rfl
    · rw [if_pos (h3 i (Nat.le_refl _) (by omega))]
      exact ih _ (by omega) (by omega) (fun l h4 h5 => h3 l (by omega) h5)
/-! ### where a set is read -/
theorem two_prefix (a b : UInt8) (l : List UInt8) : [a, b].isPrefixOf l = true ↔ l[0]? = some a ∧ l[1]? = some b := by
  match l with
  | [] => simp [List.isPrefixOf]
  | [x] => simp [List.isPrefixOf]
  | x :: y :: r => simp [List.isPrefixOf]; constructor <;> (rintro ⟨rfl, rfl⟩; exact ⟨rfl, rfl⟩)
theorem rest_get (s : ByteArray) (k j : Nat) (c : UInt8) : (rest s k).data.toList[j]? = some c ↔ k + j < s.size ∧ byt s (k + j) = c.toNat := by
  have h1 := rest_len s k
  have h2 := rest_byt s k j
  rw [byt_list, List.getD_eq_getElem?_getD] at h2
  by_cases h : k + j < s.size
  · have hj : j < (rest s k).data.toList.length := by omega
    rw [List.getElem?_eq_getElem hj] at h2 ⊢
    simp only [Option.getD_some] at h2
    constructor
    · intro e
      cases e
      exact ⟨h, h2.symm⟩
    · rintro ⟨_, e⟩
      rw [← h2] at e
      rw [UInt8.toNat_inj.1 e]
  · rw [List.getElem?_eq_none (by omega)]
    constructor
    · intro e; cases e
    · rintro ⟨e, _⟩; exact absurd e h
theorem occ_rest (s : ByteArray) (k j : Nat) : Go.Lib.occAt (rest s k).data.toList [58, 93] j = true ↔ k + j + 1 < s.size ∧ byt s (k + j) = 58 ∧ byt s (k + j + 1) = 93 := by
  unfold Go.Lib.occAt
  rw [two_prefix, List.getElem?_drop, List.getElem?_drop, rest_get, rest_get]
  rw [Nat.add_zero, show k + (j + 1) = k + j + 1 from rfl]
  constructor
  · rintro ⟨⟨_, h1⟩, h2, h3⟩; exact ⟨h2, h1, h3⟩
  · rintro ⟨h1, h2, h3⟩; exact ⟨⟨by omega, h2⟩, h1, h3⟩
theorem classOf_name {n : ByteArray} (h : (classOf n).2 = 0) : 0 < n.size ∧ ∀ k, byt n k ≠ 91 := by
  have hl : n.toList = n.data.toList := ByteArray.toList_eq n
  have key : ∀ l : List UInt8, n.toList = l → l ≠ [] → (∀ x ∈ l, x ≠ 91) → 0 < n.size ∧ ∀ k, byt n k ≠ 91 := fun l e hne hx => by
    rw [hl] at e
    have hz : n.data.toList.length = n.size := by simp
    refine ⟨by rw [← hz, e]; exact List.length_pos_iff.2 hne, fun k hk => ?_⟩
    rw [byt_list, e, List.getD_eq_getElem?_getD] at hk
    by_cases h1 : k < l.length
    · rw [List.getElem?_eq_getElem h1] at hk
      simp only [Option.getD_some] at hk
      exact hx _ (List.getElem_mem h1) (UInt8.toNat_inj.1 hk)
    · rw [List.getElem?_eq_none (by omega)] at hk
      cases hk
  have step : ∀ (l : List UInt8) (x y : Oct.S × Nat), (if n.toList == l then x else y).2 = 0 → n.toList = l ∨ y.2 = 0 := fun l x y h => by
    by_cases e : n.toList = l
    · exact Or.inl e
    · rw [if_neg (by simpa using e)] at h
      exact Or.inr h
  unfold classOf at h
  rcases step _ _ _ h with e | h
  · exact key _ e (by decide) (by decide)
  rcases step _ _ _ h with e | h
  · exact key _ e (by decide) (by decide)
  rcases step _ _ _ h with e | h
  · exact key _ e (by decide) (by decide)
  rcases step _ _ _ h with e | h
  · exact key _ e (by decide) (by decide)
  rcases step _ _ _ h with e | h
  · exact key _ e (by decide) (by decide)
  rcases step _ _ _ h with e | h
  · exact key _ e (by decide) (by decide)
  rcases step _ _ _ h with e | h
  · exact key _ e (by decide) (by decide)
  rcases step _ _ _ h with e | h
  · exact key _ e (by decide) (by decide)
  rcases step _ _ _ h with e | h
  · exact key _ e (by decide) (by decide)
  rcases step _ _ _ h with e | h
  · exact key _ e (by decide) (by decide)
  rcases step _ _ _ h with e | h
  · exact key _ e (by decide) (by decide)
  rcases step _ _ _ h with e | h
  · exact key _ e (by decide) (by decide)
  cases h
theorem class_next {s : ByteArray} {o i j : Nat} {x : Oct.S} (h91 : byt s i = 91) (h : class_ s o i = .ok x j) : clsTo s s.size (i + 1) + 2 = j := by
  unfold class_ at h
  split at h
  · rename_i he
    split at h
    · rename_i hz
      cases h
      obtain ⟨hn0, hn1⟩ := classOf_name hz
      obtain ⟨l, el⟩ : ∃ l, l = (rest s (i + 2)).data.toList := ⟨_, rfl⟩
      have he2 : 0 ≤ Go.Lib.index l [58, 93] := by
        unfold classEnds Go.Lib.cut at he
        rw [← el] at he
        split at he
        · assumption
        · cases he
      rcases Go.Lib.index_spec l [58, 93] with ⟨hm, _⟩ | ⟨k, hk, hkl, ho, hno⟩
      · omega
      have hname : className s i = ⟨(l.take k).toArray⟩ := by
        unfold className Go.Lib.cut
        rw [← el, if_pos he2, hk]
        rfl
      have hsz : (className s i).size = k := by
        rw [hname]
        have : (⟨(l.take k).toArray⟩ : ByteArray).size = (l.take k).length := by simp [ByteArray.size]
        rw [this, List.length_take]
        omega
      rw [el] at ho hno
      have ho' := (occ_rest s (i + 2) k).1 ho
      have hlast : byt s (i + 2 + k - 1) ≠ 91 := by
        have h1 := hn1 (k - 1)
        rw [hname, byt_list] at h1
        simp only [List.getD_eq_getElem?_getD] at h1
        rw [List.getElem?_take_of_lt (by omega), el] at h1
        have h2 := rest_byt s (i + 2) (k - 1)
        rw [byt_list, List.getD_eq_getElem?_getD] at h2
        rw [h2] at h1
        rw [show i + 2 + k - 1 = i + 2 + (k - 1) by omega]
        exact h1
      have hcl : clsTo s s.size (i + 1) = i + 2 + k := by
        refine clsTo_to ?_ _ _ (by omega) (by omega) (fun q h1 h2 => ?_)
        · unfold clsHere
          simp only [ho'.2.1, ho'.2.2, hlast, decide_true, ne_eq, not_false_eq_true, Bool.and_true, Bool.not_true, Bool.and_false]
        · unfold clsHere
          by_cases e : q = i + 1
          · subst e
            simp [h91]
            omega
          · have h3 : Go.Lib.occAt (rest s (i + 2)).data.toList [58, 93] (q - (i + 2)) = false := hno _ (by omega)
            have h4 : ¬ (byt s q = 58 ∧ byt s (q + 1) = 93) := fun h5 => by
              have := (occ_rest s (i + 2) (q - (i + 2))).2 ⟨by omega, by rw [show i + 2 + (q - (i + 2)) = q by omega]; exact h5.1, by rw [show i + 2 + (q - (i + 2)) + 1 = q + 1 by omega]; exact h5.2⟩
              rw [this] at h3
              cases h3
            simp
            refine ⟨by omega, ?_⟩
            omega
      rw [hcl, hsz]
    · cases h
  · cases h
theorem item_next {s : ByteArray} {o i j : Nat} {x : Oct.S} (h : item s o i = .ok x j) : behNext s i = j := by
  unfold item at h
  unfold behNext
  split at h
  · cases h
  · split at h
    · rename_i hc
      simp at hc
      rw [if_pos (by unfold isCls; simp; exact ⟨⟨hc.1.2, hc.1.1⟩, hc.2⟩)]
      exact class_next hc.1.2 h
    · rename_i hc
      rw [if_neg (by intro e; apply hc; unfold isCls at e; simp at e ⊢; exact ⟨⟨e.1.2, e.1.1⟩, e.2⟩)]
      split at h
      · cases h
      · split at h
        · rename_i hs
          rw [if_pos (by unfold isSpan; simpa using hs)]
          unfold span_ at h
          split at h
          · cases h
          · cases h; rfl
        · rename_i hs
          rw [if_neg (by unfold isSpan; simpa using hs)]
          cases h; rfl
theorem item_here {s : ByteArray} {o i j : Nat} {x : Oct.S} (hi : i ≤ s.size) (h : item s o i = .ok x j) : i < s.size := by
  unfold item at h
  split at h
  · cases h
  · omega
theorem setLoop_beh {s : ByteArray} {o : Nat} : ∀ {f : Nat} {a x : Oct.S} {i j : Nat}, i ≤ s.size → setLoop s o f a i = .ok x j → beh s s.size false i + 1 = j := by
  intro f
  induction f with
  | zero => intro a x i j _ h; simp [setLoop] at h
  | succ f ih =>
    intro a x i j hi h
    rw [setLoop] at h
    split at h
    · rename_i hs
      cases h
      have hs' := hs
      unfold sees at hs'
      simp at hs'
      obtain ⟨g, hg⟩ : ∃ g, s.size = g + 1 := ⟨s.size - 1, by omega⟩
      rw [hg, beh, if_neg (by unfold behHere; simp [hs'.2])]
    · rename_i hs
      split at h
      · rename_i b k hc
        have hlt := item_here hi hc
        have hle := (item_le hi hc).1
        have hn := item_next hc
        have h2 := ih hle h
        obtain ⟨g, hg⟩ : ∃ g, s.size = g + 1 := ⟨s.size - 1, by omega⟩
        have hgt := behNext_gt s i
        rw [hg, beh, if_pos (by unfold behHere; unfold sees at hs; simp at hs ⊢; exact ⟨hlt, hs hlt⟩), hn, beh_more s g s.size false k (by omega) (by omega)]
        exact h2
      · cases h
      · cases h
theorem setOf_beh {s : ByteArray} {f i j : Nat} {x : Oct.S} (hi : i < s.size) (h : setOf s f i = .ok x j) : behindOf s i + 1 = j := by
  unfold setOf at h
  have hb : (if sees s (i + 1) 94 = true then i + 2 else i + 1) = behFrom s i := rfl
  rw [hb] at h
  have hf := behFrom_le s i hi
  split at h
  · rename_i a k hc
    split at h
    · rename_i b q hl
      cases h
      have hlt := item_here hf hc
      have hle := (item_le hf hc).1
      have hn := item_next hc
      have h2 := setLoop_beh hle hl
      have hgt := behNext_gt s (behFrom s i)
      obtain ⟨g, hg⟩ : ∃ g, s.size = g + 1 := ⟨s.size - 1, by omega⟩
      unfold behindOf
      rw [hg, beh, if_pos (by unfold behHere; simp; exact hlt), hn, beh_more s g s.size false k (by omega) (by omega)]
      exact h2
    · cases h
    · cases h
  · cases h
  · cases h
/-! ### the count -/
structure Cn where
  i : Nat
  d : Int
  m : Int
  n : Int
def stp (s : ByteArray) (x : Cn) : Cn :=
  if byt s x.i = 92 then ⟨x.i + 2, x.d, x.m, x.n⟩
  else if byt s x.i = 91 then ⟨behindOf s x.i + 1, x.d, x.m, x.n⟩
  else if byt s x.i = 40 then ⟨x.i + 1, x.d + 1, max x.m (x.d + 1), x.n⟩
  else if byt s x.i = 41 then ⟨x.i + 1, x.d - 1, x.m, x.n⟩
  else if byt s x.i = 124 then ⟨x.i + 1, x.d, x.m, if x.d = 0 then x.n + 1 else x.n⟩
  else ⟨x.i + 1, x.d, x.m, x.n⟩
theorem stp_gt (s : ByteArray) (x : Cn) : x.i < (stp s x).i := by
  have := behindOf_gt s x.i
  unfold stp
  repeat' split
  all_goals simp only
  all_goals omega
def skim (s : ByteArray) : Nat → Cn → Cn
  | 0, x => x
  | f + 1, x => if x.i < s.size then skim s f (stp s x) else x
inductive Skims (s : ByteArray) : Cn → Cn → Prop
  | refl (x : Cn) : Skims s x x
  | step (x y : Cn) (h : x.i < s.size) (r : Skims s (stp s x) y) : Skims s x y
theorem Skims.trans {s : ByteArray} {x y z : Cn} (h : Skims s x y) : Skims s y z → Skims s x z := by
  induction h with
  | refl => exact id
  | step x y h r ih => exact fun hz => .step x z h (ih hz)
theorem Skims.ends {s : ByteArray} {x y : Cn} (h : Skims s x y) : s.size ≤ y.i → ∀ f, s.size - x.i ≤ f → skim s f x = y := by
  induction h with
  | refl x =>
    intro hy f _
    cases f with
    | zero => rfl
    | succ f => rw [skim, if_neg (by omega)]
  | step x y h r ih =>
    intro hy f hf
    obtain ⟨g, rfl⟩ : ∃ g, f = g + 1 := ⟨f - 1, by omega⟩
    rw [skim, if_pos h]
    have h1 := stp_gt s x
    exact ih hy g (by omega)
/-- from a place to another: so much deeper, so many '|' at this depth -/
def Sk (s : ByteArray) (i j h b : Nat) : Prop := ∀ (d m n : Int), 0 ≤ d → d ≤ m → Skims s ⟨i, d, m, n⟩ ⟨j, d, max m (d + h), if d = 0 then n + b else n⟩
theorem Sk.refl (s : ByteArray) (i : Nat) : Sk s i i 0 0 := fun d m n h0 hm => by
  have e : (⟨i, d, max m (d + (0 : Nat)), if d = 0 then n + (0 : Nat) else n⟩ : Cn) = ⟨i, d, m, n⟩ := by
    congr 1
    · omega
    · split <;> omega
  rw [e]
  exact .refl _
theorem Sk.seq {s : ByteArray} {i j k h h' b b' : Nat} (h1 : Sk s i j h b) (h2 : Sk s j k h' b') : Sk s i k (max h h') (b + b') := fun d m n h0 hm => by
  have e : (⟨k, d, max m (d + (max h h' : Nat)), if d = 0 then n + (b + b' : Nat) else n⟩ : Cn) = ⟨k, d, max (max m (d + h)) (d + h'), if d = 0 then (if d = 0 then n + b else n) + b' else (if d = 0 then n + b else n)⟩ := by
    congr 1
    · omega
    · by_cases e : d = 0 <;> simp [e] <;> omega
  rw [e]
  exact (h1 d m n h0 hm).trans (h2 d _ _ h0 (by omega))
theorem Sk.one {s : ByteArray} {i : Nat} (hi : i < s.size) (h1 : byt s i ≠ 92) (h2 : byt s i ≠ 91) (h3 : byt s i ≠ 40) (h4 : byt s i ≠ 41) (h5 : byt s i ≠ 124) : Sk s i (i + 1) 0 0 := fun d m n h0 hm => by
  refine .step _ _ hi ?_
  unfold stp
  simp only [h1, h2, h3, h4, h5, if_false]
  exact Sk.refl s (i + 1) d m n h0 hm
theorem Sk.bar {s : ByteArray} {i : Nat} (hi : i < s.size) (h : byt s i = 124) : Sk s i (i + 1) 0 1 := fun d m n h0 hm => by
  refine .step _ _ hi ?_
  unfold stp
  simp [h]
  have e : (⟨i + 1, d, max m d, if d = 0 then n + 1 else n⟩ : Cn) = ⟨i + 1, d, m, if d = 0 then n + 1 else n⟩ := by
    congr 1
    omega
  rw [e]
  exact .refl _
theorem Sk.esc {s : ByteArray} {i : Nat} (hi : i < s.size) (h : byt s i = 92) : Sk s i (i + 2) 0 0 := fun d m n h0 hm => by
  refine .step _ _ hi ?_
  unfold stp
  simp only [h, if_true]
  exact Sk.refl s (i + 2) d m n h0 hm
theorem Sk.set {s : ByteArray} {i j f : Nat} {x : Oct.S} (hi : i < s.size) (h : byt s i = 91) (hs : setOf s f i = .ok x j) : Sk s i j 0 0 := fun d m n h0 hm => by
  refine .step _ _ hi ?_
  unfold stp
  have e := setOf_beh hi hs
  simp only [h, if_true, show ¬ ((91 : Nat) = 92) by omega, if_false, e]
  exact Sk.refl s j d m n h0 hm
theorem Sk.group {s : ByteArray} {i j h b : Nat} (hi : i < s.size) (h40 : byt s i = 40) (hs : Sk s (i + 1) j h b) (hj : j < s.size) (h41 : byt s j = 41) : Sk s i (j + 1) (h + 1) 0 := fun d m n h0 hm => by
  refine .step _ _ hi ?_
  have e1 : stp s ⟨i, d, m, n⟩ = ⟨i + 1, d + 1, max m (d + 1), n⟩ := by
    unfold stp
    simp [h40]
  rw [e1]
  refine (hs (d + 1) (max m (d + 1)) n (by omega) (by omega)).trans ?_
  refine .step _ _ hj ?_
  unfold stp
  simp only [h41, if_true, show ¬ ((41 : Nat) = 92) by omega, show ¬ ((41 : Nat) = 91) by omega, show ¬ ((41 : Nat) = 40) by omega, if_false]
  have e2 : (⟨j + 1, d + 1 - 1, max (max m (d + 1)) (d + 1 + h), if d + 1 = 0 then n + b else n⟩ : Cn) = ⟨j + 1, d, max m (d + (h + 1 : Nat)), if d = 0 then n + (0 : Nat) else n⟩ := by
    rw [if_neg (by omega)]
    congr 1
    · omega
    · omega
    · split <;> omega
  rw [e2]
  exact .refl _
theorem Sk.plain {s : ByteArray} : ∀ {k i : Nat}, i + k ≤ s.size → (∀ l, i ≤ l → l < i + k → byt s l ≠ 92 ∧ byt s l ≠ 91 ∧ byt s l ≠ 40 ∧ byt s l ≠ 41 ∧ byt s l ≠ 124) → Sk s i (i + k) 0 0 := by
  intro k
  induction k with
  | zero => intro i _ _; exact Sk.refl s i
  | succ k ih =>
    intro i hi hp
    obtain ⟨p1, p2, p3, p4, p5⟩ := hp i (by omega) (by omega)
    have h1 := Sk.one (by omega) p1 p2 p3 p4 p5
    have h2 := ih (i := i + 1) (by omega) (fun l h1 h2 => hp l (by omega) (by omega))
    have h3 := h1.seq h2
    rw [show i + 1 + k = i + (k + 1) by omega] at h3
    exact h3
end Go.Proofs.Ytjmbimgofceanaa

