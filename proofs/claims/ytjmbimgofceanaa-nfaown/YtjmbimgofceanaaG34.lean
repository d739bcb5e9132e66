/- A pattern that is read, read where a ')' or a '|' stands behind it, and at another depth: the same tree, or the group that is too deep. -/
import Derived.Test.YtjmbimgofceanaaG33
import Derived.Test.YtjmbimgofceanaaG32
namespace Go.Proofs.Ytjmbimgofceanaa

/-- s' goes on where s ends with nothing, a ')' or a '|' -/
structure Stops (s s' : ByteArray) : Prop where
  a : Agree s s' s.size
  e : s'.size = s.size ∨ byt s' s.size = 41 ∨ byt s' s.size = 124
variable {s s' : ByteArray}
theorem Stops.le (h : Stops s s') : s.size ≤ s'.size := h.a.le'
theorem Stops.sees (h : Stops s s') {i b : Nat} (hi : i ≤ s.size) (h1 : b ≠ 41) (h2 : b ≠ 124) : Ytjmbimgofceanaa.sees s' i b = Ytjmbimgofceanaa.sees s i b := by
  by_cases e : i = s.size
  · subst e
    have h3 : Ytjmbimgofceanaa.sees s s.size b = false := by simp [Ytjmbimgofceanaa.sees]
    rw [h3]
    unfold Ytjmbimgofceanaa.sees
    simp
    intro h4
    rcases h.e with h5 | h5 | h5 <;> omega
  · exact h.a.sees (by omega) b
theorem Stops.digit (h : Stops s s') {i : Nat} (hi : i ≤ s.size) : isDigit s' i = isDigit s i := by
  by_cases e : i = s.size
  · subst e
    have h3 : isDigit s s.size = false := by simp [isDigit]
    rw [h3]
    unfold isDigit
    simp
    intro h4
    rcases h.e with h5 | h5 | h5 <;> omega
  · exact h.a.digit (by omega)
theorem Stops.digits (h : Stops s s') : ∀ (f i n : Nat), i ≤ s.size → Ytjmbimgofceanaa.digits s' f i n = Ytjmbimgofceanaa.digits s f i n ∧ (Ytjmbimgofceanaa.digits s f i n).2 ≤ s.size ∧ i ≤ (Ytjmbimgofceanaa.digits s f i n).2 ∧ ∀ l, i ≤ l → l < (Ytjmbimgofceanaa.digits s f i n).2 → 48 ≤ byt s l ∧ byt s l ≤ 57 := by
  intro f
  induction f with
  | zero => intro i n hi; exact ⟨rfl, hi, Nat.le_refl _, fun l h1 h2 => absurd h2 (by simp [Ytjmbimgofceanaa.digits]; exact h1)⟩
  | succ f ih =>
    intro i n hi
    rw [Ytjmbimgofceanaa.digits, Ytjmbimgofceanaa.digits, h.digit hi]
    by_cases hd : isDigit s i = true
    · have hd' := hd
      unfold isDigit at hd'
      simp at hd'
      have hb : byt s' i = byt s i := (h.a.same i (by omega)).symm
      obtain ⟨i1, i2, i3, i4⟩ := ih (i + 1) (n * 10 + (byt s i - 48)) (by omega)
      rw [if_pos hd, if_pos hd, hb]
      refine ⟨i1, i2, by omega, fun l h1 h2 => ?_⟩
      by_cases e : l = i
      · subst e; omega
      · exact i4 l (by omega) h2
    · rw [if_neg hd, if_neg hd]
      exact ⟨rfl, hi, Nat.le_refl _, fun l h1 h2 => absurd h2 (by simp; exact h1)⟩
/-- no byte that counts -/
def Pl (s : ByteArray) (i j : Nat) : Prop := ∀ l, i ≤ l → l < j → byt s l ≠ 92 ∧ byt s l ≠ 91 ∧ byt s l ≠ 40 ∧ byt s l ≠ 41 ∧ byt s l ≠ 124
theorem Pl.seq {i j k : Nat} (h1 : Pl s i j) (h2 : Pl s j k) : Pl s i k := fun l a b => by
  by_cases e : l < j
  · exact h1 l a e
  · exact h2 l (by omega) b
theorem Pl.one {i b : Nat} (h : Ytjmbimgofceanaa.sees s i b = true) (hb : b ≠ 92 ∧ b ≠ 91 ∧ b ≠ 40 ∧ b ≠ 41 ∧ b ≠ 124) : Pl s i (i + 1) := fun l h1 h2 => by
  have e : l = i := by omega
  subst e
  unfold Ytjmbimgofceanaa.sees at h
  simp at h
  rw [h.2]
  exact hb
theorem Pl.sk {i j : Nat} (h : Pl s i j) (hij : i ≤ j) (hj : j ≤ s.size) : Sk s i j 0 0 := by
  obtain ⟨k, rfl⟩ : ∃ k, j = i + k := ⟨j - i, by omega⟩
  exact Sk.plain hj h
theorem Stops.count (h : Stops s s') (o : Nat) {i : Nat} (hi : i ≤ s.size) : Ytjmbimgofceanaa.count s' o i = Ytjmbimgofceanaa.count s o i ∧ ∀ n j, Ytjmbimgofceanaa.count s o i = .ok n j → j ≤ s.size ∧ i ≤ j ∧ Pl s i j := by
  obtain ⟨h1, h2, h3, h4⟩ := h.digits 3 i 0 hi
  unfold Ytjmbimgofceanaa.count
  rw [h1]
  refine ⟨rfl, fun n j hc => ?_⟩
  split at hc
  · cases hc
  · cases hc
    refine ⟨h2, h3, fun l a b => ?_⟩
    have := h4 l a b
    omega
theorem Stops.countsEnd (h : Stops s s') (o : Nat) (l m : Int) {j : Nat} (hj : j ≤ s.size) : Ytjmbimgofceanaa.countsEnd s' o l m j = Ytjmbimgofceanaa.countsEnd s o l m j ∧ ∀ x k, Ytjmbimgofceanaa.countsEnd s o l m j = .ok x k → k = j ∧ Ytjmbimgofceanaa.sees s j 125 = true := by
  unfold Ytjmbimgofceanaa.countsEnd
  rw [h.sees hj (by omega) (by omega)]
  refine ⟨rfl, fun x k hc => ?_⟩
  split at hc
  · rename_i hh
    simp at hh
    cases hc
    exact ⟨rfl, hh.1⟩
  · cases hc
theorem Stops.counts (h : Stops s s') {i : Nat} (hs : Ytjmbimgofceanaa.sees s i 123 = true) : Ytjmbimgofceanaa.counts s' i = Ytjmbimgofceanaa.counts s i ∧ ∀ x j, Ytjmbimgofceanaa.counts s i = .ok x j → j + 1 ≤ s.size ∧ i ≤ j ∧ Pl s i (j + 1) := by
  have hi := sees_lt hs
  obtain ⟨c1, c2⟩ := h.count i (i := i + 1) (by omega)
  have p0 := Pl.one hs (by omega)
  have pend : ∀ {o k : Nat} {l m : Int} {x : Int × Int} {j : Nat}, k ≤ s.size → i ≤ k → Pl s i k → Ytjmbimgofceanaa.countsEnd s o l m k = .ok x j → j + 1 ≤ s.size ∧ i ≤ j ∧ Pl s i (j + 1) := fun {o k l m x j} hk hik hp hc => by
    obtain ⟨rfl, h2⟩ := (h.countsEnd o l m hk).2 x j hc
    exact ⟨sees_lt h2, hik, hp.seq (Pl.one h2 (by omega))⟩
  unfold Ytjmbimgofceanaa.counts
  rw [c1]
  cases hc1 : Ytjmbimgofceanaa.count s i (i + 1) with
  | bad a e => exact ⟨rfl, fun x j hc => by cases hc⟩
  | out => exact ⟨rfl, fun x j hc => by cases hc⟩
  | ok l j =>
    obtain ⟨j1, j2, j3⟩ := c2 l j hc1
    have p1 := p0.seq j3
    simp only
    rw [h.sees j1 (by omega) (by omega)]
    by_cases h44 : Ytjmbimgofceanaa.sees s j 44 = true
    · have hj := sees_lt h44
      have p2 := p1.seq (Pl.one h44 (by omega))
      rw [if_pos h44, if_pos h44, h.sees (i := j + 1) (by omega) (by omega) (by omega)]
      split
      · exact ⟨(h.countsEnd _ _ _ (by omega)).1, fun x k hc => pend (by omega) (by omega) p2 hc⟩
      · obtain ⟨d1, d2⟩ := h.count i (i := j + 1) (by omega)
        rw [d1]
        cases hc2 : Ytjmbimgofceanaa.count s i (j + 1) with
        | bad a e => exact ⟨rfl, fun x j hc => by cases hc⟩
        | out => exact ⟨rfl, fun x j hc => by cases hc⟩
        | ok m k =>
          obtain ⟨k1, k2, k3⟩ := d2 m k hc2
          exact ⟨(h.countsEnd _ _ _ k1).1, fun x q hc => pend k1 (by omega) (p2.seq k3) hc⟩
    · rw [if_neg h44, if_neg h44]
      exact ⟨(h.countsEnd _ _ _ j1).1, fun x k hc => pend j1 (by omega) p1 hc⟩
theorem Stops.repeated (h : Stops s s') (t : Tr) {i : Nat} (hi : i ≤ s.size) : Ytjmbimgofceanaa.repeated s' t i = Ytjmbimgofceanaa.repeated s t i ∧ ∀ u j, Ytjmbimgofceanaa.repeated s t i = .ok u j → Sk s i j 0 0 := by
  unfold Ytjmbimgofceanaa.repeated
  rw [h.sees hi (by omega) (by omega), h.sees hi (by omega) (by omega), h.sees hi (by omega) (by omega), h.sees hi (by omega) (by omega)]
  split
  · rename_i hs
    exact ⟨rfl, fun u j hc => by cases hc; exact (Pl.one hs (by omega)).sk (by omega) (sees_lt hs)⟩
  · split
    · rename_i hs
      exact ⟨rfl, fun u j hc => by cases hc; exact (Pl.one hs (by omega)).sk (by omega) (sees_lt hs)⟩
    · split
      · rename_i hs
        exact ⟨rfl, fun u j hc => by cases hc; exact (Pl.one hs (by omega)).sk (by omega) (sees_lt hs)⟩
      · split
        · rename_i hs
          obtain ⟨c1, c2⟩ := h.counts hs
          rw [c1]
          refine ⟨rfl, fun u j hc => ?_⟩
          split at hc
          · rename_i l m k hk
            cases hc
            obtain ⟨k1, k2, k3⟩ := c2 _ _ hk
            exact k3.sk (by omega) k1
          · cases hc
          · cases hc
        · exact ⟨rfl, fun u j hc => by cases hc; exact Sk.refl s i⟩
/-! ### where a reading stops -/
theorem read_stop (s : ByteArray) (n : Nat) : (∀ d i t j, pat s n d i = .ok t j → j < s.size → byt s j = 41) ∧ (∀ d acc i t j, patLoop s n d acc i = .ok t j → (i < s.size → byt s i = 41 ∨ byt s i = 124) → j < s.size → byt s j = 41) ∧ (∀ d i t j, alt s n d i = .ok t j → j < s.size → byt s j = 41 ∨ byt s j = 124) ∧ (∀ d acc i t j, altLoop s n d acc i = .ok t j → j < s.size → byt s j = 41 ∨ byt s j = 124) := by
  induction n with
  | zero => refine ⟨?_, ?_, ?_, ?_⟩ <;> intros <;> simp_all [pat, patLoop, alt, altLoop]
  | succ n ih =>
    obtain ⟨i1, i2, i3, i4⟩ := ih
    refine ⟨fun d i t j h hj => ?_, fun d acc i t j h hi hj => ?_, fun d i t j h hj => ?_, fun d acc i t j h hj => ?_⟩
    · rw [pat] at h
      split at h
      · rename_i u k hc
        exact i2 _ _ _ _ _ h (fun hk => i3 _ _ _ _ hc hk) hj
      · cases h
      · cases h
    · rw [patLoop] at h
      split at h
      · split at h
        · rename_i u k hc
          exact i2 _ _ _ _ _ h (fun hk => i3 _ _ _ _ hc hk) hj
        · cases h
        · cases h
      · rename_i hs
        cases h
        unfold sees at hs
        simp [hj] at hs
        rcases hi hj with e | e
        · exact e
        · exact absurd e hs
    · rw [alt] at h
      exact i4 _ _ _ _ _ h hj
    · rw [altLoop] at h
      split at h
      · split at h
        · exact i4 _ _ _ _ _ h hj
        · cases h
        · cases h
      · rename_i hs
        cases h
        unfold sees at hs
        simp [hj] at hs
        by_cases e : byt s i = 124
        · exact Or.inr e
        · exact Or.inl (hs e)
/-- read at any depth: the tree, or the group that is too deep -/
def Deep (R : Nat → Rs Tr) (t : Tr) (j h : Nat) : Prop := (∀ d, d + h ≤ 64 → R d = .ok t j) ∧ (∀ d, d ≤ 64 → 64 < d + h → ∃ a, R d = .bad a 47)
theorem Stops.goes (h : Stops s s') {i : Nat} (hi : i ≤ s.size) : (decide (i < s'.size) && !(Ytjmbimgofceanaa.sees s' i 124) && !(Ytjmbimgofceanaa.sees s' i 41)) = (decide (i < s.size) && !(Ytjmbimgofceanaa.sees s i 124) && !(Ytjmbimgofceanaa.sees s i 41)) := by
  by_cases e : i = s.size
  · subst e
    rw [Bool.eq_iff_iff]
    unfold Ytjmbimgofceanaa.sees
    simp
    intro h1 h2
    rcases h.e with h5 | h5 | h5
    · omega
    · exact ⟨h1, h5⟩
    · omega
  · have hl := h.le
    rw [h.a.sees (by omega), h.a.sees (by omega)]
    congr 2
    rw [Bool.eq_iff_iff]
    simp
    omega
theorem read_rise (h : Stops s s') (n : Nat) :
    (∀ d i t j, pat s n d i = .ok t j → i ≤ s.size → ∃ q b, Sk s i j q b ∧ (b = 0 → alt s (n - 1) d i = .ok t j) ∧ ((j < s.size ∨ sees s' s.size 124 = false) → Deep (fun d' => pat s' n d' i) t j q)) ∧
    (∀ d acc i t j, patLoop s n d acc i = .ok t j → i ≤ s.size → ∃ q b, Sk s i j q b ∧ (b = 0 → t = together 4 acc ∧ j = i) ∧ ((j < s.size ∨ sees s' s.size 124 = false) → Deep (fun d' => patLoop s' n d' acc i) t j q)) ∧
    (∀ d i t j, alt s n d i = .ok t j → i ≤ s.size → ∃ q, Sk s i j q 0 ∧ Deep (fun d' => alt s' n d' i) t j q) ∧
    (∀ d acc i t j, altLoop s n d acc i = .ok t j → i ≤ s.size → ∃ q, Sk s i j q 0 ∧ Deep (fun d' => altLoop s' n d' acc i) t j q) ∧
    (∀ d i t j, piece s n d i = .ok t j → i < s.size → byt s i ≠ 41 → byt s i ≠ 124 → ∃ q, Sk s i j q 0 ∧ Deep (fun d' => piece s' n d' i) t j q) ∧
    (∀ d i t j, atom s n d i = .ok t j → i < s.size → byt s i ≠ 41 → byt s i ≠ 124 → ∃ q, Sk s i j q 0 ∧ Deep (fun d' => atom s' n d' i) t j q) ∧
    (∀ d i t j, group s n d i = .ok t j → i < s.size → byt s i = 40 → ∃ q, Sk s i j q 0 ∧ Deep (fun d' => group s' n d' i) t j q) := by
  have hl := h.le
  induction n with
  | zero => refine ⟨?_, ?_, ?_, ?_, ?_, ?_, ?_⟩ <;> intros <;> rename_i hh _ <;> simp_all [pat, patLoop, alt, altLoop, piece, atom, group]
  | succ n ih =>
    obtain ⟨i1, i2, i3, i4, i5, i6, i7⟩ := ih
    obtain ⟨r1, r2, r3, r4, r5, r6, r7⟩ := read_at s n
    refine ⟨fun d i t j hc hi => ?_, fun d acc i t j hc hi => ?_, fun d i t j hc hi => ?_, fun d acc i t j hc hi => ?_, fun d i t j hc hi n1 n2 => ?_, fun d i t j hc hi n1 n2 => ?_, fun d i t j hc hi n40 => ?_⟩
    · rw [pat] at hc
      split at hc
      · rename_i u k hu
        have hk : k ≤ s.size := (r3 d i hi).1 _ _ hu
        obtain ⟨q1, s1, a1, b1⟩ := i3 _ _ _ _ hu hi
        obtain ⟨q2, b, s2, e2, d2⟩ := i2 _ _ _ _ _ hc hk
        refine ⟨max q1 q2, 0 + b, s1.seq s2, fun hb => ?_, fun hj => ⟨fun d' hd => ?_, fun d' hd hq => ?_⟩⟩
        · obtain ⟨rfl, rfl⟩ := e2 (by omega)
          exact hu
        · obtain ⟨a2, b2⟩ := d2 hj
          have e1 := a1 d' (by omega)
          have e2 := a2 d' (by omega)
          simp only at e1 e2 ⊢
          rw [pat, e1]
          exact e2
        · obtain ⟨a2, b2⟩ := d2 hj
          simp only
          rw [pat]
          by_cases hq1 : d' + q1 ≤ 64
          · have e1 := a1 d' hq1
            simp only at e1
            rw [e1]
            exact b2 d' hd (by omega)
          · obtain ⟨a, e1⟩ := b1 d' hd (by omega)
            simp only at e1
            rw [e1]
            exact ⟨a, rfl⟩
      · cases hc
      · cases hc
    · rw [patLoop] at hc
      split at hc
      · rename_i hb
        have hlt := sees_lt hb
        split at hc
        · rename_i u k hu
          have hk : k ≤ s.size := (r3 d (i + 1) (by omega)).1 _ _ hu
          obtain ⟨q1, s1, a1, b1⟩ := i3 _ _ _ _ hu (by omega)
          obtain ⟨q2, b, s2, e2, d2⟩ := i2 _ _ _ _ _ hc hk
          have hb' := hb
          unfold sees at hb'
          simp at hb'
          have hs' : sees s' i 124 = true := by rw [h.a.sees (by omega)]; exact hb
          refine ⟨max 0 (max q1 q2), 1 + (0 + b), (Sk.bar hlt hb'.2).seq (s1.seq s2), fun hb => absurd hb (by omega), fun hj => ⟨fun d' hd => ?_, fun d' hd hq => ?_⟩⟩
          · obtain ⟨a2, b2⟩ := d2 hj
            have e1 := a1 d' (by omega)
            have e2 := a2 d' (by omega)
            simp only at e1 e2 ⊢
            rw [patLoop, if_pos hs', e1]
            exact e2
          · obtain ⟨a2, b2⟩ := d2 hj
            simp only
            rw [patLoop, if_pos hs']
            by_cases hq1 : d' + q1 ≤ 64
            · have e1 := a1 d' hq1
              simp only at e1
              rw [e1]
              exact b2 d' hd (by omega)
            · obtain ⟨a, e1⟩ := b1 d' hd (by omega)
              simp only at e1
              rw [e1]
              exact ⟨a, rfl⟩
        · cases hc
        · cases hc
      · rename_i hb
        cases hc
        refine ⟨0, 0, Sk.refl s i, fun _ => ⟨rfl, rfl⟩, fun hj => ⟨fun d' hd => ?_, fun d' hd hq => absurd hq (by omega)⟩⟩
        simp only
        have hs' : ¬ sees s' i 124 = true := by
          by_cases e : i = s.size
          · rcases hj with hj | hj
            · omega
            · rw [e, hj]; simp
          · rw [h.a.sees (by omega)]; exact hb
        rw [patLoop, if_neg hs']
    · rw [alt] at hc
      obtain ⟨q, s1, a1, b1⟩ := i4 _ _ _ _ _ hc hi
      refine ⟨q, s1, fun d' hd => ?_, fun d' hd hq => ?_⟩
      · simp only; rw [alt]; exact a1 d' hd
      · simp only; rw [alt]; exact b1 d' hd hq
    · rw [altLoop] at hc
      split at hc
      · rename_i hg
        have hg' := hg
        unfold sees at hg'
        simp at hg'
        obtain ⟨⟨hlt, g1⟩, g2⟩ := hg'
        split at hc
        · rename_i u k hu
          have hk : k ≤ s.size := (r5 d i hlt).1 _ _ hu
          obtain ⟨q1, s1, a1, b1⟩ := i5 _ _ _ _ hu hlt (by omega) (by omega)
          obtain ⟨q2, s2, a2, b2⟩ := i4 _ _ _ _ _ hc hk
          refine ⟨max q1 q2, s1.seq s2, fun d' hd => ?_, fun d' hd hq => ?_⟩
          · have e1 := a1 d' (by omega)
            have e2 := a2 d' (by omega)
            simp only at e1 e2 ⊢
            rw [altLoop, h.goes hi, if_pos hg, e1]
            exact e2
          · simp only
            rw [altLoop, h.goes hi, if_pos hg]
            by_cases hq1 : d' + q1 ≤ 64
            · have e1 := a1 d' hq1
              simp only at e1
              rw [e1]
              exact b2 d' hd (by omega)
            · obtain ⟨a, e1⟩ := b1 d' hd (by omega)
              simp only at e1
              rw [e1]
              exact ⟨a, rfl⟩
        · cases hc
        · cases hc
      · rename_i hg
        cases hc
        refine ⟨0, Sk.refl s i, fun d' hd => ?_, fun d' hd hq => absurd hq (by omega)⟩
        simp only
        rw [altLoop, h.goes hi, if_neg hg]
    · have hb : byt s' i = byt s i := (h.a.same i hi).symm
      rw [piece] at hc
      split at hc
      · rename_i e
        cases hc
        refine ⟨0, Sk.one hi (by omega) (by omega) (by omega) (by omega) (by omega), fun d' hd => ?_, fun d' hd hq => absurd hq (by omega)⟩
        simp only
        rw [piece, hb, if_pos e]
      · rename_i e1
        split at hc
        · rename_i e
          cases hc
          refine ⟨0, Sk.one hi (by omega) (by omega) (by omega) (by omega) (by omega), fun d' hd => ?_, fun d' hd hq => absurd hq (by omega)⟩
          simp only
          rw [piece, hb, if_neg e1, if_pos e]
        · rename_i e2
          split at hc
          · rename_i u k hu
            have hk : k ≤ s.size := (r6 d i hi).1 _ _ hu
            obtain ⟨q, s1, a1, b1⟩ := i6 _ _ _ _ hu hi n1 n2
            obtain ⟨x1, x2⟩ := h.repeated u hk
            refine ⟨max q 0, s1.seq (x2 _ _ hc), fun d' hd => ?_, fun d' hd hq => ?_⟩
            · have e3 := a1 d' (by omega)
              simp only at e3 ⊢
              rw [piece, hb, if_neg e1, if_neg e2, e3]
              exact x1.trans hc
            · obtain ⟨a, e3⟩ := b1 d' hd (by omega)
              simp only at e3 ⊢
              rw [piece, hb, if_neg e1, if_neg e2, e3]
              exact ⟨a, rfl⟩
          · cases hc
          · cases hc
    · have hb : byt s' i = byt s i := (h.a.same i hi).symm
      rw [atom] at hc
      split at hc
      · cases hc
      · rename_i m0
        split at hc
        · rename_i m1
          obtain ⟨q, s1, a1, b1⟩ := i7 _ _ _ _ hc hi m1
          refine ⟨q, s1, fun d' hd => ?_, fun d' hd hq => ?_⟩
          · simp only; rw [atom, hb, if_neg m0, if_pos m1]; exact a1 d' hd
          · simp only; rw [atom, hb, if_neg m0, if_pos m1]; exact b1 d' hd hq
        · rename_i m1
          split at hc
          · rename_i m2
            split at hc
            · rename_i a k ha
              cases hc
              have hk := (setOf_at hi).1 _ _ ha
              have ha' := h.a.setOf hi ha hk
              refine ⟨0, Sk.set hi m2 ha, fun d' hd => ?_, fun d' hd hq => absurd hq (by omega)⟩
              simp only
              rw [atom, hb, if_neg m0, if_neg m1, if_pos m2, ha']
            · cases hc
            · cases hc
          · rename_i m2
            split at hc
            · rename_i m3
              cases hc
              refine ⟨0, Sk.one hi (by omega) (by omega) (by omega) (by omega) (by omega), fun d' hd => ?_, fun d' hd hq => absurd hq (by omega)⟩
              simp only
              rw [atom, hb, if_neg m0, if_neg m1, if_neg m2, if_pos m3]
            · rename_i m3
              split at hc
              · rename_i m4
                split at hc
                · cases hc
                · rename_i m5
                  cases hc
                  simp at m5
                  have hlt : i + 1 < s.size := by omega
                  have hb1 : byt s' (i + 1) = byt s (i + 1) := (h.a.same (i + 1) hlt).symm
                  refine ⟨0, Sk.esc hi m4, fun d' hd => ?_, fun d' hd hq => absurd hq (by omega)⟩
                  simp only
                  rw [atom, hb, hb1, if_neg m0, if_neg m1, if_neg m2, if_neg m3, if_pos m4, if_neg (by simp; exact ⟨by omega, m5.2⟩)]
              · rename_i m4
                cases hc
                refine ⟨0, Sk.one hi (by omega) (by omega) (by omega) (by omega) (by omega), fun d' hd => ?_, fun d' hd hq => absurd hq (by omega)⟩
                simp only
                rw [atom, hb, if_neg m0, if_neg m1, if_neg m2, if_neg m3, if_neg m4]
    · rw [group] at hc
      split at hc
      · cases hc
      · split at hc
        · rename_i u k hu
          split at hc
          · cases hc
          · rename_i hne
            cases hc
            have hk : k ≤ s.size := (r1 (d + 1) (i + 1) hi).1 _ _ hu
            have h41 : byt s k = 41 := (read_stop s n).1 _ _ _ _ hu (by omega)
            obtain ⟨q, b, s1, _, dd⟩ := i1 _ _ _ _ hu hi
            obtain ⟨a1, b1⟩ := dd (Or.inl (by omega))
            refine ⟨q + 1, Sk.group hi n40 s1 (by omega) h41, fun d' hd => ?_, fun d' hd hq => ?_⟩
            · have e1 := a1 (d' + 1) (by omega)
              simp only at e1 ⊢
              rw [group, if_neg (by omega), e1]
              simp only
              rw [if_neg (by omega)]
            · simp only
              rw [group]
              by_cases hd64 : d' = 64
              · rw [if_pos hd64]; exact ⟨i, rfl⟩
              · obtain ⟨a, e1⟩ := b1 (d' + 1) (by omega) (by omega)
                simp only at e1
                rw [if_neg hd64, e1]
                exact ⟨a, rfl⟩
        · cases hc
        · cases hc
end Go.Proofs.Ytjmbimgofceanaa

/- Two patterns that agree ahead of a place: the grammar; a fault that is met from the left. -/
namespace Go.Proofs.Ytjmbimgofceanaa

/-- the faults that are met from the left -/
def Met (e : Nat) : Prop := e = 44 ∨ e = 46 ∨ e = 47
def mr (e : Nat) : Nat := if e = 46 then 2 else 1
theorem mr_pos (e : Nat) : 1 ≤ mr e := by unfold mr; split <;> omega
theorem count_bad {s : ByteArray} {o i a e : Nat} (h : count s o i = .bad a e) : e = 45 := by
  unfold count at h
  split at h
  · cases h; rfl
  · cases h
theorem countsEnd_bad {s : ByteArray} {o j a e : Nat} {l x : Int} (h : countsEnd s o l x j = .bad a e) : e = 45 := by
  unfold countsEnd at h
  split at h
  · cases h
  · cases h; rfl
theorem counts_bad {s : ByteArray} {i a e : Nat} (h : counts s i = .bad a e) : e = 45 := by
  unfold counts at h
  split at h
  · split at h
    · split at h
      · exact countsEnd_bad h
      · split at h
        · exact countsEnd_bad h
        · rename_i h2; cases h; exact count_bad h2
        · cases h
    · exact countsEnd_bad h
  · rename_i h2; cases h; exact count_bad h2
  · cases h
theorem repeated_bad {s : ByteArray} {t : Tr} {i a e : Nat} (h : repeated s t i = .bad a e) : e = 45 := by
  unfold repeated at h
  split at h
  · cases h
  · split at h
    · cases h
    · split at h
      · cases h
      · split at h
        · split at h
          · cases h
          · rename_i h2; cases h; exact counts_bad h2
          · cases h
        · cases h
theorem classOf_code (n : ByteArray) : (classOf n).2 = 0 ∨ (classOf n).2 = 30 := by
  have key : ∀ (c : Bool) (x y : Oct.S × Nat), (y.2 = 0 ∨ y.2 = 30) → x.2 = 0 → ((if c = true then x else y).2 = 0 ∨ (if c = true then x else y).2 = 30) := fun c x y h1 h2 => by
    cases c
    · exact h1
    · exact .inl h2
  unfold classOf
  iterate 12 refine key _ _ _ ?_ rfl
  exact .inr rfl
theorem item_bad {s : ByteArray} {o i a e : Nat} (h : item s o i = .bad a e) : e = 43 ∨ e = 30 := by
  unfold item at h
  split at h
  · cases h; simp
  · split at h
    · unfold class_ at h
      split at h
      · split at h
        · cases h
        · rename_i h0
          cases h
          rcases classOf_code (className s i) with h1 | h1
          · exact absurd h1 h0
          · exact .inr h1
      · cases h; simp
    · split at h
      · cases h; simp
      · split at h
        · unfold span_ at h
          split at h
          · cases h; simp
          · cases h
        · cases h
theorem setLoop_bad {s : ByteArray} {o : Nat} : ∀ {f : Nat} {x : Oct.S} {i a e : Nat}, setLoop s o f x i = .bad a e → e = 43 ∨ e = 30 := by
  intro f
  induction f with
  | zero => intro x i a e h; simp [setLoop] at h
  | succ f ih =>
    intro x i a e h
    rw [setLoop] at h
    split at h
    · cases h
    · split at h
      · exact ih h
      · rename_i h2; cases h; exact item_bad h2
      · cases h
theorem setOf_bad {s : ByteArray} {f i a e : Nat} (h : setOf s f i = .bad a e) : e = 43 ∨ e = 30 := by
  unfold setOf at h
  split at h
  · split at h
    · cases h
    · rename_i h2; cases h; exact setLoop_bad h2
    · cases h
  · rename_i h2; cases h; exact item_bad h2
  · cases h
theorem Agree.read {s s' : ByteArray} {m : Nat} (h : Agree s s' m) (n : Nat) :
    ((∀ d i t j, pat s n d i = .ok t j → j < m → pat s' n d i = .ok t j) ∧ (∀ d i a e, pat s n d i = .bad a e → Met e → a + mr e ≤ m → i ≤ a ∧ pat s' n d i = .bad a e)) ∧
    ((∀ d acc i t j, patLoop s n d acc i = .ok t j → j < m → patLoop s' n d acc i = .ok t j) ∧ (∀ d acc i a e, patLoop s n d acc i = .bad a e → Met e → a + mr e ≤ m → i ≤ a ∧ patLoop s' n d acc i = .bad a e)) ∧
    ((∀ d i t j, alt s n d i = .ok t j → j < m → alt s' n d i = .ok t j) ∧ (∀ d i a e, alt s n d i = .bad a e → Met e → a + mr e ≤ m → i ≤ a ∧ alt s' n d i = .bad a e)) ∧
    ((∀ d acc i t j, altLoop s n d acc i = .ok t j → j < m → altLoop s' n d acc i = .ok t j) ∧ (∀ d acc i a e, altLoop s n d acc i = .bad a e → Met e → a + mr e ≤ m → i ≤ a ∧ altLoop s' n d acc i = .bad a e)) ∧
    ((∀ d i t j, i < s.size → piece s n d i = .ok t j → j < m → piece s' n d i = .ok t j) ∧ (∀ d i a e, i < s.size → piece s n d i = .bad a e → Met e → a + mr e ≤ m → i ≤ a ∧ piece s' n d i = .bad a e)) ∧
    ((∀ d i t j, i < s.size → atom s n d i = .ok t j → j < m → atom s' n d i = .ok t j) ∧ (∀ d i a e, i < s.size → atom s n d i = .bad a e → Met e → a + mr e ≤ m → i ≤ a ∧ atom s' n d i = .bad a e)) ∧
    ((∀ d i t j, group s n d i = .ok t j → j < m → group s' n d i = .ok t j) ∧ (∀ d i a e, group s n d i = .bad a e → Met e → a + mr e ≤ m → i ≤ a ∧ group s' n d i = .bad a e)) := by
  have hl := h.le
  have hl' := h.le'
  induction n with
  | zero => refine ⟨⟨?_, ?_⟩, ⟨?_, ?_⟩, ⟨?_, ?_⟩, ⟨?_, ?_⟩, ⟨?_, ?_⟩, ⟨?_, ?_⟩, ?_, ?_⟩ <;> intros <;> simp_all [pat, patLoop, alt, altLoop, piece, atom, group]
  | succ n ih =>
    obtain ⟨⟨o1, b1⟩, ⟨o2, b2⟩, ⟨o3, b3⟩, ⟨o4, b4⟩, ⟨o5, b5⟩, ⟨o6, b6⟩, o7, b7⟩ := ih
    have hge := read_ge s n
    refine ⟨⟨fun d i t j hc hj => ?_, fun d i a e hc he ha => ?_⟩, ⟨fun d acc i t j hc hj => ?_, fun d acc i a e hc he ha => ?_⟩, ⟨fun d i t j hc hj => ?_, fun d i a e hc he ha => ?_⟩, ⟨fun d acc i t j hc hj => ?_, fun d acc i a e hc he ha => ?_⟩, ⟨fun d i t j hi hc hj => ?_, fun d i a e hi hc he ha => ?_⟩, ⟨fun d i t j hi hc hj => ?_, fun d i a e hi hc he ha => ?_⟩, fun d i t j hc hj => ?_, fun d i a e hc he ha => ?_⟩
    · rw [pat] at hc ⊢
      split at hc
      · rename_i t1 k hc2
        have := hge.2.1 _ _ _ _ _ hc
        rw [o3 _ _ _ _ hc2 (by omega)]
        exact o2 _ _ _ _ _ hc hj
      · cases hc
      · cases hc
    · rw [pat] at hc ⊢
      have := mr_pos e
      split at hc
      · rename_i t1 k hc2
        have h1 := b2 _ _ _ _ _ hc he ha
        have h2 := hge.2.2.1 _ _ _ _ hc2
        rw [o3 _ _ _ _ hc2 (by omega)]
        exact ⟨by omega, h1.2⟩
      · rename_i a' e' hc2
        cases hc
        have h1 := b3 _ _ _ _ hc2 he ha
        rw [h1.2]
        exact ⟨h1.1, rfl⟩
      · cases hc
    · have hle := (read_ge s (n + 1)).2.1 _ _ _ _ _ hc
      rw [patLoop] at hc ⊢
      rw [h.sees (show i < m by omega)]
      split at hc
      · rename_i g
        rw [if_pos g]
        split at hc
        · rename_i t1 k hc2
          have := hge.2.1 _ _ _ _ _ hc
          rw [o3 _ _ _ _ hc2 (by omega)]
          exact o2 _ _ _ _ _ hc hj
        · cases hc
        · cases hc
      · rename_i g; rw [if_neg g]; exact hc
    · have := mr_pos e
      rw [patLoop] at hc ⊢
      split at hc
      · rename_i g
        split at hc
        · rename_i t1 k hc2
          have h1 := b2 _ _ _ _ _ hc he ha
          have h2 := hge.2.2.1 _ _ _ _ hc2
          rw [h.sees (show i < m by omega), if_pos g, o3 _ _ _ _ hc2 (by omega)]
          exact ⟨by omega, h1.2⟩
        · rename_i a' e' hc2
          cases hc
          have h1 := b3 _ _ _ _ hc2 he ha
          rw [h.sees (show i < m by omega), if_pos g, h1.2]
          exact ⟨by omega, rfl⟩
        · cases hc
      · cases hc
    · rw [alt] at hc ⊢
      exact o4 _ _ _ _ _ hc hj
    · rw [alt] at hc ⊢
      exact b4 _ _ _ _ _ hc he ha
    · have hle := (read_ge s (n + 1)).2.2.2.1 _ _ _ _ _ hc
      rw [altLoop] at hc ⊢
      rw [h.sees (show i < m by omega), h.sees (show i < m by omega), decide_eq_true (show i < s'.size by omega)]
      rw [decide_eq_true (show i < s.size by omega)] at hc
      split at hc
      · rename_i g
        rw [if_pos g]
        split at hc
        · rename_i t1 k hc2
          have := hge.2.2.2.1 _ _ _ _ _ hc
          rw [o5 _ _ _ _ (by omega) hc2 (by omega)]
          exact o4 _ _ _ _ _ hc hj
        · cases hc
        · cases hc
      · rename_i g; rw [if_neg g]; exact hc
    · have := mr_pos e
      rw [altLoop] at hc ⊢
      split at hc
      · rename_i g
        have hi : i < s.size := by simp at g; exact g.1.1
        have g' := g
        rw [decide_eq_true hi] at g'
        split at hc
        · rename_i t1 k hc2
          have h1 := b4 _ _ _ _ _ hc he ha
          have h2 := hge.2.2.2.2.1 _ _ _ _ hc2
          rw [h.sees (show i < m by omega), h.sees (show i < m by omega), decide_eq_true (show i < s'.size by omega), if_pos g', o5 _ _ _ _ hi hc2 (by omega)]
          exact ⟨by omega, h1.2⟩
        · rename_i a' e' hc2
          cases hc
          have h1 := b5 _ _ _ _ hi hc2 he ha
          rw [h.sees (show i < m by omega), h.sees (show i < m by omega), decide_eq_true (show i < s'.size by omega), if_pos g', h1.2]
          exact ⟨by omega, rfl⟩
        · cases hc
      · cases hc
    · have hle := (read_ge s (n + 1)).2.2.2.2.1 _ _ _ _ hc
      rw [piece] at hc ⊢
      rw [← h.same i (by omega)]
      split at hc
      · rename_i g; rw [if_pos g]; exact hc
      · rename_i g
        rw [if_neg g]
        split at hc
        · rename_i g; rw [if_pos g]; exact hc
        · rename_i g
          rw [if_neg g]
          split at hc
          · rename_i t1 k hc2
            have := repeated_ge hc
            rw [o6 _ _ _ _ hi hc2 (by omega)]
            exact h.repeated hc hj
          · cases hc
          · cases hc
    · have := mr_pos e
      rw [piece] at hc ⊢
      split at hc
      · cases hc
      · rename_i g
        split at hc
        · cases hc
        · rename_i g2
          split at hc
          · rename_i t1 k hc2
            have h1 := repeated_bad hc
            rw [h1] at he
            unfold Met at he
            omega
          · rename_i a' e' hc2
            cases hc
            have h1 := b6 _ _ _ _ hi hc2 he ha
            rw [← h.same i (by omega), if_neg g, if_neg g2, h1.2]
            exact ⟨h1.1, rfl⟩
          · cases hc
    · have hle := (read_ge s (n + 1)).2.2.2.2.2.1 _ _ _ _ hc
      rw [atom] at hc ⊢
      rw [← h.same i (by omega)]
      split at hc
      · cases hc
      · rename_i g
        rw [if_neg g]
        split at hc
        · rename_i g; rw [if_pos g]; exact o7 _ _ _ _ hc hj
        · rename_i g
          rw [if_neg g]
          split at hc
          · rename_i g
            rw [if_pos g]
            split at hc
            · rename_i x k hc2
              cases hc
              rw [h.setOf hi hc2 (by omega)]
            · cases hc
            · cases hc
          · rename_i g
            rw [if_neg g]
            split at hc
            · rename_i g; rw [if_pos g]; exact hc
            · rename_i g
              rw [if_neg g]
              split at hc
              · rename_i g
                rw [if_pos g]
                split at hc
                · cases hc
                · rename_i g5
                  cases hc
                  have e1 : byt s' (i + 1) = byt s (i + 1) := (h.same (i + 1) (by omega)).symm
                  simp at g5
                  have g6 : ¬ (decide (i + 1 = s'.size) || !(escapable (byt s' (i + 1)))) = true := by
                    rw [e1]
                    simp [g5.2]
                    omega
                  rw [if_neg g6, e1]
              · rename_i g; rw [if_neg g]; exact hc
    · have := mr_pos e
      rw [atom] at hc ⊢
      split at hc
      · rename_i g
        cases hc
        rw [← h.same i (by omega), if_pos g]
        exact ⟨Nat.le_refl _, rfl⟩
      · rename_i g1
        split at hc
        · rename_i g2
          have h1 := b7 _ _ _ _ hc he ha
          rw [← h.same i (by omega), if_neg g1, if_pos g2]
          exact h1
        · rename_i g2
          split at hc
          · split at hc
            · cases hc
            · rename_i a' e' hc2
              cases hc
              have h1 := setOf_bad hc2
              unfold Met at he
              omega
            · cases hc
          · rename_i g3
            split at hc
            · cases hc
            · rename_i g4
              split at hc
              · rename_i g5
                split at hc
                · rename_i g6
                  cases hc
                  have hmr : mr 46 = 2 := rfl
                  rw [hmr] at ha
                  have e1 : byt s' (i + 1) = byt s (i + 1) := (h.same (i + 1) (by omega)).symm
                  have g7 : escapable (byt s (i + 1)) = false := by
                    simp at g6
                    rcases g6 with g6 | g6
                    · omega
                    · exact g6
                  have g8 : (decide (i + 1 = s'.size) || !(escapable (byt s' (i + 1)))) = true := by
                    rw [e1, g7]
                    simp
                  rw [← h.same i (by omega), if_neg g1, if_neg g2, if_neg g3, if_neg g4, if_pos g5, if_pos g8]
                  exact ⟨Nat.le_refl _, rfl⟩
                · cases hc
              · cases hc
    · rw [group] at hc ⊢
      split at hc
      · cases hc
      · rename_i g
        rw [if_neg g]
        split at hc
        · rename_i t1 k hc2
          split at hc
          · cases hc
          · cases hc
            rw [o1 _ _ _ _ hc2 (by omega)]
            simp only
            rw [if_neg (by omega)]
        · cases hc
        · cases hc
    · have := mr_pos e
      rw [group] at hc ⊢
      split at hc
      · rename_i g
        cases hc
        rw [if_pos g]
        exact ⟨Nat.le_refl _, rfl⟩
      · rename_i g
        rw [if_neg g]
        split at hc
        · split at hc
          · cases hc
            unfold Met at he
            omega
          · cases hc
        · rename_i a' e' hc2
          cases hc
          have h1 := b1 _ _ _ _ hc2 he ha
          rw [h1.2]
          exact ⟨by omega, rfl⟩
        · cases hc
end Go.Proofs.Ytjmbimgofceanaa

/- Two patterns that agree ahead of a place: parsed. -/
namespace Go.Proofs.Ytjmbimgofceanaa

end Go.Proofs.Ytjmbimgofceanaa

/- The beginning of a pattern and another end. -/
namespace Go.Proofs.Ytjmbimgofceanaa

end Go.Proofs.Ytjmbimgofceanaa

