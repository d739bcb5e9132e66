/- Two patterns that agree ahead of a place: what is read ahead of it is the same. -/
import Derived.Test.YtlcnmfgmgiijpaaG17
namespace Go.Proofs.Ytlcnmfgmgiijpaa

theorem prefix_agree : ∀ (l l' : List UInt8) (N : Nat), 2 ≤ N → l.take N = l'.take N → ([58, 93] : List UInt8).isPrefixOf l = ([58, 93] : List UInt8).isPrefixOf l' := by
  intro l l' N hN h
  obtain ⟨M, rfl⟩ : ∃ M, N = M + 2 := ⟨N - 2, by omega⟩
  match l, l', h with
  | [], [], _ => rfl
  | [], _ :: _, h => simp at h
  | _ :: _, [], h => simp at h
  | [a], [b], h => simp at h; rw [h]
  | [a], b :: c :: r, h => simp at h
  | a :: c :: r, [b], h => simp at h
  | a :: c :: r, b :: d :: q, h =>
    simp at h
    rw [h.1, h.2.1]
    rfl
theorem index_agree : ∀ (l l' : List UInt8) (N : Nat), l.take N = l'.take N → 0 ≤ Go.Lib.index l [58, 93] → Go.Lib.index l [58, 93] + 2 ≤ N → Go.Lib.index l' [58, 93] = Go.Lib.index l [58, 93] := by
  intro l
  induction l with
  | nil => intro l' N _ h; simp [Go.Lib.index] at h
  | cons b l ih =>
    intro l' N h h0 hN
    obtain ⟨M, rfl⟩ : ∃ M, N = M + 1 := ⟨N - 1, by omega⟩
    cases l' with
    | nil => simp at h
    | cons c q =>
      have hp := prefix_agree (b :: l) (c :: q) (M + 1) (by omega) h
      have ht : l.take M = q.take M := by simp at h; exact h.2
      unfold Go.Lib.index at h0 hN ⊢
      rw [← hp]
      split
      · rfl
      · rename_i hn
        rw [if_neg hn] at h0 hN
        split at h0
        · omega
        · rename_i h1
          rw [if_neg h1] at hN
          have h2 : 0 ≤ Go.Lib.index l [58, 93] := by
            have := Go.Lib.index_ge l [58, 93]
            have h3 : ¬ Go.Lib.index l [58, 93] = -1 := by simpa using h1
            omega
          have := ih q M ht h2 (by omega)
          rw [this]
section
variable {s s' : ByteArray} {m : Nat}
structure Agree (s s' : ByteArray) (m : Nat) : Prop where
  same : ∀ i, i < m → byt s i = byt s' i
  le : m ≤ s.size
  le' : m ≤ s'.size
theorem Agree.sees (h : Agree s s' m) {i : Nat} (hi : i < m) (b : Nat) : Ytlcnmfgmgiijpaa.sees s' i b = Ytlcnmfgmgiijpaa.sees s i b := by
  have h1 := h.le
  have h2 := h.le'
  unfold Ytlcnmfgmgiijpaa.sees
  rw [h.same i hi, decide_eq_true (show i < s.size by omega), decide_eq_true (show i < s'.size by omega)]
theorem Agree.digit (h : Agree s s' m) {i : Nat} (hi : i < m) : isDigit s' i = isDigit s i := by
  have h1 := h.le
  have h2 := h.le'
  unfold isDigit
  rw [h.same i hi, decide_eq_true (show i < s.size by omega), decide_eq_true (show i < s'.size by omega)]
theorem Agree.digits (h : Agree s s' m) : ∀ (f i n : Nat), (Ytlcnmfgmgiijpaa.digits s f i n).2 < m → Ytlcnmfgmgiijpaa.digits s' f i n = Ytlcnmfgmgiijpaa.digits s f i n := by
  intro f
  induction f with
  | zero => intro i n _; rfl
  | succ f ih =>
    intro i n hlt
    have hb := (digits_bound s (f + 1) i n).2.1
    have hi : i < m := by omega
    rw [Ytlcnmfgmgiijpaa.digits] at hlt
    rw [Ytlcnmfgmgiijpaa.digits, Ytlcnmfgmgiijpaa.digits, h.digit hi]
    split
    · rename_i hd
      rw [if_pos hd] at hlt
      rw [h.same i hi] at hlt ⊢
      exact ih _ _ hlt
    · rfl
theorem Agree.count (h : Agree s s' m) {o i n j : Nat} (hc : Ytlcnmfgmgiijpaa.count s o i = .ok n j) (hj : j < m) : Ytlcnmfgmgiijpaa.count s' o i = .ok n j := by
  unfold Ytlcnmfgmgiijpaa.count at hc ⊢
  split at hc
  · cases hc
  · rename_i hne
    cases hc
    rw [h.digits 3 i 0 hj, if_neg hne]
theorem Agree.countsEnd (h : Agree s s' m) {o j k : Nat} {l x : Int} {y : Int × Int} (hc : Ytlcnmfgmgiijpaa.countsEnd s o l x j = .ok y k) (hj : j < m) : Ytlcnmfgmgiijpaa.countsEnd s' o l x j = .ok y k := by
  unfold Ytlcnmfgmgiijpaa.countsEnd at hc ⊢
  rw [h.sees hj]
  exact hc
theorem Agree.counts (h : Agree s s' m) {i j : Nat} {x : Int × Int} (hc : Ytlcnmfgmgiijpaa.counts s i = .ok x j) (hj : j < m) : Ytlcnmfgmgiijpaa.counts s' i = .ok x j := by
  unfold Ytlcnmfgmgiijpaa.counts at hc ⊢
  cases h1 : Ytlcnmfgmgiijpaa.count s i (i + 1) with
  | bad a e => rw [h1] at hc; cases hc
  | out => rw [h1] at hc; cases hc
  | ok l k =>
    rw [h1] at hc
    simp only at hc
    have hkj : k ≤ j := by
      split at hc
      · split at hc
        · have := countsEnd_ge hc; omega
        · split at hc
          · rename_i m' k2 hc2
            have := count_ge hc2
            have := countsEnd_ge hc
            omega
          · cases hc
          · cases hc
      · have := countsEnd_ge hc; omega
    rw [h.count h1 (by omega)]
    simp only
    rw [h.sees (by omega : k < m)]
    split at hc
    · rename_i g1
      rw [if_pos g1]
      split at hc
      · rename_i g2
        have := countsEnd_ge hc
        rw [h.sees (by omega : k + 1 < m), if_pos g2]
        exact h.countsEnd hc (by omega)
      · rename_i g2
        split at hc
        · rename_i m' k2 hc2
          have h2 := count_ge hc2
          have h3 := countsEnd_ge hc
          rw [h.sees (by omega : k + 1 < m), if_neg g2, h.count hc2 (by omega)]
          exact h.countsEnd hc (by omega)
        · cases hc
        · cases hc
    · rename_i g1
      rw [if_neg g1]
      have h3 := countsEnd_ge hc
      exact h.countsEnd hc (by omega)
theorem Agree.repeated (h : Agree s s' m) {t u : Tr} {i j : Nat} (hc : Ytlcnmfgmgiijpaa.repeated s t i = .ok u j) (hj : j < m) : Ytlcnmfgmgiijpaa.repeated s' t i = .ok u j := by
  have hge := repeated_ge hc
  unfold Ytlcnmfgmgiijpaa.repeated at hc ⊢
  rw [h.sees (by omega : i < m), h.sees (by omega : i < m), h.sees (by omega : i < m), h.sees (by omega : i < m)]
  split at hc
  · rename_i g; rw [if_pos g]; exact hc
  · rename_i g
    rw [if_neg g]
    split at hc
    · rename_i g; rw [if_pos g]; exact hc
    · rename_i g
      rw [if_neg g]
      split at hc
      · rename_i g; rw [if_pos g]; exact hc
      · rename_i g
        rw [if_neg g]
        split at hc
        · rename_i g
          rw [if_pos g]
          split at hc
          · rename_i l x k hc2
            cases hc
            rw [h.counts hc2 (by omega)]
          · cases hc
          · cases hc
        · rename_i g; rw [if_neg g]; exact hc
end
end Go.Proofs.Ytlcnmfgmgiijpaa

/- Two patterns that agree ahead of a place: sets. -/
namespace Go.Proofs.Ytlcnmfgmgiijpaa

section
variable {s s' : ByteArray} {m : Nat}
theorem rest_len (s : ByteArray) (k : Nat) : (rest s k).data.toList.length = s.size - k := by
  have h := rest_size s k
  simpa using h
theorem Agree.rest (h : Agree s s' m) {k : Nat} (hk : k ≤ m) : (Ytlcnmfgmgiijpaa.rest s k).data.toList.take (m - k) = (Ytlcnmfgmgiijpaa.rest s' k).data.toList.take (m - k) := by
  have h1 := h.le
  have h2 := h.le'
  have l1 := rest_len s k
  have l2 := rest_len s' k
  apply List.ext_getElem
  · rw [List.length_take, List.length_take, l1, l2]; omega
  · intro i g1 g2
    rw [List.length_take] at g1 g2
    rw [List.getElem_take, List.getElem_take]
    have e1 := byt_list (Ytlcnmfgmgiijpaa.rest s k) i
    have e2 := byt_list (Ytlcnmfgmgiijpaa.rest s' k) i
    rw [rest_byt, List.getD_eq_getElem?_getD, List.getElem?_eq_getElem (by omega)] at e1 e2
    have e3 := h.same (k + i) (by omega)
    rw [e1, e2] at e3
    simpa [UInt8.toNat_inj] using e3
theorem Agree.cls (h : Agree s s' m) {o i j : Nat} {x : Oct.S} (hc : class_ s o i = .ok x j) (hj : j ≤ m) : class_ s' o i = .ok x j := by
  unfold class_ at hc
  split at hc
  · rename_i he
    split at hc
    · rename_i hz
      cases hc
      have hk : i + 2 ≤ m := by omega
      have hr := h.rest hk
      have l1 := rest_len s (i + 2)
      have l2 := rest_len s' (i + 2)
      have hl := h.le
      have hl' := h.le'
      obtain ⟨l, el⟩ : ∃ l, l = (Ytlcnmfgmgiijpaa.rest s (i + 2)).data.toList := ⟨_, rfl⟩
      obtain ⟨l', el'⟩ : ∃ l, l = (Ytlcnmfgmgiijpaa.rest s' (i + 2)).data.toList := ⟨_, rfl⟩
      have he2 : 0 ≤ Go.Lib.index l [58, 93] := by
        unfold classEnds Go.Lib.cut at he
        rw [← el] at he
        split at he
        · assumption
        · cases he
      have hroom := Go.Lib.index_room l [58, 93] he2
      have hname : className s i = ⟨(l.take (Go.Lib.index l [58, 93]).toNat).toArray⟩ := by
        unfold className Go.Lib.cut
        rw [← el, if_pos he2]
      have hsz : (className s i).size = (Go.Lib.index l [58, 93]).toNat := by
        rw [hname]
        have : (⟨(l.take (Go.Lib.index l [58, 93]).toNat).toArray⟩ : ByteArray).size = (l.take (Go.Lib.index l [58, 93]).toNat).length := by simp [ByteArray.size]
        rw [this, List.length_take]
        simp at hroom
        omega
      rw [← el, ← el'] at hr
      rw [← el] at l1
      rw [← el'] at l2
      have hi2 := index_agree l l' (m - (i + 2)) hr he2 (by omega)
      have he2' : 0 ≤ Go.Lib.index l' [58, 93] := by rw [hi2]; exact he2
      have hname' : className s' i = className s i := by
        rw [hname]
        unfold className Go.Lib.cut
        rw [← el', if_pos he2', hi2]
        have e1 : l'.take (Go.Lib.index l [58, 93]).toNat = (l'.take (m - (i + 2))).take (Go.Lib.index l [58, 93]).toNat := by
          rw [List.take_take, Nat.min_eq_left (by omega)]
        have e2 : l.take (Go.Lib.index l [58, 93]).toNat = (l.take (m - (i + 2))).take (Go.Lib.index l [58, 93]).toNat := by
          rw [List.take_take, Nat.min_eq_left (by omega)]
        simp only
        rw [e1, e2, hr]
      have he' : classEnds s' i = true := by
        unfold classEnds Go.Lib.cut
        rw [← el', if_pos he2']
      unfold class_
      rw [if_pos he', hname', if_pos hz]
    · cases hc
  · cases hc
theorem Agree.special (h : Agree s s' m) {i : Nat} (hi : i + 1 < m) : Ytlcnmfgmgiijpaa.special s' i = Ytlcnmfgmgiijpaa.special s i := by
  have h1 := h.le
  have h2 := h.le'
  unfold Ytlcnmfgmgiijpaa.special
  rw [h.same i (by omega), h.same (i + 1) hi, decide_eq_true (show i + 1 < s.size by omega), decide_eq_true (show i + 1 < s'.size by omega)]
end
end Go.Proofs.Ytlcnmfgmgiijpaa

/- Two patterns that agree ahead of a place: items, sets as a whole. -/
namespace Go.Proofs.Ytlcnmfgmgiijpaa

section
variable {s s' : ByteArray} {m : Nat}
theorem Agree.span (h : Agree s s' m) {i j : Nat} {x : Oct.S} (hc : span_ s i = .ok x j) (hj : j < m) : span_ s' i = .ok x j := by
  have hj3 : j = i + 3 := by
    unfold span_ at hc
    split at hc
    · cases hc
    · cases hc; rfl
  unfold span_ at hc ⊢
  rw [← h.same i (by omega), ← h.same (i + 2) (by omega), h.special (by omega)]
  exact hc
theorem Agree.item (h : Agree s s' m) {o i j c : Nat} {x : Oct.S} (hi : i ≤ s.size) (hc : Ytlcnmfgmgiijpaa.item s o i = .ok x j) (hj : j ≤ c) (hcm : c < m) (h93 : byt s c = 93) : Ytlcnmfgmgiijpaa.item s' o i = .ok x j := by
  have hl := h.le
  have hl' := h.le'
  have hge := item_ge hc
  have h1 : byt s' i = byt s i := (h.same i (by omega)).symm
  have h2 : byt s' (i + 1) = byt s (i + 1) := (h.same (i + 1) (by omega)).symm
  have d1 : decide (i + 1 < s'.size) = decide (i + 1 < s.size) := by rw [decide_eq_true (show i + 1 < s.size by omega), decide_eq_true (show i + 1 < s'.size by omega)]
  have h3 : (decide (i + 2 < s'.size) && decide (byt s' (i + 1) = 45) && decide (byt s' (i + 2) ≠ 93)) = (decide (i + 2 < s.size) && decide (byt s (i + 1) = 45) && decide (byt s (i + 2) ≠ 93)) := by
    by_cases h45 : byt s (i + 1) = 45
    · have hne : c ≠ i + 1 := fun e => by rw [e, h45] at h93; cases h93
      have hlt : i + 2 < m := by omega
      rw [← h.same (i + 2) hlt, h2, decide_eq_true (show i + 2 < s.size by omega), decide_eq_true (show i + 2 < s'.size by omega)]
    · rw [h2]
      simp [h45]
  unfold Ytlcnmfgmgiijpaa.item at hc ⊢
  rw [if_neg (show ¬ i = s'.size by omega), d1, h1, h2, h.special (show i + 1 < m by omega)]
  rw [if_neg (show ¬ i = s.size by omega)] at hc
  rw [h2] at h3
  rw [h3]
  split at hc
  · rename_i g; rw [if_pos g]; exact h.cls hc (by omega)
  · rename_i g
    rw [if_neg g]
    split at hc
    · cases hc
    · rename_i g
      rw [if_neg g]
      split at hc
      · rename_i g; rw [if_pos g]; exact h.span hc (by omega)
      · rename_i g; rw [if_neg g]; exact hc
theorem setLoop_ends {o : Nat} : ∀ {f : Nat} {a x : Oct.S} {i j : Nat}, setLoop s o f a i = .ok x j → i < j ∧ byt s (j - 1) = 93 := by
  intro f
  induction f with
  | zero => intro a x i j h; simp [setLoop] at h
  | succ f ih =>
    intro a x i j h
    rw [setLoop] at h
    split at h
    · rename_i g
      cases h
      unfold Ytlcnmfgmgiijpaa.sees at g
      simp at g
      exact ⟨by omega, by simpa using g.2⟩
    · split at h
      · rename_i b k hc
        have := item_ge hc
        have := ih h
        exact ⟨by omega, this.2⟩
      · cases h
      · cases h
theorem Agree.setLoop (h : Agree s s' m) {o : Nat} : ∀ {f : Nat} {a x : Oct.S} {i j : Nat}, i ≤ s.size → Ytlcnmfgmgiijpaa.setLoop s o f a i = .ok x j → j ≤ m → Ytlcnmfgmgiijpaa.setLoop s' o f a i = .ok x j := by
  intro f
  induction f with
  | zero => intro a x i j _ h; simp [Ytlcnmfgmgiijpaa.setLoop] at h
  | succ f ih =>
    intro a x i j hi hc hj
    have hend := setLoop_ends hc
    rw [Ytlcnmfgmgiijpaa.setLoop] at hc ⊢
    rw [h.sees (show i < m by omega)]
    split at hc
    · rename_i g; rw [if_pos g]; exact hc
    · rename_i g
      rw [if_neg g]
      split at hc
      · rename_i b k hc2
        have h1 := setLoop_ends hc
        have h2 := item_le hi hc2
        rw [h.item hi hc2 (show k ≤ j - 1 by omega) (by omega) hend.2]
        exact ih h2.1 hc hj
      · cases hc
      · cases hc
theorem Agree.setOf (h : Agree s s' m) {f i j : Nat} {x : Oct.S} (hi : i < s.size) (hc : Ytlcnmfgmgiijpaa.setOf s f i = .ok x j) (hj : j ≤ m) : Ytlcnmfgmgiijpaa.setOf s' f i = .ok x j := by
  have hl := h.le
  unfold Ytlcnmfgmgiijpaa.setOf at hc ⊢
  have hb : (if Ytlcnmfgmgiijpaa.sees s (i + 1) 94 = true then i + 2 else i + 1) ≤ s.size := by
    split
    · rename_i g; have := sees_lt g; omega
    · omega
  cases h1 : Ytlcnmfgmgiijpaa.item s i (if Ytlcnmfgmgiijpaa.sees s (i + 1) 94 = true then i + 2 else i + 1) with
  | bad a e => rw [h1] at hc; cases hc
  | out => rw [h1] at hc; cases hc
  | ok a k =>
    rw [h1] at hc
    simp only at hc
    have hk := item_le hb h1
    split at hc
    · rename_i b k2 hc2
      have hend := setLoop_ends hc2
      cases hc
      have hk1 : i + 1 < k := by have := hk.2; split at this <;> omega
      rw [h.sees (show i + 1 < m by omega), h.item hb h1 (show k ≤ j - 1 by omega) (by omega) hend.2]
      simp only
      rw [h.setLoop hk.1 hc2 hj]
    · cases hc
    · cases hc
end
end Go.Proofs.Ytlcnmfgmgiijpaa

/- Two patterns that agree ahead of a place: the grammar; a fault that is met from the left. -/
namespace Go.Proofs.Ytlcnmfgmgiijpaa

/-- the faults that are met from the left -/
def Met (e : Nat) : Prop := e = 44 ∨ e = 46 ∨ e = 47
def mr (e : Nat) : Nat := if e = 46 then 2 else 1
theorem mr_pos (e : Nat) : 1 ≤ mr e := by unfold mr; split <;> omega
theorem count_bad {s : ByteArray} {o i a e : Nat} (h : count s o i = .bad a e) : e = 45 := by
  unfold count at h
  split at h
  · cases h; rfl
  · cases h
theorem countsEnd_bad {s : ByteArray} {o j a e : Nat} {l x : Int} (h : countsEnd s o l x j = .bad a e) : e = 45 := by
  unfold countsEnd at h
  split at h
  · cases h
  · cases h; rfl
theorem counts_bad {s : ByteArray} {i a e : Nat} (h : counts s i = .bad a e) : e = 45 := by
  unfold counts at h
  split at h
  · split at h
    · split at h
      · exact countsEnd_bad h
      · split at h
        · exact countsEnd_bad h
        · rename_i h2; cases h; exact count_bad h2
        · cases h
    · exact countsEnd_bad h
  · rename_i h2; cases h; exact count_bad h2
  · cases h
theorem repeated_bad {s : ByteArray} {t : Tr} {i a e : Nat} (h : repeated s t i = .bad a e) : e = 45 := by
  unfold repeated at h
  split at h
  · cases h
  · split at h
    · cases h
    · split at h
      · cases h
      · split at h
        · split at h
          · cases h
          · rename_i h2; cases h; exact counts_bad h2
          · cases h
        · cases h
theorem classOf_code (n : ByteArray) : (classOf n).2 = 0 ∨ (classOf n).2 = 30 := by
  have key : ∀ (c : Bool) (x y : Oct.S × Nat), (y.2 = 0 ∨ y.2 = 30) → x.2 = 0 → ((if c = true then x else y).2 = 0 ∨ (if c = true then x else y).2 = 30) := fun c x y h1 h2 => by
    cases c
    · exact h1
    · exact .inl h2
  unfold classOf
  iterate 12 refine key _ _ _ ?_ rfl
  exact .inr rfl
theorem item_bad {s : ByteArray} {o i a e : Nat} (h : item s o i = .bad a e) : e = 43 ∨ e = 30 := by
  unfold item at h
  split at h
  · cases h; simp
  · split at h
    · unfold class_ at h
      split at h
      · split at h
        · cases h
        · rename_i h0
          cases h
          rcases classOf_code (className s i) with h1 | h1
          · exact absurd h1 h0
          · exact .inr h1
      · cases h; simp
    · split at h
      · cases h; simp
      · split at h
        · unfold span_ at h
          split at h
          · cases h; simp
          · cases h
        · cases h
theorem setLoop_bad {s : ByteArray} {o : Nat} : ∀ {f : Nat} {x : Oct.S} {i a e : Nat}, setLoop s o f x i = .bad a e → e = 43 ∨ e = 30 := by
  intro f
  induction f with
  | zero => intro x i a e h; simp [setLoop] at h
  | succ f ih =>
    intro x i a e h
    rw [setLoop] at h
    split at h
    · cases h
    · split at h
      · exact ih h
      · rename_i h2; cases h; exact item_bad h2
      · cases h
theorem setOf_bad {s : ByteArray} {f i a e : Nat} (h : setOf s f i = .bad a e) : e = 43 ∨ e = 30 := by
  unfold setOf at h
  split at h
  · split at h
    · cases h
    · rename_i h2; cases h; exact setLoop_bad h2
    · cases h
  · rename_i h2; cases h; exact item_bad h2
  · cases h
theorem Agree.read {s s' : ByteArray} {m : Nat} (h : Agree s s' m) (n : Nat) :
    ((∀ d i t j, pat s n d i = .ok t j → j < m → pat s' n d i = .ok t j) ∧ (∀ d i a e, pat s n d i = .bad a e → Met e → a + mr e ≤ m → i ≤ a ∧ pat s' n d i = .bad a e)) ∧
    ((∀ d acc i t j, patLoop s n d acc i = .ok t j → j < m → patLoop s' n d acc i = .ok t j) ∧ (∀ d acc i a e, patLoop s n d acc i = .bad a e → Met e → a + mr e ≤ m → i ≤ a ∧ patLoop s' n d acc i = .bad a e)) ∧
    ((∀ d i t j, alt s n d i = .ok t j → j < m → alt s' n d i = .ok t j) ∧ (∀ d i a e, alt s n d i = .bad a e → Met e → a + mr e ≤ m → i ≤ a ∧ alt s' n d i = .bad a e)) ∧
    ((∀ d acc i t j, altLoop s n d acc i = .ok t j → j < m → altLoop s' n d acc i = .ok t j) ∧ (∀ d acc i a e, altLoop s n d acc i = .bad a e → Met e → a + mr e ≤ m → i ≤ a ∧ altLoop s' n d acc i = .bad a e)) ∧
    ((∀ d i t j, i < s.size → piece s n d i = .ok t j → j < m → piece s' n d i = .ok t j) ∧ (∀ d i a e, i < s.size → piece s n d i = .bad a e → Met e → a + mr e ≤ m → i ≤ a ∧ piece s' n d i = .bad a e)) ∧
    ((∀ d i t j, i < s.size → atom s n d i = .ok t j → j < m → atom s' n d i = .ok t j) ∧ (∀ d i a e, i < s.size → atom s n d i = .bad a e → Met e → a + mr e ≤ m → i ≤ a ∧ atom s' n d i = .bad a e)) ∧
    ((∀ d i t j, group s n d i = .ok t j → j < m → group s' n d i = .ok t j) ∧ (∀ d i a e, group s n d i = .bad a e → Met e → a + mr e ≤ m → i ≤ a ∧ group s' n d i = .bad a e)) := by
  have hl := h.le
  have hl' := h.le'
  induction n with
  | zero => refine ⟨⟨?_, ?_⟩, ⟨?_, ?_⟩, ⟨?_, ?_⟩, ⟨?_, ?_⟩, ⟨?_, ?_⟩, ⟨?_, ?_⟩, ?_, ?_⟩ <;> intros <;> simp_all [pat, patLoop, alt, altLoop, piece, atom, group]
  | succ n ih =>
    obtain ⟨⟨o1, b1⟩, ⟨o2, b2⟩, ⟨o3, b3⟩, ⟨o4, b4⟩, ⟨o5, b5⟩, ⟨o6, b6⟩, o7, b7⟩ := ih
    have hge := read_ge s n
    refine ⟨⟨fun d i t j hc hj => ?_, fun d i a e hc he ha => ?_⟩, ⟨fun d acc i t j hc hj => ?_, fun d acc i a e hc he ha => ?_⟩, ⟨fun d i t j hc hj => ?_, fun d i a e hc he ha => ?_⟩, ⟨fun d acc i t j hc hj => ?_, fun d acc i a e hc he ha => ?_⟩, ⟨fun d i t j hi hc hj => ?_, fun d i a e hi hc he ha => ?_⟩, ⟨fun d i t j hi hc hj => ?_, fun d i a e hi hc he ha => ?_⟩, fun d i t j hc hj => ?_, fun d i a e hc he ha => ?_⟩
    · rw [pat] at hc ⊢
      split at hc
      · rename_i t1 k hc2
        have := hge.2.1 _ _ _ _ _ hc
        rw [o3 _ _ _ _ hc2 (by omega)]
        exact o2 _ _ _ _ _ hc hj
      · cases hc
      · cases hc
    · rw [pat] at hc ⊢
      have := mr_pos e
      split at hc
      · rename_i t1 k hc2
        have h1 := b2 _ _ _ _ _ hc he ha
        have h2 := hge.2.2.1 _ _ _ _ hc2
        rw [o3 _ _ _ _ hc2 (by omega)]
        exact ⟨by omega, h1.2⟩
      · rename_i a' e' hc2
        cases hc
        have h1 := b3 _ _ _ _ hc2 he ha
        rw [h1.2]
        exact ⟨h1.1, rfl⟩
      · cases hc
    · have hle := (read_ge s (n + 1)).2.1 _ _ _ _ _ hc
      rw [patLoop] at hc ⊢
      rw [h.sees (show i < m by omega)]
      split at hc
      · rename_i g
        rw [if_pos g]
        split at hc
        · rename_i t1 k hc2
          have := hge.2.1 _ _ _ _ _ hc
          rw [o3 _ _ _ _ hc2 (by omega)]
          exact o2 _ _ _ _ _ hc hj
        · cases hc
        · cases hc
      · rename_i g; rw [if_neg g]; exact hc
    · have := mr_pos e
      rw [patLoop] at hc ⊢
      split at hc
      · rename_i g
        split at hc
        · rename_i t1 k hc2
          have h1 := b2 _ _ _ _ _ hc he ha
          have h2 := hge.2.2.1 _ _ _ _ hc2
          rw [h.sees (show i < m by omega), if_pos g, o3 _ _ _ _ hc2 (by omega)]
          exact ⟨by omega, h1.2⟩
        · rename_i a' e' hc2
          cases hc
          have h1 := b3 _ _ _ _ hc2 he ha
          rw [h.sees (show i < m by omega), if_pos g, h1.2]
          exact ⟨by omega, rfl⟩
        · cases hc
      · cases hc
    · rw [alt] at hc ⊢
      exact o4 _ _ _ _ _ hc hj
    · rw [alt] at hc ⊢
      exact b4 _ _ _ _ _ hc he ha
    · have hle := (read_ge s (n + 1)).2.2.2.1 _ _ _ _ _ hc
      rw [altLoop] at hc ⊢
      rw [h.sees (show i < m by omega), h.sees (show i < m by omega), decide_eq_true (show i < s'.size by omega)]
      rw [decide_eq_true (show i < s.size by omega)] at hc
      split at hc
      · rename_i g
        rw [if_pos g]
        split at hc
        · rename_i t1 k hc2
          have := hge.2.2.2.1 _ _ _ _ _ hc
          rw [o5 _ _ _ _ (by omega) hc2 (by omega)]
          exact o4 _ _ _ _ _ hc hj
        · cases hc
        · cases hc
      · rename_i g; rw [if_neg g]; exact hc
    · have := mr_pos e
      rw [altLoop] at hc ⊢
      split at hc
      · rename_i g
        have hi : i < s.size := by simp at g; exact g.1.1
        have g' := g
        rw [decide_eq_true hi] at g'
        split at hc
        · rename_i t1 k hc2
          have h1 := b4 _ _ _ _ _ hc he ha
          have h2 := hge.2.2.2.2.1 _ _ _ _ hc2
          rw [h.sees (show i < m by omega), h.sees (show i < m by omega), decide_eq_true (show i < s'.size by omega), if_pos g', o5 _ _ _ _ hi hc2 (by omega)]
          exact ⟨by omega, h1.2⟩
        · rename_i a' e' hc2
          cases hc
          have h1 := b5 _ _ _ _ hi hc2 he ha
          rw [h.sees (show i < m by omega), h.sees (show i < m by omega), decide_eq_true (show i < s'.size by omega), if_pos g', h1.2]
          exact ⟨by omega, rfl⟩
        · cases hc
      · cases hc
    · have hle := (read_ge s (n + 1)).2.2.2.2.1 _ _ _ _ hc
      rw [piece] at hc ⊢
      rw [← h.same i (by omega)]
      split at hc
      · rename_i g; rw [if_pos g]; exact hc
      · rename_i g
        rw [if_neg g]
        split at hc
        · rename_i g; rw [if_pos g]; exact hc
        · rename_i g
          rw [if_neg g]
          split at hc
          · rename_i t1 k hc2
            have := repeated_ge hc
            rw [o6 _ _ _ _ hi hc2 (by omega)]
            exact h.repeated hc hj
          · cases hc
          · cases hc
    · have := mr_pos e
      rw [piece] at hc ⊢
      split at hc
      · cases hc
      · rename_i g
        split at hc
        · cases hc
        · rename_i g2
          split at hc
          · rename_i t1 k hc2
            have h1 := repeated_bad hc
            rw [h1] at he
            unfold Met at he
            omega
          · rename_i a' e' hc2
            cases hc
            have h1 := b6 _ _ _ _ hi hc2 he ha
            rw [← h.same i (by omega), if_neg g, if_neg g2, h1.2]
            exact ⟨h1.1, rfl⟩
          · cases hc
    · have hle := (read_ge s (n + 1)).2.2.2.2.2.1 _ _ _ _ hc
      rw [atom] at hc ⊢
      rw [← h.same i (by omega)]
      split at hc
      · cases hc
      · rename_i g
        rw [if_neg g]
        split at hc
        · rename_i g; rw [if_pos g]; exact o7 _ _ _ _ hc hj
        · rename_i g
          rw [if_neg g]
          split at hc
          · rename_i g
            rw [if_pos g]
            split at hc
            · rename_i x k hc2
              cases hc
              rw [h.setOf hi hc2 (by omega)]
            · cases hc
            · cases hc
          · rename_i g
            rw [if_neg g]
            split at hc
            · rename_i g; rw [if_pos g]; exact hc
            · rename_i g
              rw [if_neg g]
              split at hc
              · rename_i g
                rw [if_pos g]
                split at hc
                · cases hc
                · rename_i g5
                  cases hc
                  have e1 : byt s' (i + 1) = byt s (i + 1) := (h.same (i + 1) (by omega)).symm
                  simp at g5
                  have g6 : ¬ (decide (i + 1 = s'.size) || !(escapable (byt s' (i + 1)))) = true := by
                    rw [e1]
                    simp [g5.2]
                    omega
                  rw [if_neg g6, e1]
              · rename_i g; rw [if_neg g]; exact hc
    · have := mr_pos e
      rw [atom] at hc ⊢
      split at hc
      · rename_i g
        cases hc
        rw [← h.same i (by omega), if_pos g]
        exact ⟨Nat.le_refl _, rfl⟩
      · rename_i g1
        split at hc
        · rename_i g2
          have h1 := b7 _ _ _ _ hc he ha
          rw [← h.same i (by omega), if_neg g1, if_pos g2]
          exact h1
        · rename_i g2
          split at hc
          · split at hc
            · cases hc
            · rename_i a' e' hc2
              cases hc
              have h1 := setOf_bad hc2
              unfold Met at he
              omega
            · cases hc
          · rename_i g3
            split at hc
            · cases hc
            · rename_i g4
              split at hc
              · rename_i g5
                split at hc
                · rename_i g6
                  cases hc
                  have hmr : mr 46 = 2 := rfl
                  rw [hmr] at ha
                  have e1 : byt s' (i + 1) = byt s (i + 1) := (h.same (i + 1) (by omega)).symm
                  have g7 : escapable (byt s (i + 1)) = false := by
                    simp at g6
                    rcases g6 with g6 | g6
                    · omega
                    · exact g6
                  have g8 : (decide (i + 1 = s'.size) || !(escapable (byt s' (i + 1)))) = true := by
                    rw [e1, g7]
                    simp
                  rw [← h.same i (by omega), if_neg g1, if_neg g2, if_neg g3, if_neg g4, if_pos g5, if_pos g8]
                  exact ⟨Nat.le_refl _, rfl⟩
                · cases hc
              · cases hc
    · rw [group] at hc ⊢
      split at hc
      · cases hc
      · rename_i g
        rw [if_neg g]
        split at hc
        · rename_i t1 k hc2
          split at hc
          · cases hc
          · cases hc
            rw [o1 _ _ _ _ hc2 (by omega)]
            simp only
            rw [if_neg (by omega)]
        · cases hc
        · cases hc
    · have := mr_pos e
      rw [group] at hc ⊢
      split at hc
      · rename_i g
        cases hc
        rw [if_pos g]
        exact ⟨Nat.le_refl _, rfl⟩
      · rename_i g
        rw [if_neg g]
        split at hc
        · split at hc
          · cases hc
            unfold Met at he
            omega
          · cases hc
        · rename_i a' e' hc2
          cases hc
          have h1 := b1 _ _ _ _ hc2 he ha
          rw [h1.2]
          exact ⟨by omega, rfl⟩
        · cases hc
end Go.Proofs.Ytlcnmfgmgiijpaa
