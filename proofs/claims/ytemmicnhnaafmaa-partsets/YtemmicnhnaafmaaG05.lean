/- Bytes that no set tells apart: classes numbered as they are met; plain. -/
import Derived.Test.YtemmicnhnaafmaaG00
namespace Go.Proofs.Ytemmicnhnaafmaa.Pt

/-- a relation of likeness -/
structure Eqv (r : Nat → Nat → Bool) : Prop where
  refl : ∀ a, r a a = true
  symm : ∀ {a b}, r a b = true → r b a = true
  trans : ∀ {a b c}, r a b = true → r b c = true → r a c = true
def sameB (ss : List Oct.S) (a b : Nat) : Bool := ss.all fun s => s a == s b
theorem sameB_iff {ss : List Oct.S} {a b : Nat} : sameB ss a b = true ↔ ∀ s ∈ ss, s a = s b := by simp [sameB]
theorem sameB_eqv (ss : List Oct.S) : Eqv (sameB ss) where
  refl a := by rw [sameB_iff]; intro s _; rfl
  symm h := by rw [sameB_iff] at h ⊢; intro s hs; exact (h s hs).symm
  trans h h' := by rw [sameB_iff] at h h' ⊢; intro s hs; exact (h s hs).trans (h' s hs)
def isNew (r : Nat → Nat → Bool) (a : Nat) : Bool := (List.range a).all fun b => !r b a
theorem isNew_iff {r : Nat → Nat → Bool} {a : Nat} : isNew r a = true ↔ ∀ b, b < a → r b a = false := by simp [isNew]
def cnt (r : Nat → Nat → Bool) : Nat → Nat
  | 0 => 0
  | n + 1 => cnt r n + (if isNew r n then 1 else 0)
def rep (r : Nat → Nat → Bool) (b : Nat) : Nat := ((List.range (b + 1)).find? fun a => r a b).getD b
def cls (r : Nat → Nat → Bool) (b : Nat) : Nat := cnt r (rep r b)
theorem find_range {p : Nat → Bool} : ∀ {n a : Nat}, p a = true → (∀ b, b < a → p b = false) → a < n → (List.range n).find? p = some a := by
  intro n a h1 h2 h3
  rw [List.find?_eq_some_iff_getElem]
  refine ⟨h1, a, by simpa using h3, by simp, fun j hj => ?_⟩
  simp [h2 j hj]
theorem least {p : Nat → Bool} {b : Nat} (h : p b = true) : ∃ a, a ≤ b ∧ p a = true ∧ ∀ c, c < a → p c = false := by
  induction b using Nat.strongRecOn with
  | _ b ih =>
    by_cases hc : ∃ c, c < b ∧ p c = true
    · obtain ⟨c, h1, h2⟩ := hc
      obtain ⟨a, h3, h4, h5⟩ := ih c h1 h2
      exact ⟨a, by omega, h4, h5⟩
    · refine ⟨b, Nat.le_refl _, h, fun c hcb => ?_⟩
      cases hp : p c
      · rfl
      · exact absurd ⟨c, hcb, hp⟩ hc
variable {r : Nat → Nat → Bool}
theorem rep_of {a b : Nat} (hab : a ≤ b) (h : r a b = true) (hl : ∀ c, c < a → r c b = false) : rep r b = a := by
  unfold rep
  rw [find_range (p := fun x => r x b) h hl (by omega)]
  rfl
theorem rep_spec (E : Eqv r) (b : Nat) : rep r b ≤ b ∧ r (rep r b) b = true ∧ ∀ c, c < rep r b → r c b = false := by
  obtain ⟨a, h1, h2, h3⟩ := least (p := fun x => r x b) (E.refl b)
  rw [rep_of h1 h2 h3]
  exact ⟨h1, h2, h3⟩
theorem rep_eq (E : Eqv r) {a b : Nat} (h : r a b = true) : rep r a = rep r b := by
  obtain ⟨a1, a2, a3⟩ := rep_spec E a
  obtain ⟨b1, b2, b3⟩ := rep_spec E b
  rcases Nat.lt_trichotomy (rep r a) (rep r b) with hlt | he | hlt
  · have := b3 _ hlt
    rw [E.trans a2 h] at this
    cases this
  · exact he
  · have := a3 _ hlt
    rw [E.trans b2 (E.symm h)] at this
    cases this
theorem rep_new (E : Eqv r) (b : Nat) : isNew r (rep r b) = true := by
  obtain ⟨b1, b2, b3⟩ := rep_spec E b
  rw [isNew_iff]
  intro c hc
  cases h : r c (rep r b)
  · rfl
  · have := b3 c hc
    rw [E.trans h b2] at this
    cases this
theorem new_rep (E : Eqv r) {b : Nat} (h : isNew r b = true) : rep r b = b := rep_of (Nat.le_refl _) (E.refl b) (isNew_iff.1 h)
theorem cnt_mono {a b : Nat} (h : a ≤ b) : cnt r a ≤ cnt r b := by
  induction b with
  | zero => have : a = 0 := by omega
            subst this; exact Nat.le_refl _
  | succ n ih =>
    by_cases e : a = n + 1
    · subst e; exact Nat.le_refl _
    · have := ih (by omega)
      show cnt r a ≤ cnt r n + _
      omega
theorem cnt_lt {a b : Nat} (h : a < b) (hn : isNew r a = true) : cnt r a < cnt r b := by
  have h1 : cnt r (a + 1) = cnt r a + 1 := by show cnt r a + _ = _; rw [if_pos hn]
  have := cnt_mono (r := r) (show a + 1 ≤ b from h)
  omega
theorem cls_new (E : Eqv r) {b : Nat} (h : isNew r b = true) : cls r b = cnt r b := by unfold cls; rw [new_rep E h]
theorem cls_iff (E : Eqv r) (a b : Nat) : cls r a = cls r b ↔ r a b = true := by
  constructor
  · intro h
    unfold cls at h
    have ha := rep_spec E a
    have hb := rep_spec E b
    have : rep r a = rep r b := by
      rcases Nat.lt_trichotomy (rep r a) (rep r b) with hlt | he | hlt
      · have := cnt_lt hlt (rep_new E a); omega
      · exact he
      · have := cnt_lt hlt (rep_new E b); omega
    exact E.trans (E.symm ha.2.1) (by rw [this]; exact hb.2.1)
  · intro h
    unfold cls
    rw [rep_eq E h]
theorem cls_lt (E : Eqv r) {b n : Nat} (h : b < n) : cls r b < cnt r n := by
  have hb := rep_spec E b
  exact cnt_lt (Nat.lt_of_le_of_lt hb.1 h) (rep_new E b)
theorem cls_le (E : Eqv r) (b : Nat) : cls r b ≤ cnt r b := cnt_mono (rep_spec E b).1
theorem new_iff (E : Eqv r) (b : Nat) : isNew r b = true ↔ cls r b = cnt r b := by
  constructor
  · exact cls_new E
  · intro h
    unfold cls at h
    have hb := rep_spec E b
    by_cases e : rep r b = b
    · rw [← e]; exact rep_new E b
    · have := cnt_lt (r := r) (b := b) (by omega) (rep_new E b)
      omega
theorem old_ex (E : Eqv r) {b : Nat} (h : isNew r b = false) : ∃ a, a < b ∧ r a b = true ∧ isNew r a = true ∧ cls r b = cnt r a := by
  have hb := rep_spec E b
  refine ⟨rep r b, ?_, hb.2.1, rep_new E b, rfl⟩
  rcases Nat.lt_or_ge (rep r b) b with h1 | h1
  · exact h1
  · have : rep r b = b := by omega
    have h2 := rep_new E b
    rw [this, h] at h2
    cases h2
theorem cnt_le : ∀ n, cnt r n ≤ n
  | 0 => Nat.le_refl _
  | n + 1 => by have := cnt_le n; show cnt r n + _ ≤ _; split <;> omega
theorem cnt_pos : ∀ n, 0 < n → 0 < cnt r n := fun n h => by
  have := cnt_mono (r := r) (show 1 ≤ n from h)
  have e : cnt r 1 = 1 := by
    show 0 + _ = 1
    rw [if_pos (show isNew r 0 = true from rfl)]
  omega
/-- alike on the bytes -/
theorem isNew_congr {r' : Nat → Nat → Bool} {N b : Nat} (h : ∀ a b, a < N → b < N → r a b = r' a b) (hb : b < N) : isNew r b = isNew r' b := by
  rw [Bool.eq_iff_iff, isNew_iff, isNew_iff]
  exact ⟨fun h1 c hc => by rw [← h c b (by omega) hb]; exact h1 c hc, fun h1 c hc => by rw [h c b (by omega) hb]; exact h1 c hc⟩
theorem cnt_congr {r' : Nat → Nat → Bool} {N : Nat} (h : ∀ a b, a < N → b < N → r a b = r' a b) : ∀ n, n ≤ N → cnt r n = cnt r' n
  | 0, _ => rfl
  | n + 1, hn => by unfold cnt; rw [cnt_congr h n (by omega), isNew_congr h (b := n) (by omega)]
theorem cls_congr {r' : Nat → Nat → Bool} {N b : Nat} (E : Eqv r) (h : ∀ a b, a < N → b < N → r a b = r' a b) (hb : b < N) : cls r b = cls r' b := by
  obtain ⟨b1, b2, b3⟩ := rep_spec E b
  have e : rep r' b = rep r b := rep_of b1 (by rw [← h _ _ (by omega) hb]; exact b2) (fun c hc => by rw [← h _ _ (by omega) hb]; exact b3 c hc)
  unfold cls
  rw [e]
  exact cnt_congr h _ (by omega)
/-- the first bytes of the classes -/
def news (r : Nat → Nat → Bool) : Nat → List Nat
  | 0 => []
  | n + 1 => news r n ++ (if isNew r n then [n] else [])
theorem news_length : ∀ n, (news r n).length = cnt r n
  | 0 => rfl
  | n + 1 => by unfold news cnt; rw [List.length_append, news_length n]; split <;> rfl
theorem news_at : ∀ {n c a : Nat}, (news r n)[c]? = some a → a < n ∧ isNew r a = true ∧ cnt r a = c
  | 0, c, a, h => by simp [news] at h
  | n + 1, c, a, h => by
    unfold news at h
    rw [List.getElem?_append] at h
    split at h
    · obtain ⟨h1, h2, h3⟩ := news_at h
      exact ⟨by omega, h2, h3⟩
    · split at h
      · rename_i h1 h2
        rw [news_length] at h h1
        have e : c - cnt r n = 0 := by
          rcases Nat.eq_zero_or_pos (c - cnt r n) with e | e
          · exact e
          · rw [List.getElem?_eq_none (by simp; omega)] at h; cases h
        rw [e] at h
        simp at h
        subst h
        exact ⟨by omega, h2, by omega⟩
      · simp at h
theorem at_news : ∀ {n a : Nat}, a < n → isNew r a = true → (news r n)[cnt r a]? = some a
  | 0, a, h, _ => by omega
  | n + 1, a, h, hn => by
    unfold news
    by_cases e : a = n
    · subst e
      rw [if_pos hn, List.getElem?_append_right (by rw [news_length]; exact Nat.le_refl _), news_length]
      simp
    · rw [List.getElem?_append_left (by rw [news_length]; exact cnt_lt (by omega) hn)]
      exact at_news (by omega) hn
theorem news_only (E : Eqv r) {n c d a b : Nat} (h1 : (news r n)[c]? = some a) (h2 : r a b = true) (h3 : cls r b = d) : c = d := by
  obtain ⟨_, n2, n3⟩ := news_at h1
  have := (cls_iff E a b).2 h2
  rw [cls_new E n2] at this
  omega
/-- no set: one class -/
theorem cls_one (b : Nat) : cls (sameB []) b = 0 := by
  unfold cls
  rw [rep_of (Nat.zero_le b) rfl (fun c hc => by omega)]
  rfl
theorem cnt_one : cnt (sameB []) 256 = 1 := by
  have : ∀ n, cnt (sameB []) (n + 1) = 1 := by
    intro n
    induction n with
    | zero => rfl
    | succ n ih =>
      show cnt (sameB []) (n + 1) + _ = 1
      rw [ih, if_neg]
      intro h
      have := isNew_iff.1 h 0 (by omega)
      cases this
  exact this 255
/-- which of the sets have a byte, as a word -/
def wordB : List Oct.S → Nat → Nat
  | [], _ => 0
  | s :: ss, b => (if s b then 1 else 0) + 2 * wordB ss b
theorem wordB_eq : ∀ (ss : List Oct.S) (a b : Nat), wordB ss a = wordB ss b ↔ sameB ss a b = true
  | [], a, b => by simp [wordB, sameB]
  | s :: ss, a, b => by
    have ih := wordB_eq ss a b
    unfold wordB
    have e : sameB (s :: ss) a b = (s a == s b && sameB ss a b) := by simp [sameB]
    rw [e, Bool.and_eq_true, ← ih]
    cases s a <;> cases s b <;> simp <;> omega
theorem wordB_lt : ∀ (ss : List Oct.S) (b : Nat), wordB ss b < 2 ^ ss.length
  | [], b => by simp [wordB]
  | s :: ss, b => by
    have := wordB_lt ss b
    unfold wordB
    rw [List.length_cons, Nat.pow_succ]
    cases s b <;> simp <;> omega
theorem wordB_snoc : ∀ (ss : List Oct.S) (s : Oct.S) (b : Nat), wordB (ss ++ [s]) b = wordB ss b + (if s b then 2 ^ ss.length else 0)
  | [], s, b => by simp [wordB]
  | t :: ss, s, b => by
    rw [List.cons_append]
    unfold wordB
    rw [wordB_snoc ss s b, List.length_cons, Nat.pow_succ]
    cases s b <;> simp <;> omega
theorem or_pow {x k : Nat} (h : x < 2 ^ k) : x ||| 2 ^ k = x + 2 ^ k := Oct.or_add (Nat.testBit_lt_two_pow h)
/-- with one set more -/
theorem cnt_fine {r' : Nat → Nat → Bool} (h : ∀ a b, r' a b = true → r a b = true) : ∀ n, cnt r n ≤ cnt r' n
  | 0 => Nat.le_refl _
  | n + 1 => by
    have ih := cnt_fine h n
    unfold cnt
    by_cases hn : isNew r n = true
    · have : isNew r' n = true := by
        rw [isNew_iff] at hn ⊢
        intro b hb
        cases e : r' b n
        · rfl
        · have := hn b hb
          rw [h _ _ e] at this
          cases this
      rw [if_pos hn, if_pos this]
      omega
    · rw [if_neg hn]
      omega
theorem pig : ∀ (M : Nat) (L : List Nat), L.Nodup → (∀ x ∈ L, x < M) → L.length ≤ M
  | 0, L, _, h => by
    cases L with
    | nil => exact Nat.le_refl _
    | cons x L => have := h x (by simp); omega
  | M + 1, L, hd, h => by
    have h1 := pig M (L.erase M) (hd.erase M) (fun x hx => by
      have h2 := h x (List.mem_of_mem_erase hx)
      have h3 : x ≠ M := fun e => by
        subst e
        exact (List.Nodup.not_mem_erase hd) hx
      omega)
    have : L.length ≤ (L.erase M).length + 1 := by
      rw [List.length_erase]
      split <;> omega
    omega
/-- one set more at most doubles the classes -/
theorem cnt_double {s : Oct.S} {r' : Nat → Nat → Bool} (E : Eqv r) (h : ∀ a b, r' a b = (r a b && s a == s b)) (n : Nat) : cnt r' n ≤ 2 * cnt r n := by
  have E' : ∀ {a b}, r a b = true → s a = s b → r' a b = true := fun {a b} h1 h2 => by rw [h, h1, h2]; simp
  let L := (List.range n).filter fun a => isNew r' a && !isNew r a
  have hL : ∀ m, cnt r' m ≤ cnt r m + ((List.range m).filter fun a => isNew r' a && !isNew r a).length := by
    intro m
    induction m with
    | zero => exact Nat.zero_le _
    | succ m ih =>
      unfold cnt
      rw [List.range_succ, List.filter_append, List.length_append]
      cases h1 : isNew r' m <;> cases h2 : isNew r m <;> simp [h1, h2] <;> omega
  have hM : (L.map (cls r)).length ≤ cnt r n := by
    refine pig _ _ ?_ ?_
    · refine List.pairwise_map.2 (List.Pairwise.imp_of_mem ?_ ((List.nodup_range (n := n)).filter _))
      intro a b ha hb hne0 hab
      refine hne0 ?_
      rw [List.mem_filter, Bool.and_eq_true] at ha hb
      simp only [Bool.not_eq_true', List.mem_range] at ha hb
      have hr := (cls_iff E a b).1 hab
      obtain ⟨c, c1, c2, c3, c4⟩ := old_ex E ha.2.2
      obtain ⟨d, d1, d2, d3, d4⟩ := old_ex E hb.2.2
      have hcd : c = d := by
        have e1 : cls r c = cls r d := by rw [cls_new E c3, cls_new E d3]; omega
        have := (cls_iff E c d).1 e1
        rcases Nat.lt_trichotomy c d with hlt | he | hlt
        · have h9 := isNew_iff.1 d3 c hlt; rw [this] at h9; cases h9
        · exact he
        · have h9 := isNew_iff.1 c3 d hlt; rw [E.symm this] at h9; cases h9
      subst hcd
      have sa : s c ≠ s a := fun e => by
        have := isNew_iff.1 ha.2.1 c c1
        rw [E' c2 e] at this; cases this
      have sb : s c ≠ s b := fun e => by
        have := isNew_iff.1 hb.2.1 c d1
        rw [E' d2 e] at this; cases this
      have sab : s a = s b := by revert sa sb; cases s a <;> cases s b <;> cases s c <;> simp
      rcases Nat.lt_trichotomy a b with hlt | he | hlt
      · have h9 := isNew_iff.1 hb.2.1 a hlt; rw [E' hr sab] at h9; cases h9
      · exact he
      · have h9 := isNew_iff.1 ha.2.1 b hlt; rw [E' (E.symm hr) sab.symm] at h9; cases h9
    · intro x hx
      rw [List.mem_map] at hx
      obtain ⟨a, ha, rfl⟩ := hx
      rw [List.mem_filter, List.mem_range] at ha
      exact cls_lt E ha.1
  have := hL n
  rw [List.length_map] at hM
  have e : L.length = ((List.range n).filter fun a => isNew r' a && !isNew r a).length := rfl
  omega
/-- the bytes of a class -/
def memb (f : Nat → Int) (c : Int) : Oct.S := fun b => decide (b < 256) && decide (f b = c)
def sumTo (g : Nat → Nat) : Nat → Nat
  | 0 => 0
  | n + 1 => sumTo g n + g n
theorem sum_count (f : Nat → Nat) (L : List Nat) : ∀ m, sumTo (fun c => (L.filter fun b => f b == c).length) m = (L.filter fun b => decide (f b < m)).length
  | 0 => by
    show 0 = _
    rw [List.filter_eq_nil_iff.2 (fun b _ => by simp)]
    rfl
  | m + 1 => by
    unfold sumTo
    rw [sum_count f L m]
    induction L with
    | nil => rfl
    | cons x L ih =>
      have ih := ih
      simp only [List.filter_cons]
      by_cases h1 : f x < m
      · have h2 : f x < m + 1 := by omega
        have h3 : ¬ f x = m := by omega
        simp [h1, h2, h3]; omega
      · by_cases h3 : f x = m
        · have h2 : f x < m + 1 := by omega
          simp [h3]; omega
        · have h2 : ¬ f x < m + 1 := by omega
          simp [h1, h2, h3]; omega
end Go.Proofs.Ytemmicnhnaafmaa.Pt
