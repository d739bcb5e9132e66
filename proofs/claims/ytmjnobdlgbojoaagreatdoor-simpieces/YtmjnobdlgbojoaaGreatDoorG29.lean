
import Derived.Test.YtmjnobdlgbojoaaGreatDoorG28
import Derived.Test.YtmjnobdlgbojoaaGreatDoorG17
namespace Go.Proofs.YtmjnobdlgbojoaaGreatDoor
def Moves (line : ByteArray) (e : Eg) (i j : Nat) : Prop :=
  (e.k = 1 ∧ j = i) ∨ (e.k = 3 ∧ i = 0 ∧ j = i) ∨ (e.k = 4 ∧ i = line.size ∧ j = i) ∨ (e.k = 2 ∧ i < line.size ∧ e.s (byt line i) = true ∧ j = i + 1)
inductive Path (line : ByteArray) (es : List Eg) (a : Int) (i : Nat) : Int → Nat → Prop
  | refl : Path line es a i a i
  | snoc {q : Int} {j : Nat} (h : Path line es a i q j) (e : Eg) (he : e ∈ es) (hf : e.f = q) (k : Nat) (hm : Moves line e j k) : Path line es a i e.t k
section
variable {line : ByteArray}
theorem Path.mono {es fs : List Eg} {a : Int} {i : Nat} {q : Int} {j : Nat} (h : Path line es a i q j) (hs : ∀ e ∈ es, e ∈ fs) : Path line fs a i q j := by
  induction h with
  | refl => exact .refl
  | snoc _ e he hf k hm ih => exact ih.snoc e (hs e he) hf k hm
theorem Path.trans {es : List Eg} {a b c : Int} {i j k : Nat} (h : Path line es a i b j) (h2 : Path line es b j c k) : Path line es a i c k := by
  induction h2 with
  | refl => exact h
  | snoc _ e he hf k hm ih => exact ih.snoc e he hf k hm
def Into (es : List Eg) (a lo hi : Int) : Prop := ∀ e ∈ es, (e.f = a ∨ lo ≤ e.f ∧ e.f < hi) ∧ lo ≤ e.t ∧ e.t < hi
theorem Into.append {E F : List Eg} {a b lo mid hi : Int} (h : Into E a lo mid) (h2 : Into F b mid hi) (hb : b = a ∨ lo ≤ b ∧ b < mid) (h1 : lo ≤ mid) (h3 : mid ≤ hi) : Into (E ++ F) a lo hi := by
  intro e he
  rcases List.mem_append.1 he with he | he
  · have := h e he; omega
  · have := h2 e he; omega
theorem into_nil (a lo hi : Int) : Into [] a lo hi := fun e he => by cases he
theorem path_nil {a : Int} {i : Nat} {q : Int} {j : Nat} (h : Path line [] a i q j) : q = a ∧ j = i := by
  cases h with
  | refl => exact ⟨rfl, rfl⟩
  | snoc _ e he => cases he
theorem path_self {es : List Eg} {a lo hi : Int} (hi1 : Into es a lo hi) (ha : a < lo) {i : Nat} {j : Nat} (h : Path line es a i a j) : j = i := by
  generalize hq : a = q at h
  cases h with
  | refl => rfl
  | snoc _ e he => have := (hi1 e he).2.1; omega
theorem path_cut {E F : List Eg} {a z lo mid hi : Int} (h1 : Into E a lo mid) (h2 : Into F z mid hi) (ha : a < lo) (hl : lo ≤ mid) (hz : z = a ∨ lo ≤ z ∧ z < mid) {i : Nat} {q : Int} {j : Nat} (h : Path line (E ++ F) a i q j) :
    (¬ (mid ≤ q ∧ q < hi) ∧ Path line E a i q j) ∨ ((mid ≤ q ∧ q < hi) ∧ ∃ k, Path line E a i z k ∧ Path line F z k q j) := by
  induction h with
  | refl => exact Or.inl ⟨by omega, .refl⟩
  | @snoc q j hp e he hf k hm ih =>
    rcases List.mem_append.1 he with he | he
    · have hb := h1 e he
      rcases ih with ⟨_, ih⟩ | ⟨ih, _⟩
      · exact Or.inl ⟨by omega, ih.snoc e he hf k hm⟩
      · exfalso; omega
    · have hb := h2 e he
      refine Or.inr ⟨by omega, ?_⟩
      rcases ih with ⟨hn, ih⟩ | ⟨_, k', ih1, ih2⟩
      · have hq : q = z := by omega
        subst hq
        exact ⟨j, ih, Path.refl.snoc e he hf k hm⟩
      · exact ⟨k', ih1, ih2.snoc e he hf k hm⟩
theorem path_seq {E F : List Eg} {a z y lo mid hi : Int} (h1 : Into E a lo mid) (h2 : Into F z mid hi) (ha : a < lo) (hl : lo ≤ mid) (hz : z = a ∨ lo ≤ z ∧ z < mid) (hy : y = z ∨ mid ≤ y ∧ y < hi) {i j : Nat} :
    Path line (E ++ F) a i y j ↔ ∃ k, Path line E a i z k ∧ Path line F z k y j := by
  constructor
  · intro h
    rcases path_cut h1 h2 ha hl hz h with ⟨hn, h⟩ | ⟨_, h⟩
    · have e : y = z := by omega
      subst e
      exact ⟨j, h, .refl⟩
    · exact h
  · rintro ⟨k, g1, g2⟩
    exact (g1.mono (fun e he => by simp [he])).trans (g2.mono (fun e he => by simp [he]))
theorem path_first {E F : List Eg} {a z lo mid hi : Int} (h1 : Into E a lo mid) (h2 : Into F z mid hi) (ha : a < lo) (hl : lo ≤ mid) (hz : z = a ∨ lo ≤ z ∧ z < mid) {i : Nat} {q : Int} (hq : q < mid) {j : Nat} : Path line (E ++ F) a i q j ↔ Path line E a i q j := by
  constructor
  · intro h
    rcases path_cut h1 h2 ha hl hz h with ⟨_, h⟩ | ⟨h, _⟩
    · exact h
    · exfalso; omega
  · exact fun h => h.mono (fun e he => by simp [he])
theorem path_fan {E F : List Eg} {a lo mid hi : Int} (h1 : Into E a lo mid) (h2 : Into F a mid hi) (ha : a < lo) {i : Nat} {q : Int} {j : Nat} (h : Path line (E ++ F) a i q j) :
    (q = a ∧ j = i) ∨ ((lo ≤ q ∧ q < mid) ∧ Path line E a i q j) ∨ ((mid ≤ q ∧ q < hi) ∧ Path line F a i q j) := by
  induction h with
  | refl => exact Or.inl ⟨rfl, rfl⟩
  | @snoc q j hp e he hf k hm ih =>
    rcases List.mem_append.1 he with he | he
    · have hb := h1 e he
      refine Or.inr (Or.inl ⟨hb.2, ?_⟩)
      rcases ih with ⟨hq, hj⟩ | ⟨hq, ih⟩ | ⟨hq, _⟩
      · subst hj
        exact Path.refl.snoc e he (hf.trans hq) k hm
      · exact ih.snoc e he hf k hm
      · exfalso; omega
    · have hb := h2 e he
      refine Or.inr (Or.inr ⟨hb.2, ?_⟩)
      rcases ih with ⟨hq, hj⟩ | ⟨hq, _⟩ | ⟨hq, ih⟩
      · subst hj
        exact Path.refl.snoc e he (hf.trans hq) k hm
      · exfalso; omega
      · exact ih.snoc e he hf k hm
structure Lays (line : ByteArray) (es : List Eg) (a z lo hi : Int) (T : Nat → Nat → Prop) : Prop where
  out : a < lo
  le : lo ≤ hi
  into : Into es a lo hi
  fin : z = a ∨ lo ≤ z ∧ z < hi
  path : ∀ i j, Path line es a i z j ↔ T i j
theorem Lays.congr {es : List Eg} {a z lo hi : Int} {T T' : Nat → Nat → Prop} (h : Lays line es a z lo hi T) (hT : ∀ i j, T i j ↔ T' i j) : Lays line es a z lo hi T' := ⟨h.out, h.le, h.into, h.fin, fun i j => (h.path i j).trans (hT i j)⟩
theorem lays_nil {a lo : Int} (h : a < lo) : Lays line [] a a lo lo (fun i j => j = i) :=
  ⟨h, Int.le_refl _, into_nil _ _ _, Or.inl rfl, fun i j => ⟨fun h => (path_nil h).2, fun h => by subst h; exact .refl⟩⟩
theorem lays_edge {a lo : Int} (h : a < lo) (k : Int) (s : Oct.S) : Lays line [⟨k, a, lo, s⟩] a lo lo (lo + 1) (Moves line ⟨k, a, lo, s⟩) := by
  refine ⟨h, by omega, fun e he => ?_, Or.inr ⟨by omega, by omega⟩, fun i j => ⟨fun hp => ?_, fun hm => Path.refl.snoc _ (by simp) rfl j hm⟩⟩
  · simp at he; subst he; simp; omega
  · have key : ∀ {q : Int} {j : Nat}, Path line [⟨k, a, lo, s⟩] a i q j → (q = a ∧ j = i) ∨ (q = lo ∧ Moves line ⟨k, a, lo, s⟩ i j) := by
      intro q j hp
      induction hp with
      | refl => exact Or.inl ⟨rfl, rfl⟩
      | @snoc q j hp e he hf k' hm ih =>
        simp at he
        subst he
        simp only at hf
        rcases ih with ⟨_, hj⟩ | ⟨hq, _⟩
        · subst hj
          exact Or.inr ⟨rfl, hm⟩
        · exfalso; omega
    rcases key hp with ⟨h1, _⟩ | ⟨_, h1⟩
    · exfalso; omega
    · exact h1
theorem Lays.seq {E F : List Eg} {a z y lo mid hi : Int} {T U : Nat → Nat → Prop} (h : Lays line E a z lo mid T) (h2 : Lays line F z y mid hi U) : Lays line (E ++ F) a y lo hi (fun i j => ∃ k, T i k ∧ U k j) := by
  refine ⟨h.out, Int.le_trans h.le h2.le, h.into.append h2.into h.fin h.le h2.le, ?_, fun i j => ?_⟩
  · have h1 := h.fin
    have h3 := h2.fin
    have h4 := h.le
    have h5 := h2.le
    omega
  · rw [path_seq h.into h2.into h.out h.le h.fin h2.fin]
    constructor
    · rintro ⟨k, g1, g2⟩; exact ⟨k, (h.path i k).1 g1, (h2.path k j).1 g2⟩
    · rintro ⟨k, g1, g2⟩; exact ⟨k, (h.path i k).2 g1, (h2.path k j).2 g2⟩
def powR (T : Nat → Nat → Prop) : Nat → Nat → Nat → Prop
  | 0, i, j => j = i
  | n + 1, i, j => ∃ k, T i k ∧ powR T n k j
theorem powR_add (T : Nat → Nat → Prop) : ∀ (m n i j : Nat), powR T (m + n) i j ↔ ∃ k, powR T m i k ∧ powR T n k j
  | 0, n, i, j => by
    rw [Nat.zero_add]
    constructor
    · exact fun h => ⟨i, rfl, h⟩
    · rintro ⟨k, hk, h⟩
      have hk : k = i := hk
      subst hk
      exact h
  | m + 1, n, i, j => by
    rw [Nat.succ_add]
    constructor
    · rintro ⟨k, h1, h2⟩
      obtain ⟨k', h3, h4⟩ := (powR_add T m n k j).1 h2
      exact ⟨k', ⟨k, h1, h3⟩, h4⟩
    · rintro ⟨k', ⟨k, h1, h3⟩, h4⟩
      exact ⟨k, h1, (powR_add T m n k j).2 ⟨k', h3, h4⟩⟩
theorem powR_one (T : Nat → Nat → Prop) (i j : Nat) : powR T 1 i j ↔ T i j := by
  constructor
  · rintro ⟨k, h1, h2⟩
    have h2 : j = k := h2
    subst h2
    exact h1
  · exact fun h => ⟨j, h, rfl⟩
theorem powR_eq {T : Nat → Nat → Prop} (h : ∀ i j, T i j ↔ j = i) : ∀ (n i j : Nat), powR T n i j ↔ j = i
  | 0, _, _ => Iff.rfl
  | n + 1, i, j => by
    constructor
    · rintro ⟨k, h1, h2⟩
      have e1 := (h i k).1 h1
      have e2 := (powR_eq h n k j).1 h2
      omega
    · rintro rfl
      exact ⟨j, (h j j).2 rfl, (powR_eq h n j j).2 rfl⟩
def FP (line : ByteArray) (F : Mk → Nat → Mk × Nat) (T : Nat → Nat → Prop) : Prop := ∀ (m : Mk) (a : Nat), a < m.S → ∃ es, (F m a).1.es = m.es ++ es ∧ Lays line es a (F m a).2 m.S (F m a).1.S T
theorem Lays.lt {es : List Eg} {a z : Nat} {lo hi : Nat} {T : Nat → Nat → Prop} (h : Lays line es a z lo hi T) : z < hi := by
  have h1 := h.fin
  have h2 := h.out
  have h3 := h.le
  omega
theorem rounds_fp {F : Mk → Nat → Mk × Nat} {T : Nat → Nat → Prop} (h : FP line F T) : ∀ n : Nat, FP line (fun m a => rounds F n (m, a)) (powR T n)
  | 0 => fun m a ha => ⟨[], by simp [rounds], lays_nil (by omega)⟩
  | n + 1 => fun m a ha => by
    obtain ⟨E, e1, l1⟩ := h m a ha
    obtain ⟨E2, e2, l2⟩ := rounds_fp h n (F m a).1 (F m a).2 l1.lt
    simp only at e2 l2
    refine ⟨E ++ E2, ?_, ?_⟩
    · show (rounds F n (F m a)).1.es = _
      rw [e2, e1, List.append_assoc]
    · exact l1.seq l2
theorem tails_fp {F : Mk → Nat → Mk × Nat} {T : Nat → Nat → Prop} (h : FP line F T) : ∀ (n : Nat) (m : Mk) (a : Nat) (l : List Nat), a < m.S → ∃ es zs, (tails F n (m, a) l).1.es = m.es ++ es ∧ (tails F n (m, a) l).2 = l ++ zs ∧ zs.length = n ∧ m.S ≤ (tails F n (m, a) l).1.S ∧ Into es a m.S (tails F n (m, a) l).1.S ∧
      ∀ (k z : Nat), zs[k]? = some z → (z = a ∨ m.S ≤ z ∧ z < (tails F n (m, a) l).1.S) ∧ ∀ i j, Path line es a i z j ↔ powR T (k + 1) i j
  | 0, m, a, l, _ => ⟨[], [], by simp [tails], by simp [tails], rfl, Nat.le_refl _, into_nil _ _ _, fun k z h => by simp at h⟩
  | n + 1, m, a, l, ha => by
    obtain ⟨E, e1, l1⟩ := h m a ha
    obtain ⟨m1, z1, hF⟩ : ∃ m1 z1, F m a = (m1, z1) := ⟨_, _, rfl⟩
    have ht : tails F (n + 1) (m, a) l = tails F n (m1, z1) (l ++ [z1]) := by show tails F n (F m a) (l ++ [(F m a).2]) = _; rw [hF]
    rw [hF] at e1 l1
    simp only at e1 l1
    rw [ht]
    obtain ⟨E2, zs, e2, e3, e4, e5, e6, e7⟩ := tails_fp h n m1 z1 (l ++ [z1]) l1.lt
    obtain ⟨R, hR⟩ : ∃ R, tails F n (m1, z1) (l ++ [z1]) = R := ⟨_, rfl⟩
    rw [hR] at e2 e3 e5 e6 e7 ⊢
    have hle := l1.le
    have hfin := l1.fin
    have hlt := l1.lt
    refine ⟨E ++ E2, z1 :: zs, ?_, ?_, by simp [e4], ?_, ?_, ?_⟩
    · rw [e2, e1, List.append_assoc]
    · rw [e3]
      simp
    · omega
    · exact l1.into.append e6 hfin hle (by omega)
    · intro k z hz
      cases k with
      | zero =>
        simp at hz
        subst hz
        refine ⟨by omega, fun i j => ?_⟩
        rw [path_first l1.into e6 l1.out hle hfin (by omega), l1.path, powR_one]
      | succ k =>
        obtain ⟨g1, g2⟩ := e7 k z (by simpa using hz)
        refine ⟨by omega, fun i j => ?_⟩
        rw [path_seq l1.into e6 l1.out hle hfin (by omega)]
        constructor
        · rintro ⟨x, p1, p2⟩; exact ⟨x, (l1.path i x).1 p1, (g2 x j).1 p2⟩
        · rintro ⟨x, p1, p2⟩; exact ⟨x, (l1.path i x).2 p1, (g2 x j).2 p2⟩
def freeE (a b : Nat) : Eg := ⟨1, a, b, Oct.none⟩
theorem frees_es : ∀ (l : List Nat) (s : Nat) (m : Mk), (frees l s m).es = m.es ++ l.map (fun a => freeE a s)
  | [], _, m => by simp [frees]
  | a :: l, s, m => by
    rw [frees, frees_es l s]
    simp [Mk.fr, Mk.ed, freeE]
theorem moves_free (a b : Nat) (i j : Nat) : Moves line (freeE a b) i j ↔ j = i := by
  unfold Moves freeE
  simp
theorem path_join {E : List Eg} {a lo : Int} {s : Nat} {l : List Nat} (h1 : Into E a lo s) (ha : a < lo) (hl : lo ≤ (s : Nat)) (hz : ∀ z ∈ l, (z : Int) = a ∨ lo ≤ (z : Nat) ∧ z < s) {i : Nat} {q : Int} {j : Nat} (h : Path line (E ++ l.map (fun z => freeE z s)) a i q j) :
    (q < (s : Nat) ∧ Path line E a i q j) ∨ (q = (s : Nat) ∧ ∃ z ∈ l, Path line E a i (z : Nat) j) := by
  induction h with
  | refl => exact Or.inl ⟨by omega, .refl⟩
  | @snoc q j hp e he hf k hm ih =>
    rcases List.mem_append.1 he with he | he
    · have hb := h1 e he
      rcases ih with ⟨_, ih⟩ | ⟨ih, _⟩
      · exact Or.inl ⟨by omega, ih.snoc e he hf k hm⟩
      · exfalso; omega
    · obtain ⟨z, hzl, rfl⟩ := List.mem_map.1 he
      have hk := (moves_free z s j k).1 hm
      subst hk
      refine Or.inr ⟨rfl, z, hzl, ?_⟩
      have hzz := hz z hzl
      have hq : q = (z : Nat) := hf.symm
      subst hq
      rcases ih with ⟨_, ih⟩ | ⟨ih, _⟩
      · exact ih
      · exfalso; omega
theorem lays_join {E : List Eg} {a lo : Int} {s : Nat} {l : List Nat} (h1 : Into E a lo s) (ha : a < lo) (hl : lo ≤ (s : Nat)) (hz : ∀ z ∈ l, (z : Int) = a ∨ lo ≤ (z : Nat) ∧ z < s) : Lays line (E ++ l.map (fun z => freeE z s)) a (s : Nat) lo ((s + 1 : Nat) : Int) (fun i j => ∃ z ∈ l, Path line E a i (z : Nat) j) := by
  refine ⟨ha, by omega, fun e he => ?_, Or.inr ⟨hl, by omega⟩, fun i j => ⟨fun h => ?_, fun h => ?_⟩⟩
  · rcases List.mem_append.1 he with he | he
    · have := h1 e he; omega
    · obtain ⟨z, hzl, rfl⟩ := List.mem_map.1 he
      have := hz z hzl
      simp only [freeE]
      omega
  · rcases path_join h1 ha hl hz h with ⟨h2, _⟩ | ⟨_, h2⟩
    · omega
    · exact h2
  · obtain ⟨z, hzl, hp⟩ := h
    exact (hp.mono (fun e he => by simp [he])).snoc (freeE z s) (List.mem_append.2 (Or.inr (List.mem_map.2 ⟨z, hzl, rfl⟩))) rfl j ((moves_free z s j j).2 rfl)
theorem lays_again {E : List Eg} {c e' l s : Nat} {T : Nat → Nat → Prop} (hc : c < l) (h : Lays line E l e' ((l + 1 : Nat) : Int) s T) : Lays line ([freeE c l] ++ E ++ [freeE e' l] ++ [freeE l s]) c s l ((s + 1 : Nat) : Int) (fun i j => ∃ n, powR T n i j) := by
  have hle := h.le
  have hfin := h.fin
  have key : ∀ {i : Nat} {q : Int} {j : Nat}, Path line ([freeE c l] ++ E ++ [freeE e' l] ++ [freeE l s]) c i q j →
      (q = (c : Nat) ∧ j = i) ∨ ((l : Nat) ≤ q ∧ q < (s : Nat) ∧ ∃ n k, powR T n i k ∧ Path line E l k q j) ∨ (q = (s : Nat) ∧ ∃ n, powR T n i j) := by
    intro i q j hp
    induction hp with
    | refl => exact Or.inl ⟨rfl, rfl⟩
    | @snoc q j hp e he hf k hm ih =>
      simp only [List.mem_append, List.mem_cons, List.not_mem_nil, or_false] at he
      rcases he with ((he | he) | he) | he
      · subst he
        have hk := (moves_free c l j k).1 hm
        have hq : q = (c : Nat) := hf.symm
        subst hk hq
        refine Or.inr (Or.inl ⟨Int.le_refl _, by simp only [freeE]; omega, 0, k, ?_, .refl⟩)
        rcases ih with ⟨_, hj⟩ | ⟨h1, _⟩ | ⟨h1, _⟩
        · exact hj
        · exfalso; omega
        · exfalso; omega
      · have hb := h.into e he
        refine Or.inr (Or.inl ⟨by omega, by omega, ?_⟩)
        rcases ih with ⟨h1, _⟩ | ⟨_, _, n, k', g1, g2⟩ | ⟨h1, _⟩
        · exfalso; omega
        · exact ⟨n, k', g1, g2.snoc e he hf k hm⟩
        · exfalso; omega
      · subst he
        have hk := (moves_free e' l j k).1 hm
        have hq : q = (e' : Nat) := hf.symm
        subst hk hq
        refine Or.inr (Or.inl ⟨Int.le_refl _, by simp only [freeE]; omega, ?_⟩)
        rcases ih with ⟨h1, _⟩ | ⟨_, _, n, k', g1, g2⟩ | ⟨h1, _⟩
        · exfalso; omega
        · exact ⟨n + 1, k, (powR_add T n 1 i k).2 ⟨k', g1, (powR_one T k' k).2 ((h.path k' k).1 g2)⟩, .refl⟩
        · exfalso; omega
      · subst he
        have hk := (moves_free l s j k).1 hm
        have hq : q = (l : Nat) := hf.symm
        subst hk hq
        refine Or.inr (Or.inr ⟨rfl, ?_⟩)
        rcases ih with ⟨h1, _⟩ | ⟨_, _, n, k', g1, g2⟩ | ⟨h1, _⟩
        · exfalso; omega
        · have := path_self h.into h.out g2
          subst this
          exact ⟨n, g1⟩
        · exfalso; omega
  have loop : ∀ (n : Nat) {i j : Nat}, powR T n i j → Path line ([freeE c l] ++ E ++ [freeE e' l] ++ [freeE l s]) l i l j := by
    intro n
    induction n with
    | zero => intro i j hj; have hj : j = i := hj; subst hj; exact .refl
    | succ n ih =>
      rintro i j ⟨k, g1, g2⟩
      have p1 := ((h.path i k).2 g1).mono (fs := [freeE c l] ++ E ++ [freeE e' l] ++ [freeE l s]) (fun e he => by simp [he])
      exact (p1.snoc (freeE e' l) (by simp) rfl k ((moves_free e' l k k).2 rfl)).trans (ih g2)
  refine ⟨by omega, by omega, fun e he => ?_, Or.inr ⟨by omega, by omega⟩, fun i j => ⟨fun hp => ?_, fun ⟨n, hn⟩ => ?_⟩⟩
  · simp only [List.mem_append, List.mem_cons, List.not_mem_nil, or_false] at he
    rcases he with ((he | he) | he) | he
    · subst he
      exact ⟨Or.inl rfl, Int.le_refl _, by show ((l : Nat) : Int) < _; omega⟩
    · have := h.into e he; omega
    · subst he
      exact ⟨Or.inr ⟨by show ((l : Nat) : Int) ≤ ((e' : Nat) : Int); omega, by show ((e' : Nat) : Int) < _; omega⟩, Int.le_refl _, by show ((l : Nat) : Int) < _; omega⟩
    · subst he
      exact ⟨Or.inr ⟨Int.le_refl _, by show ((l : Nat) : Int) < _; omega⟩, by show ((l : Nat) : Int) ≤ ((s : Nat) : Int); omega, by show ((s : Nat) : Int) < _; omega⟩
  · rcases key hp with ⟨h1, _⟩ | ⟨_, h1, _⟩ | ⟨_, h1⟩
    · omega
    · omega
    · exact h1
  · have p0 : Path line ([freeE c l] ++ E ++ [freeE e' l] ++ [freeE l s]) c i l i := Path.refl.snoc (freeE c l) (by simp) rfl i ((moves_free c l i i).2 rfl)
    exact (p0.trans (loop n hn)).snoc (freeE l s) (by simp) rfl j ((moves_free l s j j).2 rfl)
theorem again_fp {F : Mk → Nat → Mk × Nat} {T : Nat → Nat → Prop} (h : FP line F T) : FP line (fun m a => again F (m, a)) (fun i j => ∃ n, powR T n i j) := by
  intro m a ha
  obtain ⟨E, e1, l1⟩ := h (m.st.fr a m.S) m.S (by simp [Mk.st, Mk.fr, Mk.ed])
  refine ⟨[freeE a m.S] ++ E ++ [freeE (F (m.st.fr a m.S) m.S).2 m.S] ++ [freeE m.S (F (m.st.fr a m.S) m.S).1.S], ?_, ?_⟩
  · unfold again
    simp only [Mk.fr, Mk.ed, Mk.st] at e1 ⊢
    rw [e1]
    simp [freeE]
  · unfold again
    exact lays_again ha l1
end
end Go.Proofs.YtmjnobdlgbojoaaGreatDoor


namespace Go.Proofs.YtmjnobdlgbojoaaGreatDoor
mutual
def Tk (line : ByteArray) : Tn → Nat → Nat → Prop
  | .mk k s subs mn mx, i, j =>
    if k = 1 then j = i
    else if k = 2 then i < line.size ∧ s (byt line i) = true ∧ j = i + 1
    else if k = 3 then TkS line subs i j
    else if k = 4 then TkA line subs i j
    else if k = 5 then ∃ n : Nat, mn ≤ n ∧ (mx = -1 ∨ (n : Int) ≤ mx) ∧ powR (TkH line subs) n i j
    else if k = 6 then i = 0 ∧ j = i
    else if k = 7 then i = line.size ∧ j = i
    else False
def TkS (line : ByteArray) : List Tn → Nat → Nat → Prop
  | [], i, j => j = i
  | t :: ts, i, j => ∃ k, Tk line t i k ∧ TkS line ts k j
def TkA (line : ByteArray) : List Tn → Nat → Nat → Prop
  | [], _, _ => False
  | t :: ts, i, j => Tk line t i j ∨ TkA line ts i j
def TkH (line : ByteArray) : List Tn → Nat → Nat → Prop
  | [], _, _ => False
  | t :: _, i, j => Tk line t i j
end
section
variable {line : ByteArray}
theorem FP.congr {F : Mk → Nat → Mk × Nat} {T T' : Nat → Nat → Prop} (h : FP line F T) (hT : ∀ i j, T i j ↔ T' i j) : FP line F T' := fun m a ha => by
  obtain ⟨es, h1, h2⟩ := h m a ha
  exact ⟨es, h1, h2.congr hT⟩
theorem FP.then {F : Mk → Nat → Mk × Nat} {T U : Nat → Nat → Prop} {G : Mk × Nat → Mk × Nat} (h : FP line F T) (h2 : FP line (fun m a => G (m, a)) U) : FP line (fun m a => G (F m a)) (fun i j => ∃ k, T i k ∧ U k j) := fun m a ha => by
  obtain ⟨E, e1, l1⟩ := h m a ha
  obtain ⟨E2, e2, l2⟩ := h2 (F m a).1 (F m a).2 l1.lt
  exact ⟨E ++ E2, by simp only at e2 ⊢; rw [e2, e1, List.append_assoc], l1.seq l2⟩
theorem leaf_fp (k : Int) (s : Oct.S) {T : Nat → Nat → Prop} (hT : ∀ (a b : Int) (i j : Nat), Moves line ⟨k, a, b, s⟩ i j ↔ T i j) : FP line (fun m a => (m.st.ed ⟨k, a, m.S, s⟩, m.S)) T := fun m a ha =>
  ⟨[⟨k, a, m.S, s⟩], by simp [Mk.st, Mk.ed], (lays_edge (by omega) k s).congr (hT a m.S)⟩
theorem joint_fp {E : List Eg} {m' : Mk} {lo : Nat} {a : Nat} {l : List Nat} (es0 : List Eg) (he : m'.es = es0 ++ E) (h1 : Into E a lo m'.S) (ha : a < lo) (hl : lo ≤ m'.S) (hz : ∀ z ∈ l, z = a ∨ lo ≤ z ∧ z < m'.S) : ∃ es, (joint (m', l)).1.es = es0 ++ es ∧ Lays line es a (joint (m', l)).2 lo (joint (m', l)).1.S (fun i j => ∃ z ∈ l, Path line E a i (z : Nat) j) := by
  refine ⟨E ++ l.map (fun z => freeE z m'.S), ?_, ?_⟩
  · unfold joint
    simp only [frees_es]
    simp [Mk.st, he]
  · have h2 : (joint (m', l)).1.S = m'.S + 1 := (joint_size (m', l)).1
    rw [h2]
    exact lays_join h1 (by omega) (by omega) (fun z hzl => by have := hz z hzl; omega)
theorem alts_fp : ∀ (ts : List Tn), (∀ t ∈ ts, FP line (lay t) (Tk line t)) → ∀ (m : Mk) (a : Nat) (l : List Nat), a < m.S → ∃ es zs, (alts ts m a l).1.es = m.es ++ es ∧ (alts ts m a l).2 = l ++ zs ∧ m.S ≤ (alts ts m a l).1.S ∧ Into es a m.S (alts ts m a l).1.S ∧
      (∀ z ∈ zs, m.S ≤ z ∧ z < (alts ts m a l).1.S) ∧ ∀ i j, (∃ z ∈ zs, Path line es a i (z : Nat) j) ↔ TkA line ts i j
  | [], _, m, a, l, _ => ⟨[], [], by simp [alts], by simp [alts], by simp [alts], into_nil _ _ _, (fun z hz => by cases hz), fun i j => by simp [TkA]⟩
  | t :: ts, h, m, a, l, ha => by
    have hb : m.S < (m.st.fr a m.S).S := by simp [Mk.st, Mk.fr, Mk.ed]
    obtain ⟨E, e1, l1⟩ := h t (by simp) (m.st.fr a m.S) m.S hb
    obtain ⟨m1, z1, hF⟩ : ∃ m1 z1, lay t (m.st.fr a m.S) m.S = (m1, z1) := ⟨_, _, rfl⟩
    have ht : alts (t :: ts) m a l = alts ts m1 a (l ++ [z1]) := by rw [alts, hF]
    rw [hF] at e1 l1
    have hS1 : (m.st.fr a m.S).S = m.S + 1 := rfl
    have hE1 : (m.st.fr a m.S).es = m.es ++ [freeE a m.S] := rfl
    rw [hS1] at l1
    rw [hE1] at e1
    simp only at e1 l1
    have hfree : Lays line [freeE a m.S] a m.S m.S ((m.S + 1 : Nat) : Int) (fun i j => j = i) := by
      have h0 := lays_edge (line := line) (a := (a : Nat)) (lo := (m.S : Nat)) (by omega) 1 Oct.none
      exact h0.congr (fun i j => moves_free a m.S i j)
    have hbr := hfree.seq l1
    have hz1 := l1.lt
    have hz2 := l1.fin
    have hle := l1.le
    rw [ht]
    obtain ⟨E2, zs, f1, f2, f3, f4, f5, f6⟩ := alts_fp ts (fun u hu => h u (by simp [hu])) m1 a (l ++ [z1]) (by omega)
    obtain ⟨R, hR⟩ : ∃ R, alts ts m1 a (l ++ [z1]) = R := ⟨_, rfl⟩
    rw [hR] at f1 f2 f3 f4 f5 ⊢
    refine ⟨([freeE a m.S] ++ E) ++ E2, z1 :: zs, ?_, ?_, by omega, ?_, ?_, fun i j => ?_⟩
    · rw [f1, e1]; simp
    · rw [f2]; simp
    · exact hbr.into.append f4 (Or.inl rfl) (by omega) (by omega)
    · intro z hz
      rcases List.mem_cons.1 hz with rfl | hz
      · omega
      · have := f5 z hz; omega
    · have hfan : ∀ {q : Int} {j : Nat}, Path line (([freeE a m.S] ++ E) ++ E2) a i q j → _ := fun hp => path_fan hbr.into f4 hbr.out hp
      rw [TkA, ← f6 i j]
      constructor
      · rintro ⟨z, hz, hp⟩
        rcases List.mem_cons.1 hz with rfl | hz
        · rcases hfan hp with ⟨h1, _⟩ | ⟨_, h1⟩ | ⟨h1, _⟩
          · omega
          · obtain ⟨k, hk, h2⟩ := (hbr.path i j).1 h1
            have hk : k = i := hk
            subst hk
            exact Or.inl h2
          · omega
        · have hr := f5 z hz
          rcases hfan hp with ⟨h1, _⟩ | ⟨h1, _⟩ | ⟨_, h1⟩
          · omega
          · omega
          · exact Or.inr ⟨z, hz, h1⟩
      · rintro (h1 | ⟨z, hz, hp⟩)
        · exact ⟨z1, by simp, ((hbr.path i j).2 ⟨i, rfl, h1⟩).mono (fun e he => List.mem_append.2 (Or.inl he))⟩
        · exact ⟨z, by simp [hz], hp.mono (fun e he => List.mem_append.2 (Or.inr he))⟩
theorem upto_fp {F : Mk → Nat → Mk × Nat} {T : Nat → Nat → Prop} (h : FP line F T) (X : Nat) : FP line (fun m a => joint (tails F X (m, a) [a])) (fun i j => ∃ n, n ≤ X ∧ powR T n i j) := fun m a ha => by
  obtain ⟨E, zs, e1, e2, e3, e4, e5, e6⟩ := tails_fp h X m a [a] ha
  obtain ⟨m', l, hR⟩ : ∃ m' l, tails F X (m, a) [a] = (m', l) := ⟨_, _, rfl⟩
  simp only [hR] at e1 e2 e4 e5 e6 ⊢
  obtain ⟨es, g1, g2⟩ := joint_fp (line := line) (l := l) m.es e1 e5 ha e4 (fun z hz => by
    rw [e2] at hz
    rcases List.mem_append.1 hz with hz | hz
    · exact Or.inl (by simpa using hz)
    · obtain ⟨k, hk⟩ := List.mem_iff_getElem?.1 hz
      exact (e6 k z hk).1)
  refine ⟨es, g1, g2.congr (fun i j => ?_)⟩
  rw [e2]
  constructor
  · rintro ⟨z, hz, hp⟩
    rcases List.mem_append.1 hz with hz | hz
    · have : z = a := by simpa using hz
      subst this
      exact ⟨0, Nat.zero_le _, path_self e5 (by omega) hp⟩
    · obtain ⟨k, hk⟩ := List.mem_iff_getElem?.1 hz
      have hkl := (List.getElem?_eq_some_iff.1 hk).1
      exact ⟨k + 1, by omega, ((e6 k z hk).2 i j).1 hp⟩
  · rintro ⟨n, hn, hp⟩
    cases n with
    | zero =>
      have hp : j = i := hp
      subst hp
      exact ⟨a, by simp, .refl⟩
    | succ n =>
      have hk : zs[n]? = some (zs[n]'(by omega)) := List.getElem?_eq_getElem (by omega)
      exact ⟨_, List.mem_append.2 (Or.inr (List.mem_of_getElem? hk)), ((e6 n _ hk).2 i j).2 hp⟩
theorem times_fp {F : Mk → Nat → Mk × Nat} {T : Nat → Nat → Prop} (h : FP line F T) {p : Nat} {mn mx : Int} (hp : p ≠ 1) (h0 : 0 ≤ mn) (h1 : mx = -1 ∨ mn ≤ mx) : FP line (timesOf F p mn mx) (fun i j => ∃ n : Nat, mn ≤ n ∧ (mx = -1 ∨ (n : Int) ≤ mx) ∧ powR T n i j) := by
  have hr := rounds_fp h mn.toNat
  by_cases hm : mx = -1
  · have h2 := FP.then (G := again F) hr (again_fp h)
    have e : timesOf F p mn mx = fun m a => again F (rounds F mn.toNat (m, a)) := by
      funext m a
      unfold timesOf
      rw [if_neg hp, if_pos hm]
    rw [e]
    refine h2.congr (fun i j => ⟨?_, ?_⟩)
    · rintro ⟨k, g1, n, g2⟩
      exact ⟨mn.toNat + n, by omega, Or.inl hm, (powR_add T _ _ i j).2 ⟨k, g1, g2⟩⟩
    · rintro ⟨n, g1, _, g2⟩
      obtain ⟨k, g3, g4⟩ := (powR_add T mn.toNat (n - mn.toNat) i j).1 (by rw [show mn.toNat + (n - mn.toNat) = n by omega]; exact g2)
      exact ⟨k, g3, _, g4⟩
  by_cases he : mx = mn
  · have e : timesOf F p mn mx = fun m a => rounds F mn.toNat (m, a) := by
      funext m a
      unfold timesOf
      rw [if_neg hp, if_neg hm, if_pos he]
    rw [e]
    refine hr.congr (fun i j => ⟨fun g => ⟨mn.toNat, by omega, Or.inr (by omega), g⟩, ?_⟩)
    rintro ⟨n, g1, g2, g3⟩
    have : n = mn.toNat := by omega
    subst this
    exact g3
  · have h2 := FP.then (G := fun c => joint (tails F (mx - mn).toNat c [c.2])) hr (upto_fp h (mx - mn).toNat)
    have e : timesOf F p mn mx = fun m a => joint (tails F (mx - mn).toNat (rounds F mn.toNat (m, a)) [(rounds F mn.toNat (m, a)).2]) := by
      funext m a
      unfold timesOf
      rw [if_neg hp, if_neg hm, if_neg he]
    rw [e]
    refine h2.congr (fun i j => ⟨?_, ?_⟩)
    · rintro ⟨k, g1, n, gn, g2⟩
      exact ⟨mn.toNat + n, by omega, Or.inr (by omega), (powR_add T _ _ i j).2 ⟨k, g1, g2⟩⟩
    · rintro ⟨n, g1, gm, g2⟩
      obtain ⟨k, g3, g4⟩ := (powR_add T mn.toNat (n - mn.toNat) i j).1 (by rw [show mn.toNat + (n - mn.toNat) = n by omega]; exact g2)
      exact ⟨k, g3, n - mn.toNat, by omega, g4⟩
theorem seqs_fp : ∀ (ts : List Tn), (∀ t ∈ ts, FP line (lay t) (Tk line t)) → FP line (seqs ts) (TkS line ts)
  | [], _ => fun m a ha => ⟨[], by rw [seqs]; simp, by rw [seqs]; exact (lays_nil (by omega)).congr (fun i j => by rw [TkS])⟩
  | t :: ts, h => by
    have h1 := FP.then (G := fun c => seqs ts c.1 c.2) (h t (by simp)) (seqs_fp ts (fun u hu => h u (by simp [hu])))
    have e : seqs (t :: ts) = fun m a => seqs ts (lay t m a).1 (lay t m a).2 := by funext m a; rw [seqs]
    rw [e]
    exact h1.congr (fun i j => by rw [TkS])
theorem lay_none_of {t : Tn} (h : FP line (lay t) (Tk line t)) (hp : (plc t).2 = true) (hr : raw t = 0) : ∀ i j, Tk line t i j ↔ j = i := by
  intro i j
  obtain ⟨es, e1, l1⟩ := h ⟨1, []⟩ 0 (by decide)
  have hS := (lay_size t hp ⟨1, []⟩ 0).1
  rw [hr] at hS
  rw [hS] at l1
  have hes : es = [] := by
    cases es with
    | nil => rfl
    | cons e es =>
      have := l1.into e (by simp)
      simp at this
      omega
  subst hes
  have hz := l1.fin
  rw [← l1.path i j]
  have hz0 : ((lay t ⟨1, []⟩ 0).2 : Int) = ((0 : Nat) : Int) := by simp at hz ⊢; omega
  rw [hz0]
  constructor
  · exact fun h => (path_nil h).2
  · rintro rfl; exact .refl
theorem lay_fp : ∀ (z : Nat) (t : Tn), SizeOf.sizeOf t ≤ z → (plc t).2 = true → FP line (lay t) (Tk line t)
  | 0, .mk k s subs mn mx, hz, _ => by simp at hz
  | z + 1, .mk k s subs mn mx, hz, h => by
    obtain ⟨hsh, hsub⟩ := plc_subs h
    have ih : ∀ t ∈ subs, FP line (lay t) (Tk line t) := fun t ht => lay_fp z t (by
      have := List.sizeOf_lt_of_mem ht
      simp at hz
      omega) (hsub t ht)
    rcases shp_kind hsh with rfl | rfl | rfl | rfl | rfl | rfl | rfl
    · have e : lay (.mk 1 s subs mn mx) = fun m a => (m, a) := by funext m a; rw [lay_mk]; simp
      rw [e]
      exact fun m a ha => ⟨[], by simp, (lays_nil (by omega)).congr (fun i j => by rw [Tk]; simp)⟩
    · have e : lay (.mk 2 s subs mn mx) = fun m a => (m.st.ed ⟨2, a, m.S, s⟩, m.S) := by funext m a; rw [lay_mk]; simp
      rw [e]
      exact leaf_fp 2 s (fun a b i j => by rw [Tk]; unfold Moves; simp)
    · have e : lay (.mk 3 s subs mn mx) = seqs subs := by funext m a; rw [lay_mk]; simp
      rw [e]
      exact (seqs_fp subs ih).congr (fun i j => by rw [Tk]; simp)
    · have e : lay (.mk 4 s subs mn mx) = fun m a => joint (alts subs m a []) := by funext m a; rw [lay_mk]; simp
      rw [e]
      intro m a ha
      obtain ⟨E, zs, e1, e2, e3, e4, e5, e6⟩ := alts_fp subs ih m a [] ha
      obtain ⟨m', l, hR⟩ : ∃ m' l, alts subs m a [] = (m', l) := ⟨_, _, rfl⟩
      simp only [hR, List.nil_append] at e1 e2 e3 e4 e5 ⊢
      subst e2
      obtain ⟨es, g1, g2⟩ := joint_fp (line := line) (l := l) m.es e1 e4 ha e3 (fun z hz => Or.inr (e5 z hz))
      exact ⟨es, g1, g2.congr (fun i j => by rw [e6 i j, Tk]; simp)⟩
    · obtain ⟨h1, ⟨h0, _⟩, hx⟩ := shp_five hsh
      match subs, h1, ih, hsub with
      | [u], _, ih, hsub =>
        have hu := hsub u (by simp)
        have hF := ih u (by simp)
        have e : lay (.mk 5 s [u] mn mx) = timesOf (lay u) (placesOf u) mn mx := by
          funext m a
          rw [lay_mk]
          simp [hd]
        have hT : ∀ i j, (∃ n : Nat, mn ≤ n ∧ (mx = -1 ∨ (n : Int) ≤ mx) ∧ powR (Tk line u) n i j) ↔ Tk line (.mk 5 s [u] mn mx) i j := fun i j => by
          have eH : TkH line [u] = Tk line u := by funext i j; rw [TkH]
          rw [Tk, eH]
          simp
        rw [e]
        by_cases hp : placesOf u = 1
        · have hr : raw u = 0 := by rw [places_raw hu] at hp; omega
          have hE := lay_none_of hF hu hr
          intro m a ha
          refine ⟨[], by unfold timesOf; rw [if_pos hp]; simp, ?_⟩
          unfold timesOf
          rw [if_pos hp]
          refine (lays_nil (by omega)).congr (fun i j => ?_)
          rw [← hT i j]
          constructor
          · rintro rfl
            exact ⟨mn.toNat, by omega, by omega, (powR_eq hE _ j j).2 rfl⟩
          · rintro ⟨n, _, _, g⟩
            exact (powR_eq hE n i j).1 g
        · exact (times_fp hF hp h0 (by omega)).congr hT
    · have e : lay (.mk 6 s subs mn mx) = fun m a => (m.st.ed ⟨3, a, m.S, s⟩, m.S) := by funext m a; rw [lay_mk]; simp
      rw [e]
      exact leaf_fp 3 s (fun a b i j => by rw [Tk]; unfold Moves; simp)
    · have e : lay (.mk 7 s subs mn mx) = fun m a => (m.st.ed ⟨4, a, m.S, s⟩, m.S) := by funext m a; rw [lay_mk]; simp
      rw [e]
      exact leaf_fp 4 s (fun a b i j => by rw [Tk]; unfold Moves; simp)
end
end Go.Proofs.YtmjnobdlgbojoaaGreatDoor
