/- A pattern read where it stands further on: the same, its places moved. -/
import Derived.Test.YtlcnmfgmgiijpaaG18
import Derived.Test.YtlcnmfgmgiijpaaG17
namespace Go.Proofs.Ytlcnmfgmgiijpaa

def Rs.sh {α : Type} (o : Nat) : Rs α → Rs α
  | .ok x i => .ok x (i + o)
  | .bad i e => .bad (i + o) e
  | .out => .out
/-- s stands in s' from o on, to the end -/
structure Sh (s s' : ByteArray) (o : Nat) : Prop where
  b : ∀ i, byt s' (i + o) = byt s i
  z : s'.size = s.size + o
variable {s s' : ByteArray} {o : Nat}
theorem Sh.lt (h : Sh s s' o) (i : Nat) : decide (i + o < s'.size) = decide (i < s.size) := by rw [h.z]; simp
theorem Sh.sees (h : Sh s s' o) (i b : Nat) : Ytlcnmfgmgiijpaa.sees s' (i + o) b = Ytlcnmfgmgiijpaa.sees s i b := by
  unfold Ytlcnmfgmgiijpaa.sees
  rw [h.lt, h.b]
theorem Sh.digit (h : Sh s s' o) (i : Nat) : isDigit s' (i + o) = isDigit s i := by
  unfold isDigit
  rw [h.lt, h.b]
theorem Sh.digits (h : Sh s s' o) : ∀ (f i n : Nat), Ytlcnmfgmgiijpaa.digits s' f (i + o) n = ((Ytlcnmfgmgiijpaa.digits s f i n).1, (Ytlcnmfgmgiijpaa.digits s f i n).2 + o) := by
  intro f
  induction f with
  | zero => intro i n; rfl
  | succ f ih =>
    intro i n
    rw [Ytlcnmfgmgiijpaa.digits, Ytlcnmfgmgiijpaa.digits, h.digit, h.b]
    split
    · rw [show i + o + 1 = (i + 1) + o by omega, ih]
    · rfl
theorem Sh.count (h : Sh s s' o) (a i : Nat) : Ytlcnmfgmgiijpaa.count s' (a + o) (i + o) = (Ytlcnmfgmgiijpaa.count s a i).sh o := by
  unfold Ytlcnmfgmgiijpaa.count
  rw [h.digits]
  simp only
  by_cases e : (Ytlcnmfgmgiijpaa.digits s 3 i 0).2 = i
  · rw [if_pos (by omega), if_pos e]; rfl
  · rw [if_neg (by omega), if_neg e]; rfl
theorem Sh.countsEnd (h : Sh s s' o) (a j : Nat) (l m : Int) : Ytlcnmfgmgiijpaa.countsEnd s' (a + o) l m (j + o) = (Ytlcnmfgmgiijpaa.countsEnd s a l m j).sh o := by
  unfold Ytlcnmfgmgiijpaa.countsEnd
  rw [h.sees]
  split <;> rfl
theorem Sh.counts (h : Sh s s' o) (i : Nat) : Ytlcnmfgmgiijpaa.counts s' (i + o) = (Ytlcnmfgmgiijpaa.counts s i).sh o := by
  unfold Ytlcnmfgmgiijpaa.counts
  rw [show i + o + 1 = (i + 1) + o by omega, h.count]
  cases Ytlcnmfgmgiijpaa.count s i (i + 1) with
  | ok l j =>
    simp only [Rs.sh]
    rw [h.sees, show j + o + 1 = (j + 1) + o by omega, h.sees, h.count]
    split
    · split
      · exact h.countsEnd _ _ _ _
      · cases Ytlcnmfgmgiijpaa.count s i (j + 1) with
        | ok m k => simp only [Rs.sh]; exact h.countsEnd _ _ _ _
        | bad a e => rfl
        | out => rfl
    · exact h.countsEnd _ _ _ _
  | bad a e => rfl
  | out => rfl
theorem Sh.repeated (h : Sh s s' o) (t : Tr) (i : Nat) : Ytlcnmfgmgiijpaa.repeated s' t (i + o) = (Ytlcnmfgmgiijpaa.repeated s t i).sh o := by
  unfold Ytlcnmfgmgiijpaa.repeated
  rw [h.sees, h.sees, h.sees, h.sees, h.counts]
  split
  · simp only [Rs.sh]; congr 1; omega
  · split
    · simp only [Rs.sh]; congr 1; omega
    · split
      · simp only [Rs.sh]; congr 1; omega
      · split
        · cases Ytlcnmfgmgiijpaa.counts s i with
          | ok x j => obtain ⟨l, m⟩ := x; simp only [Rs.sh]; congr 1; omega
          | bad a e => rfl
          | out => rfl
        · rfl
theorem Sh.special (h : Sh s s' o) (i : Nat) : Ytlcnmfgmgiijpaa.special s' (i + o) = Ytlcnmfgmgiijpaa.special s i := by
  unfold Ytlcnmfgmgiijpaa.special
  rw [show i + o + 1 = (i + 1) + o by omega, h.lt, h.b, h.b]
theorem Sh.rest (h : Sh s s' o) (i : Nat) : (Ytlcnmfgmgiijpaa.rest s' (i + o)).data.toList = (Ytlcnmfgmgiijpaa.rest s i).data.toList := by
  have l1 := rest_len s i
  have l2 := rest_len s' (i + o)
  have hz := h.z
  apply List.ext_getElem (by omega)
  intro k h1 h2
  have e1 := rest_byt s i k
  have e2 := rest_byt s' (i + o) k
  rw [byt_list] at e1 e2
  rw [List.getD_eq_getElem?_getD, List.getElem?_eq_getElem h2] at e1
  rw [List.getD_eq_getElem?_getD, List.getElem?_eq_getElem h1] at e2
  rw [show i + o + k = (i + k) + o by omega, h.b, ← e1] at e2
  exact UInt8.toNat_inj.1 e2
theorem Sh.cls (h : Sh s s' o) (a i : Nat) : class_ s' (a + o) (i + o) = (class_ s a i).sh o := by
  have hn : className s' (i + o) = className s i := by
    unfold className
    rw [show i + o + 2 = (i + 2) + o by omega, h.rest]
  have he : classEnds s' (i + o) = classEnds s i := by
    unfold classEnds
    rw [show i + o + 2 = (i + 2) + o by omega, h.rest]
  unfold class_
  rw [hn, he]
  split
  · split
    · simp only [Rs.sh]; congr 1; omega
    · rfl
  · rfl
theorem Sh.span (h : Sh s s' o) (i : Nat) : span_ s' (i + o) = (span_ s i).sh o := by
  unfold span_
  rw [show i + o + 2 = (i + 2) + o by omega, h.b, h.b, h.special]
  split
  · rfl
  · simp only [Rs.sh]; congr 1; omega
theorem Sh.item (h : Sh s s' o) (a i : Nat) : Ytlcnmfgmgiijpaa.item s' (a + o) (i + o) = (Ytlcnmfgmgiijpaa.item s a i).sh o := by
  unfold Ytlcnmfgmgiijpaa.item
  rw [h.z, show i + o + 1 = (i + 1) + o by omega, show i + o + 2 = (i + 2) + o by omega, h.b, h.b, h.b, h.special, h.span, h.cls]
  by_cases e : i = s.size
  · rw [if_pos (by omega), if_pos e]; rfl
  · rw [if_neg (by omega), if_neg e]
    simp only [Nat.add_lt_add_iff_right]
    split
    · rfl
    · split
      · rfl
      · split
        · rfl
        · rfl
theorem Sh.setLoop (h : Sh s s' o) (a : Nat) : ∀ (f : Nat) (x : Oct.S) (i : Nat), Ytlcnmfgmgiijpaa.setLoop s' (a + o) f x (i + o) = (Ytlcnmfgmgiijpaa.setLoop s a f x i).sh o := by
  intro f
  induction f with
  | zero => intro x i; rfl
  | succ f ih =>
    intro x i
    rw [Ytlcnmfgmgiijpaa.setLoop, Ytlcnmfgmgiijpaa.setLoop, h.sees, h.item]
    split
    · simp only [Rs.sh]; congr 1; omega
    · cases Ytlcnmfgmgiijpaa.item s a i with
      | ok b j => simp only [Rs.sh]; exact ih _ _
      | bad a e => rfl
      | out => rfl
theorem Sh.setOf (h : Sh s s' o) (f i : Nat) : Ytlcnmfgmgiijpaa.setOf s' f (i + o) = (Ytlcnmfgmgiijpaa.setOf s f i).sh o := by
  unfold Ytlcnmfgmgiijpaa.setOf
  rw [show i + o + 1 = (i + 1) + o by omega, h.sees, show (if Ytlcnmfgmgiijpaa.sees s (i + 1) 94 = true then i + o + 2 else (i + 1) + o) = (if Ytlcnmfgmgiijpaa.sees s (i + 1) 94 = true then i + 2 else i + 1) + o by split <;> omega, h.item]
  cases Ytlcnmfgmgiijpaa.item s i (if Ytlcnmfgmgiijpaa.sees s (i + 1) 94 = true then i + 2 else i + 1) with
  | ok a j =>
    simp only [Rs.sh]
    rw [h.setLoop]
    cases Ytlcnmfgmgiijpaa.setLoop s i f a j with
    | ok b k => rfl
    | bad a e => rfl
    | out => rfl
  | bad a e => rfl
  | out => rfl
theorem read_shift (h : Sh s s' o) (n : Nat) : (∀ d i, pat s' n d (i + o) = (pat s n d i).sh o) ∧ (∀ d acc i, patLoop s' n d acc (i + o) = (patLoop s n d acc i).sh o) ∧ (∀ d i, alt s' n d (i + o) = (alt s n d i).sh o) ∧ (∀ d acc i, altLoop s' n d acc (i + o) = (altLoop s n d acc i).sh o) ∧ (∀ d i, piece s' n d (i + o) = (piece s n d i).sh o) ∧ (∀ d i, atom s' n d (i + o) = (atom s n d i).sh o) ∧ (∀ d i, group s' n d (i + o) = (group s n d i).sh o) := by
  induction n with
  | zero => refine ⟨?_, ?_, ?_, ?_, ?_, ?_, ?_⟩ <;> intros <;> simp [pat, patLoop, alt, altLoop, piece, atom, group, Rs.sh]
  | succ n ih =>
    obtain ⟨i1, i2, i3, i4, i5, i6, i7⟩ := ih
    refine ⟨fun d i => ?_, fun d acc i => ?_, fun d i => ?_, fun d acc i => ?_, fun d i => ?_, fun d i => ?_, fun d i => ?_⟩
    · rw [pat, pat, i3]
      cases alt s n d i with
      | ok t j => simp only [Rs.sh]; exact i2 _ _ _
      | bad a e => rfl
      | out => rfl
    · rw [patLoop, patLoop, h.sees, show i + o + 1 = (i + 1) + o by omega, i3]
      split
      · cases alt s n d (i + 1) with
        | ok t j => simp only [Rs.sh]; exact i2 _ _ _
        | bad a e => rfl
        | out => rfl
      · rfl
    · rw [alt, alt]
      exact i4 _ _ _
    · rw [altLoop, altLoop, h.lt, h.sees, h.sees, i5]
      split
      · cases piece s n d i with
        | ok t j => simp only [Rs.sh]; exact i4 _ _ _
        | bad a e => rfl
        | out => rfl
      · rfl
    · rw [piece, piece, h.b, i6]
      split
      · simp only [Rs.sh]; congr 1; omega
      · split
        · simp only [Rs.sh]; congr 1; omega
        · cases atom s n d i with
          | ok t j => simp only [Rs.sh]; exact h.repeated _ _
          | bad a e => rfl
          | out => rfl
    · rw [atom, atom, show i + o + 1 = (i + 1) + o by omega, h.b, h.b, i7, h.setOf, h.z]
      simp only [Nat.add_right_cancel_iff]
      split
      · rfl
      · split
        · rfl
        · split
          · cases setOf s n i with
            | ok t j => rfl
            | bad a e => rfl
            | out => rfl
          · split
            · rfl
            · split
              · split
                · rfl
                · simp only [Rs.sh]; congr 1; omega
              · rfl
    · rw [group, group, show i + o + 1 = (i + 1) + o by omega, i1, h.z]
      split
      · rfl
      · cases pat s n (d + 1) (i + 1) with
        | ok t j =>
          simp only [Rs.sh, Nat.add_right_cancel_iff]
          split
          · rfl
          · congr 1; omega
        | bad a e => rfl
        | out => rfl
end Go.Proofs.Ytlcnmfgmgiijpaa

/- The '|' outside of groups and the depth of the groups, counted without reading: 'bars' and 'behind' as plain functions; where a set is read, 'behind' is its end. -/
namespace Go.Proofs.Ytlcnmfgmgiijpaa

def clsHere (s : ByteArray) (i : Nat) : Bool := decide (i + 1 < s.size) && !(decide (byt s i = 58) && decide (byt s (i + 1) = 93) && decide (byt s (i - 1) ≠ 91))
def clsTo (s : ByteArray) : Nat → Nat → Nat
  | 0, i => i
  | f + 1, i => if clsHere s i then clsTo s f (i + 1) else i
def isCls (s : ByteArray) (i : Nat) : Bool := decide (byt s i = 91) && decide (i + 1 < s.size) && decide (byt s (i + 1) = 58)
def isSpan (s : ByteArray) (i : Nat) : Bool := decide (i + 2 < s.size) && decide (byt s (i + 1) = 45) && decide (byt s (i + 2) ≠ 93)
def behNext (s : ByteArray) (i : Nat) : Nat := if isCls s i then clsTo s s.size (i + 1) + 2 else if isSpan s i then i + 3 else i + 1
def behHere (s : ByteArray) (first : Bool) (i : Nat) : Bool := decide (i < s.size) && (first || decide (byt s i ≠ 93))
def beh (s : ByteArray) : Nat → Bool → Nat → Nat
  | 0, _, i => i
  | f + 1, first, i => if behHere s first i then beh s f false (behNext s i) else i
def behFrom (s : ByteArray) (i : Nat) : Nat := if sees s (i + 1) 94 then i + 2 else i + 1
def behindOf (s : ByteArray) (i : Nat) : Nat := beh s s.size true (behFrom s i)
theorem clsTo_ge (s : ByteArray) : ∀ (f i : Nat), i ≤ clsTo s f i := by
  intro f
  induction f with
  | zero => intro i; exact Nat.le_refl _
  | succ f ih =>
    intro i
    rw [clsTo]
    split
    · exact Nat.le_trans (Nat.le_succ _) (ih _)
    · exact Nat.le_refl _
theorem clsTo_le (s : ByteArray) : ∀ (f i : Nat), i ≤ s.size → clsTo s f i ≤ s.size := by
  intro f
  induction f with
  | zero => intro i h; exact h
  | succ f ih =>
    intro i h
    rw [clsTo]
    split
    · rename_i hc
      unfold clsHere at hc
      simp at hc
      exact ih _ (by omega)
    · exact h
theorem behNext_gt (s : ByteArray) (i : Nat) : i < behNext s i := by
  unfold behNext
  split
  · have := clsTo_ge s s.size (i + 1); omega
  · split <;> omega
theorem behNext_le (s : ByteArray) (i : Nat) (h : i < s.size) : behNext s i ≤ s.size + 2 := by
  unfold behNext
  split
  · rename_i hc
    unfold isCls at hc
    simp at hc
    have := clsTo_le s s.size (i + 1) (by omega); omega
  · split
    · rename_i hc
      unfold isSpan at hc
      simp at hc
      omega
    · omega
theorem beh_ge (s : ByteArray) : ∀ (f : Nat) (b : Bool) (i : Nat), i ≤ beh s f b i := by
  intro f
  induction f with
  | zero => intro b i; exact Nat.le_refl _
  | succ f ih =>
    intro b i
    rw [beh]
    split
    · have h1 := behNext_gt s i
      have h2 := ih false (behNext s i)
      omega
    · exact Nat.le_refl _
theorem beh_le (s : ByteArray) : ∀ (f : Nat) (b : Bool) (i : Nat), i ≤ s.size + 2 → beh s f b i ≤ s.size + 2 := by
  intro f
  induction f with
  | zero => intro b i h; exact h
  | succ f ih =>
    intro b i h
    rw [beh]
    split
    · rename_i hc
      unfold behHere at hc
      simp at hc
      exact ih _ _ (behNext_le s i hc.1)
    · exact h
theorem behFrom_gt (s : ByteArray) (i : Nat) : i < behFrom s i := by unfold behFrom; split <;> omega
theorem behFrom_le (s : ByteArray) (i : Nat) (h : i < s.size) : behFrom s i ≤ s.size := by
  unfold behFrom
  split
  · rename_i hc; have := sees_lt hc; omega
  · omega
theorem behindOf_gt (s : ByteArray) (i : Nat) : i < behindOf s i := Nat.lt_of_lt_of_le (behFrom_gt s i) (beh_ge _ _ _ _)
theorem behindOf_le (s : ByteArray) (i : Nat) (h : i < s.size) : behindOf s i ≤ s.size + 2 := beh_le _ _ _ _ (by have := behFrom_le s i h; omega)
/-! ### more rounds than needed turn nothing -/
theorem clsTo_more (s : ByteArray) : ∀ (f g i : Nat), s.size - i ≤ f → s.size - i ≤ g → clsTo s f i = clsTo s g i := by
  intro f
  induction f with
  | zero =>
    intro g i hf hg
    cases g with
    | zero => rfl
    | succ g => rw [clsTo, clsTo, if_neg (by unfold clsHere; simp; omega)]
  | succ f ih =>
    intro g i hf hg
    cases g with
    | zero => rw [clsTo, clsTo, if_neg (by unfold clsHere; simp; omega)]
    | succ g =>
      rw [clsTo, clsTo]
      split
      · exact ih _ _ (by omega) (by omega)
      · rfl
theorem beh_more (s : ByteArray) : ∀ (f g : Nat) (b : Bool) (i : Nat), s.size - i ≤ f → s.size - i ≤ g → beh s f b i = beh s g b i := by
  intro f
  induction f with
  | zero =>
    intro g b i hf hg
    cases g with
    | zero => rfl
    | succ g => rw [beh, beh, if_neg (by unfold behHere; simp; omega)]
  | succ f ih =>
    intro g b i hf hg
    cases g with
    | zero => rw [beh, beh, if_neg (by unfold behHere; simp; omega)]
    | succ g =>
      rw [beh, beh]
      have h1 := behNext_gt s i
      split
      · exact ih _ _ _ (by omega) (by omega)
      · rfl
theorem clsTo_to {s : ByteArray} {k : Nat} (hk : clsHere s k = false) : ∀ (f i : Nat), i ≤ k → k - i ≤ f → (∀ l, i ≤ l → l < k → clsHere s l = true) → clsTo s f i = k := by
  intro f
  induction f with
  | zero => intro i h1 h2 _; rw [clsTo]; omega
  | succ f ih =>
    intro i h1 h2 h3
    rw [clsTo]
    by_cases e : i = k
    · subst e; rw [hk]; rfl
    · rw [if_pos (h3 i (Nat.le_refl _) (by omega))]
      exact ih _ (by omega) (by omega) (fun l h4 h5 => h3 l (by omega) h5)
/-! ### where a set is read -/
theorem two_prefix (a b : UInt8) (l : List UInt8) : [a, b].isPrefixOf l = true ↔ l[0]? = some a ∧ l[1]? = some b := by
  match l with
  | [] => simp [List.isPrefixOf]
  | [x] => simp [List.isPrefixOf]
  | x :: y :: r => simp [List.isPrefixOf]; constructor <;> (rintro ⟨rfl, rfl⟩; exact ⟨rfl, rfl⟩)
theorem rest_get (s : ByteArray) (k j : Nat) (c : UInt8) : (rest s k).data.toList[j]? = some c ↔ k + j < s.size ∧ byt s (k + j) = c.toNat := by
  have h1 := rest_len s k
  have h2 := rest_byt s k j
  rw [byt_list, List.getD_eq_getElem?_getD] at h2
  by_cases h : k + j < s.size
  · have hj : j < (rest s k).data.toList.length := by omega
    rw [List.getElem?_eq_getElem hj] at h2 ⊢
    simp only [Option.getD_some] at h2
    constructor
    · intro e
      cases e
      exact ⟨h, h2.symm⟩
    · rintro ⟨_, e⟩
      rw [← h2] at e
      rw [UInt8.toNat_inj.1 e]
  · rw [List.getElem?_eq_none (by omega)]
    constructor
    · intro e; cases e
    · rintro ⟨e, _⟩; exact absurd e h
theorem occ_rest (s : ByteArray) (k j : Nat) : Go.Lib.occAt (rest s k).data.toList [58, 93] j = true ↔ k + j + 1 < s.size ∧ byt s (k + j) = 58 ∧ byt s (k + j + 1) = 93 := by
  unfold Go.Lib.occAt
  rw [two_prefix, List.getElem?_drop, List.getElem?_drop, rest_get, rest_get]
  rw [Nat.add_zero, show k + (j + 1) = k + j + 1 from rfl]
  constructor
  · rintro ⟨⟨_, h1⟩, h2, h3⟩; exact ⟨h2, h1, h3⟩
  · rintro ⟨h1, h2, h3⟩; exact ⟨⟨by omega, h2⟩, h1, h3⟩
theorem classOf_name {n : ByteArray} (h : (classOf n).2 = 0) : 0 < n.size ∧ ∀ k, byt n k ≠ 91 := by
  have hl : n.toList = n.data.toList := ByteArray.toList_eq n
  have key : ∀ l : List UInt8, n.toList = l → l ≠ [] → (∀ x ∈ l, x ≠ 91) → 0 < n.size ∧ ∀ k, byt n k ≠ 91 := fun l e hne hx => by
    rw [hl] at e
    have hz : n.data.toList.length = n.size := by simp
    refine ⟨by rw [← hz, e]; exact List.length_pos_iff.2 hne, fun k hk => ?_⟩
    rw [byt_list, e, List.getD_eq_getElem?_getD] at hk
    by_cases h1 : k < l.length
    · rw [List.getElem?_eq_getElem h1] at hk
      simp only [Option.getD_some] at hk
      exact hx _ (List.getElem_mem h1) (UInt8.toNat_inj.1 hk)
    · rw [List.getElem?_eq_none (by omega)] at hk
      cases hk
  have step : ∀ (l : List UInt8) (x y : Oct.S × Nat), (if n.toList == l then x else y).2 = 0 → n.toList = l ∨ y.2 = 0 := fun l x y h => by
    by_cases e : n.toList = l
    · exact Or.inl e
    · rw [if_neg (by simpa using e)] at h
      exact Or.inr h
  unfold classOf at h
  rcases step _ _ _ h with e | h
  · exact key _ e (by decide) (by decide)
  rcases step _ _ _ h with e | h
  · exact key _ e (by decide) (by decide)
  rcases step _ _ _ h with e | h
  · exact key _ e (by decide) (by decide)
  rcases step _ _ _ h with e | h
  · exact key _ e (by decide) (by decide)
  rcases step _ _ _ h with e | h
  · exact key _ e (by decide) (by decide)
  rcases step _ _ _ h with e | h
  · exact key _ e (by decide) (by decide)
  rcases step _ _ _ h with e | h
  · exact key _ e (by decide) (by decide)
  rcases step _ _ _ h with e | h
  · exact key _ e (by decide) (by decide)
  rcases step _ _ _ h with e | h
  · exact key _ e (by decide) (by decide)
  rcases step _ _ _ h with e | h
  · exact key _ e (by decide) (by decide)
  rcases step _ _ _ h with e | h
  · exact key _ e (by decide) (by decide)
  rcases step _ _ _ h with e | h
  · exact key _ e (by decide) (by decide)
  cases h
theorem class_next {s : ByteArray} {o i j : Nat} {x : Oct.S} (h91 : byt s i = 91) (h : class_ s o i = .ok x j) : clsTo s s.size (i + 1) + 2 = j := by
  unfold class_ at h
  split at h
  · rename_i he
    split at h
    · rename_i hz
      cases h
      obtain ⟨hn0, hn1⟩ := classOf_name hz
      obtain ⟨l, el⟩ : ∃ l, l = (rest s (i + 2)).data.toList := ⟨_, rfl⟩
      have he2 : 0 ≤ Go.Lib.index l [58, 93] := by
        unfold classEnds Go.Lib.cut at he
        rw [← el] at he
        split at he
        · assumption
        · cases he
      rcases Go.Lib.index_spec l [58, 93] with ⟨hm, _⟩ | ⟨k, hk, hkl, ho, hno⟩
      · omega
      have hname : className s i = ⟨(l.take k).toArray⟩ := by
        unfold className Go.Lib.cut
        rw [← el, if_pos he2, hk]
        rfl
      have hsz : (className s i).size = k := by
        rw [hname]
        have : (⟨(l.take k).toArray⟩ : ByteArray).size = (l.take k).length := by simp [ByteArray.size]
        rw [this, List.length_take]
        omega
      rw [el] at ho hno
      have ho' := (occ_rest s (i + 2) k).1 ho
      have hlast : byt s (i + 2 + k - 1) ≠ 91 := by
        have h1 := hn1 (k - 1)
        rw [hname, byt_list] at h1
        simp only [List.getD_eq_getElem?_getD] at h1
        rw [List.getElem?_take_of_lt (by omega), el] at h1
        have h2 := rest_byt s (i + 2) (k - 1)
        rw [byt_list, List.getD_eq_getElem?_getD] at h2
        rw [h2] at h1
        rw [show i + 2 + k - 1 = i + 2 + (k - 1) by omega]
        exact h1
      have hcl : clsTo s s.size (i + 1) = i + 2 + k := by
        refine clsTo_to ?_ _ _ (by omega) (by omega) (fun q h1 h2 => ?_)
        · unfold clsHere
          simp only [ho'.2.1, ho'.2.2, hlast, decide_true, ne_eq, not_false_eq_true, Bool.and_true, Bool.not_true, Bool.and_false]
        · unfold clsHere
          by_cases e : q = i + 1
          · subst e
            simp [h91]
            omega
          · have h3 : Go.Lib.occAt (rest s (i + 2)).data.toList [58, 93] (q - (i + 2)) = false := hno _ (by omega)
            have h4 : ¬ (byt s q = 58 ∧ byt s (q + 1) = 93) := fun h5 => by
              have := (occ_rest s (i + 2) (q - (i + 2))).2 ⟨by omega, by rw [show i + 2 + (q - (i + 2)) = q by omega]; exact h5.1, by rw [show i + 2 + (q - (i + 2)) + 1 = q + 1 by omega]; exact h5.2⟩
              rw [this] at h3
              cases h3
            simp
            refine ⟨by omega, ?_⟩
            omega
      rw [hcl, hsz]
    · cases h
  · cases h
theorem item_next {s : ByteArray} {o i j : Nat} {x : Oct.S} (h : item s o i = .ok x j) : behNext s i = j := by
  unfold item at h
  unfold behNext
  split at h
  · cases h
  · split at h
    · rename_i hc
      simp at hc
      rw [if_pos (by unfold isCls; simp; exact ⟨⟨hc.1.2, hc.1.1⟩, hc.2⟩)]
      exact class_next hc.1.2 h
    · rename_i hc
      rw [if_neg (by intro e; apply hc; unfold isCls at e; simp at e ⊢; exact ⟨⟨e.1.2, e.1.1⟩, e.2⟩)]
      split at h
      · cases h
      · split at h
        · rename_i hs
          rw [if_pos (by unfold isSpan; simpa using hs)]
          unfold span_ at h
          split at h
          · cases h
          · cases h; rfl
        · rename_i hs
          rw [if_neg (by unfold isSpan; simpa using hs)]
          cases h; rfl
theorem item_here {s : ByteArray} {o i j : Nat} {x : Oct.S} (hi : i ≤ s.size) (h : item s o i = .ok x j) : i < s.size := by
  unfold item at h
  split at h
  · cases h
  · omega
theorem setLoop_beh {s : ByteArray} {o : Nat} : ∀ {f : Nat} {a x : Oct.S} {i j : Nat}, i ≤ s.size → setLoop s o f a i = .ok x j → beh s s.size false i + 1 = j := by
  intro f
  induction f with
  | zero => intro a x i j _ h; simp [setLoop] at h
  | succ f ih =>
    intro a x i j hi h
    rw [setLoop] at h
    split at h
    · rename_i hs
      cases h
      have hs' := hs
      unfold sees at hs'
      simp at hs'
      obtain ⟨g, hg⟩ : ∃ g, s.size = g + 1 := ⟨s.size - 1, by omega⟩
      rw [hg, beh, if_neg (by unfold behHere; simp [hs'.2])]
    · rename_i hs
      split at h
      · rename_i b k hc
        have hlt := item_here hi hc
        have hle := (item_le hi hc).1
        have hn := item_next hc
        have h2 := ih hle h
        obtain ⟨g, hg⟩ : ∃ g, s.size = g + 1 := ⟨s.size - 1, by omega⟩
        have hgt := behNext_gt s i
        rw [hg, beh, if_pos (by unfold behHere; unfold sees at hs; simp at hs ⊢; exact ⟨hlt, hs hlt⟩), hn, beh_more s g s.size false k (by omega) (by omega)]
        exact h2
      · cases h
      · cases h
theorem setOf_beh {s : ByteArray} {f i j : Nat} {x : Oct.S} (hi : i < s.size) (h : setOf s f i = .ok x j) : behindOf s i + 1 = j := by
  unfold setOf at h
  have hb : (if sees s (i + 1) 94 = true then i + 2 else i + 1) = behFrom s i := rfl
  rw [hb] at h
  have hf := behFrom_le s i hi
  split at h
  · rename_i a k hc
    split at h
    · rename_i b q hl
      cases h
      have hlt := item_here hf hc
      have hle := (item_le hf hc).1
      have hn := item_next hc
      have h2 := setLoop_beh hle hl
      have hgt := behNext_gt s (behFrom s i)
      obtain ⟨g, hg⟩ : ∃ g, s.size = g + 1 := ⟨s.size - 1, by omega⟩
      unfold behindOf
      rw [hg, beh, if_pos (by unfold behHere; simp; exact hlt), hn, beh_more s g s.size false k (by omega) (by omega)]
      exact h2
    · cases h
    · cases h
  · cases h
  · cases h
/-! ### the count -/
structure Cn where
  i : Nat
  d : Int
  m : Int
  n : Int
def stp (s : ByteArray) (x : Cn) : Cn :=
  if byt s x.i = 92 then ⟨x.i + 2, x.d, x.m, x.n⟩
  else if byt s x.i = 91 then ⟨behindOf s x.i + 1, x.d, x.m, x.n⟩
  else if byt s x.i = 40 then ⟨x.i + 1, x.d + 1, max x.m (x.d + 1), x.n⟩
  else if byt s x.i = 41 then ⟨x.i + 1, x.d - 1, x.m, x.n⟩
  else if byt s x.i = 124 then ⟨x.i + 1, x.d, x.m, if x.d = 0 then x.n + 1 else x.n⟩
  else ⟨x.i + 1, x.d, x.m, x.n⟩
theorem stp_gt (s : ByteArray) (x : Cn) : x.i < (stp s x).i := by
  have := behindOf_gt s x.i
  unfold stp
  repeat' split
  all_goals simp only
  all_goals omega
def skim (s : ByteArray) : Nat → Cn → Cn
  | 0, x => x
  | f + 1, x => if x.i < s.size then skim s f (stp s x) else x
theorem skim_more (s : ByteArray) : ∀ (f g : Nat) (x : Cn), s.size - x.i ≤ f → s.size - x.i ≤ g → skim s f x = skim s g x := by
  intro f
  induction f with
  | zero =>
    intro g x hf hg
    cases g with
    | zero => rfl
    | succ g => rw [skim, skim, if_neg (by omega)]
  | succ f ih =>
    intro g x hf hg
    cases g with
    | zero => rw [skim, skim, if_neg (by omega)]
    | succ g =>
      rw [skim, skim]
      have h1 := stp_gt s x
      split
      · exact ih _ _ (by omega) (by omega)
      · rfl
inductive Skims (s : ByteArray) : Cn → Cn → Prop
  | refl (x : Cn) : Skims s x x
  | step (x y : Cn) (h : x.i < s.size) (r : Skims s (stp s x) y) : Skims s x y
theorem Skims.trans {s : ByteArray} {x y z : Cn} (h : Skims s x y) : Skims s y z → Skims s x z := by
  induction h with
  | refl => exact id
  | step x y h r ih => exact fun hz => .step x z h (ih hz)
theorem Skims.ends {s : ByteArray} {x y : Cn} (h : Skims s x y) : s.size ≤ y.i → ∀ f, s.size - x.i ≤ f → skim s f x = y := by
  induction h with
  | refl x =>
    intro hy f _
    cases f with
    | zero => rfl
    | succ f => rw [skim, if_neg (by omega)]
  | step x y h r ih =>
    intro hy f hf
    obtain ⟨g, rfl⟩ : ∃ g, f = g + 1 := ⟨f - 1, by omega⟩
    rw [skim, if_pos h]
    have h1 := stp_gt s x
    exact ih hy g (by omega)
/-- from a place to another: so much deeper, so many '|' at this depth -/
def Sk (s : ByteArray) (i j h b : Nat) : Prop := ∀ (d m n : Int), 0 ≤ d → d ≤ m → Skims s ⟨i, d, m, n⟩ ⟨j, d, max m (d + h), if d = 0 then n + b else n⟩
theorem Sk.refl (s : ByteArray) (i : Nat) : Sk s i i 0 0 := fun d m n h0 hm => by
  have e : (⟨i, d, max m (d + (0 : Nat)), if d = 0 then n + (0 : Nat) else n⟩ : Cn) = ⟨i, d, m, n⟩ := by
    congr 1
    · omega
    · split <;> omega
  rw [e]
  exact .refl _
theorem Sk.seq {s : ByteArray} {i j k h h' b b' : Nat} (h1 : Sk s i j h b) (h2 : Sk s j k h' b') : Sk s i k (max h h') (b + b') := fun d m n h0 hm => by
  have e : (⟨k, d, max m (d + (max h h' : Nat)), if d = 0 then n + (b + b' : Nat) else n⟩ : Cn) = ⟨k, d, max (max m (d + h)) (d + h'), if d = 0 then (if d = 0 then n + b else n) + b' else (if d = 0 then n + b else n)⟩ := by
    congr 1
    · omega
    · by_cases e : d = 0 <;> simp [e] <;> omega
  rw [e]
  exact (h1 d m n h0 hm).trans (h2 d _ _ h0 (by omega))
theorem Sk.one {s : ByteArray} {i : Nat} (hi : i < s.size) (h1 : byt s i ≠ 92) (h2 : byt s i ≠ 91) (h3 : byt s i ≠ 40) (h4 : byt s i ≠ 41) (h5 : byt s i ≠ 124) : Sk s i (i + 1) 0 0 := fun d m n h0 hm => by
  refine .step _ _ hi ?_
  unfold stp
  simp only [h1, h2, h3, h4, h5, if_false]
  exact Sk.refl s (i + 1) d m n h0 hm
theorem Sk.bar {s : ByteArray} {i : Nat} (hi : i < s.size) (h : byt s i = 124) : Sk s i (i + 1) 0 1 := fun d m n h0 hm => by
  refine .step _ _ hi ?_
  unfold stp
  simp [h]
  have e : (⟨i + 1, d, max m d, if d = 0 then n + 1 else n⟩ : Cn) = ⟨i + 1, d, m, if d = 0 then n + 1 else n⟩ := by
    congr 1
    omega
  rw [e]
  exact .refl _
theorem Sk.esc {s : ByteArray} {i : Nat} (hi : i < s.size) (h : byt s i = 92) : Sk s i (i + 2) 0 0 := fun d m n h0 hm => by
  refine .step _ _ hi ?_
  unfold stp
  simp only [h, if_true]
  exact Sk.refl s (i + 2) d m n h0 hm
theorem Sk.set {s : ByteArray} {i j f : Nat} {x : Oct.S} (hi : i < s.size) (h : byt s i = 91) (hs : setOf s f i = .ok x j) : Sk s i j 0 0 := fun d m n h0 hm => by
  refine .step _ _ hi ?_
  unfold stp
  have e := setOf_beh hi hs
  simp only [h, if_true, show ¬ ((91 : Nat) = 92) by omega, if_false, e]
  exact Sk.refl s j d m n h0 hm
theorem Sk.group {s : ByteArray} {i j h b : Nat} (hi : i < s.size) (h40 : byt s i = 40) (hs : Sk s (i + 1) j h b) (hj : j < s.size) (h41 : byt s j = 41) : Sk s i (j + 1) (h + 1) 0 := fun d m n h0 hm => by
  refine .step _ _ hi ?_
  have e1 : stp s ⟨i, d, m, n⟩ = ⟨i + 1, d + 1, max m (d + 1), n⟩ := by
    unfold stp
    simp [h40]
  rw [e1]
  refine (hs (d + 1) (max m (d + 1)) n (by omega) (by omega)).trans ?_
  refine .step _ _ hj ?_
  unfold stp
  simp only [h41, if_true, show ¬ ((41 : Nat) = 92) by omega, show ¬ ((41 : Nat) = 91) by omega, show ¬ ((41 : Nat) = 40) by omega, if_false]
  have e2 : (⟨j + 1, d + 1 - 1, max (max m (d + 1)) (d + 1 + h), if d + 1 = 0 then n + b else n⟩ : Cn) = ⟨j + 1, d, max m (d + (h + 1 : Nat)), if d = 0 then n + (0 : Nat) else n⟩ := by
    rw [if_neg (by omega)]
    congr 1
    · omega
    · omega
    · split <;> omega
  rw [e2]
  exact .refl _
theorem Sk.plain {s : ByteArray} : ∀ {k i : Nat}, i + k ≤ s.size → (∀ l, i ≤ l → l < i + k → byt s l ≠ 92 ∧ byt s l ≠ 91 ∧ byt s l ≠ 40 ∧ byt s l ≠ 41 ∧ byt s l ≠ 124) → Sk s i (i + k) 0 0 := by
  intro k
  induction k with
  | zero => intro i _ _; exact Sk.refl s i
  | succ k ih =>
    intro i hi hp
    obtain ⟨p1, p2, p3, p4, p5⟩ := hp i (by omega) (by omega)
    have h1 := Sk.one (by omega) p1 p2 p3 p4 p5
    have h2 := ih (i := i + 1) (by omega) (fun l h1 h2 => hp l (by omega) (by omega))
    have h3 := h1.seq h2
    rw [show i + 1 + k = i + (k + 1) by omega] at h3
    exact h3
end Go.Proofs.Ytlcnmfgmgiijpaa

/- A pattern that is read, read where a ')' or a '|' stands behind it, and at another depth: the same tree, or the group that is too deep. -/
namespace Go.Proofs.Ytlcnmfgmgiijpaa

/-- s' goes on where s ends with nothing, a ')' or a '|' -/
structure Stops (s s' : ByteArray) : Prop where
  a : Agree s s' s.size
  e : s'.size = s.size ∨ byt s' s.size = 41 ∨ byt s' s.size = 124
variable {s s' : ByteArray}
theorem Stops.le (h : Stops s s') : s.size ≤ s'.size := h.a.le'
theorem Stops.sees (h : Stops s s') {i b : Nat} (hi : i ≤ s.size) (h1 : b ≠ 41) (h2 : b ≠ 124) : Ytlcnmfgmgiijpaa.sees s' i b = Ytlcnmfgmgiijpaa.sees s i b := by
  by_cases e : i = s.size
  · subst e
    have h3 : Ytlcnmfgmgiijpaa.sees s s.size b = false := by simp [Ytlcnmfgmgiijpaa.sees]
    rw [h3]
    unfold Ytlcnmfgmgiijpaa.sees
    simp
    intro h4
    rcases h.e with h5 | h5 | h5 <;> omega
  · exact h.a.sees (by omega) b
theorem Stops.digit (h : Stops s s') {i : Nat} (hi : i ≤ s.size) : isDigit s' i = isDigit s i := by
  by_cases e : i = s.size
  · subst e
    have h3 : isDigit s s.size = false := by simp [isDigit]
    rw [h3]
    unfold isDigit
    simp
    intro h4
    rcases h.e with h5 | h5 | h5 <;> omega
  · exact h.a.digit (by omega)
theorem Stops.digits (h : Stops s s') : ∀ (f i n : Nat), i ≤ s.size → Ytlcnmfgmgiijpaa.digits s' f i n = Ytlcnmfgmgiijpaa.digits s f i n ∧ (Ytlcnmfgmgiijpaa.digits s f i n).2 ≤ s.size ∧ i ≤ (Ytlcnmfgmgiijpaa.digits s f i n).2 ∧ ∀ l, i ≤ l → l < (Ytlcnmfgmgiijpaa.digits s f i n).2 → 48 ≤ byt s l ∧ byt s l ≤ 57 := by
  intro f
  induction f with
  | zero => intro i n hi; exact ⟨rfl, hi, Nat.le_refl _, fun l h1 h2 => absurd h2 (by simp [Ytlcnmfgmgiijpaa.digits]; exact h1)⟩
  | succ f ih =>
    intro i n hi
    rw [Ytlcnmfgmgiijpaa.digits, Ytlcnmfgmgiijpaa.digits, h.digit hi]
    by_cases hd : isDigit s i = true
    · have hd' := hd
      unfold isDigit at hd'
      simp at hd'
      have hb : byt s' i = byt s i := (h.a.same i (by omega)).symm
      obtain ⟨i1, i2, i3, i4⟩ := ih (i + 1) (n * 10 + (byt s i - 48)) (by omega)
      rw [if_pos hd, if_pos hd, hb]
      refine ⟨i1, i2, by omega, fun l h1 h2 => ?_⟩
      by_cases e : l = i
      · subst e; omega
      · exact i4 l (by omega) h2
    · rw [if_neg hd, if_neg hd]
      exact ⟨rfl, hi, Nat.le_refl _, fun l h1 h2 => absurd h2 (by simp; exact h1)⟩
/-- no byte that counts -/
def Pl (s : ByteArray) (i j : Nat) : Prop := ∀ l, i ≤ l → l < j → byt s l ≠ 92 ∧ byt s l ≠ 91 ∧ byt s l ≠ 40 ∧ byt s l ≠ 41 ∧ byt s l ≠ 124
theorem Pl.seq {i j k : Nat} (h1 : Pl s i j) (h2 : Pl s j k) : Pl s i k := fun l a b => by
  by_cases e : l < j
  · exact h1 l a e
  · exact h2 l (by omega) b
theorem Pl.one {i b : Nat} (h : Ytlcnmfgmgiijpaa.sees s i b = true) (hb : b ≠ 92 ∧ b ≠ 91 ∧ b ≠ 40 ∧ b ≠ 41 ∧ b ≠ 124) : Pl s i (i + 1) := fun l h1 h2 => by
  have e : l = i := by omega
  subst e
  unfold Ytlcnmfgmgiijpaa.sees at h
  simp at h
  rw [h.2]
  exact hb
theorem Pl.sk {i j : Nat} (h : Pl s i j) (hij : i ≤ j) (hj : j ≤ s.size) : Sk s i j 0 0 := by
  obtain ⟨k, rfl⟩ : ∃ k, j = i + k := ⟨j - i, by omega⟩
  exact Sk.plain hj h
theorem Stops.count (h : Stops s s') (o : Nat) {i : Nat} (hi : i ≤ s.size) : Ytlcnmfgmgiijpaa.count s' o i = Ytlcnmfgmgiijpaa.count s o i ∧ ∀ n j, Ytlcnmfgmgiijpaa.count s o i = .ok n j → j ≤ s.size ∧ i ≤ j ∧ Pl s i j := by
  obtain ⟨h1, h2, h3, h4⟩ := h.digits 3 i 0 hi
  unfold Ytlcnmfgmgiijpaa.count
  rw [h1]
  refine ⟨rfl, fun n j hc => ?_⟩
  split at hc
  · cases hc
  · cases hc
    refine ⟨h2, h3, fun l a b => ?_⟩
    have := h4 l a b
    omega
theorem Stops.countsEnd (h : Stops s s') (o : Nat) (l m : Int) {j : Nat} (hj : j ≤ s.size) : Ytlcnmfgmgiijpaa.countsEnd s' o l m j = Ytlcnmfgmgiijpaa.countsEnd s o l m j ∧ ∀ x k, Ytlcnmfgmgiijpaa.countsEnd s o l m j = .ok x k → k = j ∧ Ytlcnmfgmgiijpaa.sees s j 125 = true := by
  unfold Ytlcnmfgmgiijpaa.countsEnd
  rw [h.sees hj (by omega) (by omega)]
  refine ⟨rfl, fun x k hc => ?_⟩
  split at hc
  · rename_i hh
    simp at hh
    cases hc
    exact ⟨rfl, hh.1⟩
  · cases hc
theorem Stops.counts (h : Stops s s') {i : Nat} (hs : Ytlcnmfgmgiijpaa.sees s i 123 = true) : Ytlcnmfgmgiijpaa.counts s' i = Ytlcnmfgmgiijpaa.counts s i ∧ ∀ x j, Ytlcnmfgmgiijpaa.counts s i = .ok x j → j + 1 ≤ s.size ∧ i ≤ j ∧ Pl s i (j + 1) := by
  have hi := sees_lt hs
  obtain ⟨c1, c2⟩ := h.count i (i := i + 1) (by omega)
  have p0 := Pl.one hs (by omega)
  have pend : ∀ {o k : Nat} {l m : Int} {x : Int × Int} {j : Nat}, k ≤ s.size → i ≤ k → Pl s i k → Ytlcnmfgmgiijpaa.countsEnd s o l m k = .ok x j → j + 1 ≤ s.size ∧ i ≤ j ∧ Pl s i (j + 1) := fun {o k l m x j} hk hik hp hc => by
    obtain ⟨rfl, h2⟩ := (h.countsEnd o l m hk).2 x j hc
    exact ⟨sees_lt h2, hik, hp.seq (Pl.one h2 (by omega))⟩
  unfold Ytlcnmfgmgiijpaa.counts
  rw [c1]
  cases hc1 : Ytlcnmfgmgiijpaa.count s i (i + 1) with
  | bad a e => exact ⟨rfl, fun x j hc => by cases hc⟩
  | out => exact ⟨rfl, fun x j hc => by cases hc⟩
  | ok l j =>
    obtain ⟨j1, j2, j3⟩ := c2 l j hc1
    have p1 := p0.seq j3
    simp only
    rw [h.sees j1 (by omega) (by omega)]
    by_cases h44 : Ytlcnmfgmgiijpaa.sees s j 44 = true
    · have hj := sees_lt h44
      have p2 := p1.seq (Pl.one h44 (by omega))
      rw [if_pos h44, if_pos h44, h.sees (i := j + 1) (by omega) (by omega) (by omega)]
      split
      · exact ⟨(h.countsEnd _ _ _ (by omega)).1, fun x k hc => pend (by omega) (by omega) p2 hc⟩
      · obtain ⟨d1, d2⟩ := h.count i (i := j + 1) (by omega)
        rw [d1]
        cases hc2 : Ytlcnmfgmgiijpaa.count s i (j + 1) with
        | bad a e => exact ⟨rfl, fun x j hc => by cases hc⟩
        | out => exact ⟨rfl, fun x j hc => by cases hc⟩
        | ok m k =>
          obtain ⟨k1, k2, k3⟩ := d2 m k hc2
          exact ⟨(h.countsEnd _ _ _ k1).1, fun x q hc => pend k1 (by omega) (p2.seq k3) hc⟩
    · rw [if_neg h44, if_neg h44]
      exact ⟨(h.countsEnd _ _ _ j1).1, fun x k hc => pend j1 (by omega) p1 hc⟩
theorem Stops.repeated (h : Stops s s') (t : Tr) {i : Nat} (hi : i ≤ s.size) : Ytlcnmfgmgiijpaa.repeated s' t i = Ytlcnmfgmgiijpaa.repeated s t i ∧ ∀ u j, Ytlcnmfgmgiijpaa.repeated s t i = .ok u j → Sk s i j 0 0 := by
  unfold Ytlcnmfgmgiijpaa.repeated
  rw [h.sees hi (by omega) (by omega), h.sees hi (by omega) (by omega), h.sees hi (by omega) (by omega), h.sees hi (by omega) (by omega)]
  split
  · rename_i hs
    exact ⟨rfl, fun u j hc => by cases hc; exact (Pl.one hs (by omega)).sk (by omega) (sees_lt hs)⟩
  · split
    · rename_i hs
      exact ⟨rfl, fun u j hc => by cases hc; exact (Pl.one hs (by omega)).sk (by omega) (sees_lt hs)⟩
    · split
      · rename_i hs
        exact ⟨rfl, fun u j hc => by cases hc; exact (Pl.one hs (by omega)).sk (by omega) (sees_lt hs)⟩
      · split
        · rename_i hs
          obtain ⟨c1, c2⟩ := h.counts hs
          rw [c1]
          refine ⟨rfl, fun u j hc => ?_⟩
          split at hc
          · rename_i l m k hk
            cases hc
            obtain ⟨k1, k2, k3⟩ := c2 _ _ hk
            exact k3.sk (by omega) k1
          · cases hc
          · cases hc
        · exact ⟨rfl, fun u j hc => by cases hc; exact Sk.refl s i⟩
/-! ### where a reading stops -/
theorem read_stop (s : ByteArray) (n : Nat) : (∀ d i t j, pat s n d i = .ok t j → j < s.size → byt s j = 41) ∧ (∀ d acc i t j, patLoop s n d acc i = .ok t j → (i < s.size → byt s i = 41 ∨ byt s i = 124) → j < s.size → byt s j = 41) ∧ (∀ d i t j, alt s n d i = .ok t j → j < s.size → byt s j = 41 ∨ byt s j = 124) ∧ (∀ d acc i t j, altLoop s n d acc i = .ok t j → j < s.size → byt s j = 41 ∨ byt s j = 124) := by
  induction n with
  | zero => refine ⟨?_, ?_, ?_, ?_⟩ <;> intros <;> simp_all [pat, patLoop, alt, altLoop]
  | succ n ih =>
    obtain ⟨i1, i2, i3, i4⟩ := ih
    refine ⟨fun d i t j h hj => ?_, fun d acc i t j h hi hj => ?_, fun d i t j h hj => ?_, fun d acc i t j h hj => ?_⟩
    · rw [pat] at h
      split at h
      · rename_i u k hc
        exact i2 _ _ _ _ _ h (fun hk => i3 _ _ _ _ hc hk) hj
      · cases h
      · cases h
    · rw [patLoop] at h
      split at h
      · split at h
        · rename_i u k hc
          exact i2 _ _ _ _ _ h (fun hk => i3 _ _ _ _ hc hk) hj
        · cases h
        · cases h
      · rename_i hs
        cases h
        unfold sees at hs
        simp [hj] at hs
        rcases hi hj with e | e
        · exact e
        · exact absurd e hs
    · rw [alt] at h
      exact i4 _ _ _ _ _ h hj
    · rw [altLoop] at h
      split at h
      · split at h
        · exact i4 _ _ _ _ _ h hj
        · cases h
        · cases h
      · rename_i hs
        cases h
        unfold sees at hs
        simp [hj] at hs
        by_cases e : byt s i = 124
        · exact Or.inr e
        · exact Or.inl (hs e)
/-- read at any depth: the tree, or the group that is too deep -/
def Deep (R : Nat → Rs Tr) (t : Tr) (j h : Nat) : Prop := (∀ d, d + h ≤ 64 → R d = .ok t j) ∧ (∀ d, d ≤ 64 → 64 < d + h → ∃ a, R d = .bad a 47)
theorem Stops.goes (h : Stops s s') {i : Nat} (hi : i ≤ s.size) : (decide (i < s'.size) && !(Ytlcnmfgmgiijpaa.sees s' i 124) && !(Ytlcnmfgmgiijpaa.sees s' i 41)) = (decide (i < s.size) && !(Ytlcnmfgmgiijpaa.sees s i 124) && !(Ytlcnmfgmgiijpaa.sees s i 41)) := by
  by_cases e : i = s.size
  · subst e
    rw [Bool.eq_iff_iff]
    unfold Ytlcnmfgmgiijpaa.sees
    simp
    intro h1 h2
    rcases h.e with h5 | h5 | h5
    · omega
    · exact ⟨h1, h5⟩
    · omega
  · have hl := h.le
    rw [h.a.sees (by omega), h.a.sees (by omega)]
    congr 2
    rw [Bool.eq_iff_iff]
    simp
    omega
theorem read_rise (h : Stops s s') (n : Nat) :
    (∀ d i t j, pat s n d i = .ok t j → i ≤ s.size → ∃ q b, Sk s i j q b ∧ (b = 0 → alt s (n - 1) d i = .ok t j) ∧ ((j < s.size ∨ sees s' s.size 124 = false) → Deep (fun d' => pat s' n d' i) t j q)) ∧
    (∀ d acc i t j, patLoop s n d acc i = .ok t j → i ≤ s.size → ∃ q b, Sk s i j q b ∧ (b = 0 → t = together 4 acc ∧ j = i) ∧ ((j < s.size ∨ sees s' s.size 124 = false) → Deep (fun d' => patLoop s' n d' acc i) t j q)) ∧
    (∀ d i t j, alt s n d i = .ok t j → i ≤ s.size → ∃ q, Sk s i j q 0 ∧ Deep (fun d' => alt s' n d' i) t j q) ∧
    (∀ d acc i t j, altLoop s n d acc i = .ok t j → i ≤ s.size → ∃ q, Sk s i j q 0 ∧ Deep (fun d' => altLoop s' n d' acc i) t j q) ∧
    (∀ d i t j, piece s n d i = .ok t j → i < s.size → byt s i ≠ 41 → byt s i ≠ 124 → ∃ q, Sk s i j q 0 ∧ Deep (fun d' => piece s' n d' i) t j q) ∧
    (∀ d i t j, atom s n d i = .ok t j → i < s.size → byt s i ≠ 41 → byt s i ≠ 124 → ∃ q, Sk s i j q 0 ∧ Deep (fun d' => atom s' n d' i) t j q) ∧
    (∀ d i t j, group s n d i = .ok t j → i < s.size → byt s i = 40 → ∃ q, Sk s i j q 0 ∧ Deep (fun d' => group s' n d' i) t j q) := by
  have hl := h.le
  induction n with
  | zero => refine ⟨?_, ?_, ?_, ?_, ?_, ?_, ?_⟩ <;> intros <;> rename_i hh _ <;> simp_all [pat, patLoop, alt, altLoop, piece, atom, group]
  | succ n ih =>
    obtain ⟨i1, i2, i3, i4, i5, i6, i7⟩ := ih
    obtain ⟨r1, r2, r3, r4, r5, r6, r7⟩ := read_at s n
    refine ⟨fun d i t j hc hi => ?_, fun d acc i t j hc hi => ?_, fun d i t j hc hi => ?_, fun d acc i t j hc hi => ?_, fun d i t j hc hi n1 n2 => ?_, fun d i t j hc hi n1 n2 => ?_, fun d i t j hc hi n40 => ?_⟩
    · rw [pat] at hc
      split at hc
      · rename_i u k hu
        have hk : k ≤ s.size := (r3 d i hi).1 _ _ hu
        obtain ⟨q1, s1, a1, b1⟩ := i3 _ _ _ _ hu hi
        obtain ⟨q2, b, s2, e2, d2⟩ := i2 _ _ _ _ _ hc hk
        refine ⟨max q1 q2, 0 + b, s1.seq s2, fun hb => ?_, fun hj => ⟨fun d' hd => ?_, fun d' hd hq => ?_⟩⟩
        · obtain ⟨rfl, rfl⟩ := e2 (by omega)
          exact hu
        · obtain ⟨a2, b2⟩ := d2 hj
          have e1 := a1 d' (by omega)
          have e2 := a2 d' (by omega)
          simp only at e1 e2 ⊢
          rw [pat, e1]
          exact e2
        · obtain ⟨a2, b2⟩ := d2 hj
          simp only
          rw [pat]
          by_cases hq1 : d' + q1 ≤ 64
          · have e1 := a1 d' hq1
            simp only at e1
            rw [e1]
            exact b2 d' hd (by omega)
          · obtain ⟨a, e1⟩ := b1 d' hd (by omega)
            simp only at e1
            rw [e1]
            exact ⟨a, rfl⟩
      · cases hc
      · cases hc
    · rw [patLoop] at hc
      split at hc
      · rename_i hb
        have hlt := sees_lt hb
        split at hc
        · rename_i u k hu
          have hk : k ≤ s.size := (r3 d (i + 1) (by omega)).1 _ _ hu
          obtain ⟨q1, s1, a1, b1⟩ := i3 _ _ _ _ hu (by omega)
          obtain ⟨q2, b, s2, e2, d2⟩ := i2 _ _ _ _ _ hc hk
          have hb' := hb
          unfold sees at hb'
          simp at hb'
          have hs' : sees s' i 124 = true := by rw [h.a.sees (by omega)]; exact hb
          refine ⟨max 0 (max q1 q2), 1 + (0 + b), (Sk.bar hlt hb'.2).seq (s1.seq s2), fun hb => absurd hb (by omega), fun hj => ⟨fun d' hd => ?_, fun d' hd hq => ?_⟩⟩
          · obtain ⟨a2, b2⟩ := d2 hj
            have e1 := a1 d' (by omega)
            have e2 := a2 d' (by omega)
            simp only at e1 e2 ⊢
            rw [patLoop, if_pos hs', e1]
            exact e2
          · obtain ⟨a2, b2⟩ := d2 hj
            simp only
            rw [patLoop, if_pos hs']
            by_cases hq1 : d' + q1 ≤ 64
            · have e1 := a1 d' hq1
              simp only at e1
              rw [e1]
              exact b2 d' hd (by omega)
            · obtain ⟨a, e1⟩ := b1 d' hd (by omega)
              simp only at e1
              rw [e1]
              exact ⟨a, rfl⟩
        · cases hc
        · cases hc
      · rename_i hb
        cases hc
        refine ⟨0, 0, Sk.refl s i, fun _ => ⟨rfl, rfl⟩, fun hj => ⟨fun d' hd => ?_, fun d' hd hq => absurd hq (by omega)⟩⟩
        simp only
        have hs' : ¬ sees s' i 124 = true := by
          by_cases e : i = s.size
          · rcases hj with hj | hj
            · omega
            · rw [e, hj]; simp
          · rw [h.a.sees (by omega)]; exact hb
        rw [patLoop, if_neg hs']
    · rw [alt] at hc
      obtain ⟨q, s1, a1, b1⟩ := i4 _ _ _ _ _ hc hi
      refine ⟨q, s1, fun d' hd => ?_, fun d' hd hq => ?_⟩
      · simp only; rw [alt]; exact a1 d' hd
      · simp only; rw [alt]; exact b1 d' hd hq
    · rw [altLoop] at hc
      split at hc
      · rename_i hg
        have hg' := hg
        unfold sees at hg'
        simp at hg'
        obtain ⟨⟨hlt, g1⟩, g2⟩ := hg'
        split at hc
        · rename_i u k hu
          have hk : k ≤ s.size := (r5 d i hlt).1 _ _ hu
          obtain ⟨q1, s1, a1, b1⟩ := i5 _ _ _ _ hu hlt (by omega) (by omega)
          obtain ⟨q2, s2, a2, b2⟩ := i4 _ _ _ _ _ hc hk
          refine ⟨max q1 q2, s1.seq s2, fun d' hd => ?_, fun d' hd hq => ?_⟩
          · have e1 := a1 d' (by omega)
            have e2 := a2 d' (by omega)
            simp only at e1 e2 ⊢
            rw [altLoop, h.goes hi, if_pos hg, e1]
            exact e2
          · simp only
            rw [altLoop, h.goes hi, if_pos hg]
            by_cases hq1 : d' + q1 ≤ 64
            · have e1 := a1 d' hq1
              simp only at e1
              rw [e1]
              exact b2 d' hd (by omega)
            · obtain ⟨a, e1⟩ := b1 d' hd (by omega)
              simp only at e1
              rw [e1]
              exact ⟨a, rfl⟩
        · cases hc
        · cases hc
      · rename_i hg
        cases hc
        refine ⟨0, Sk.refl s i, fun d' hd => ?_, fun d' hd hq => absurd hq (by omega)⟩
        simp only
        rw [altLoop, h.goes hi, if_neg hg]
    · have hb : byt s' i = byt s i := (h.a.same i hi).symm
      rw [piece] at hc
      split at hc
      · rename_i e
        cases hc
        refine ⟨0, Sk.one hi (by omega) (by omega) (by omega) (by omega) (by omega), fun d' hd => ?_, fun d' hd hq => absurd hq (by omega)⟩
        simp only
        rw [piece, hb, if_pos e]
      · rename_i e1
        split at hc
        · rename_i e
          cases hc
          refine ⟨0, Sk.one hi (by omega) (by omega) (by omega) (by omega) (by omega), fun d' hd => ?_, fun d' hd hq => absurd hq (by omega)⟩
          simp only
          rw [piece, hb, if_neg e1, if_pos e]
        · rename_i e2
          split at hc
          · rename_i u k hu
            have hk : k ≤ s.size := (r6 d i hi).1 _ _ hu
            obtain ⟨q, s1, a1, b1⟩ := i6 _ _ _ _ hu hi n1 n2
            obtain ⟨x1, x2⟩ := h.repeated u hk
            refine ⟨max q 0, s1.seq (x2 _ _ hc), fun d' hd => ?_, fun d' hd hq => ?_⟩
            · have e3 := a1 d' (by omega)
              simp only at e3 ⊢
              rw [piece, hb, if_neg e1, if_neg e2, e3]
              exact x1.trans hc
            · obtain ⟨a, e3⟩ := b1 d' hd (by omega)
              simp only at e3 ⊢
              rw [piece, hb, if_neg e1, if_neg e2, e3]
              exact ⟨a, rfl⟩
          · cases hc
          · cases hc
    · have hb : byt s' i = byt s i := (h.a.same i hi).symm
      rw [atom] at hc
      split at hc
      · cases hc
      · rename_i m0
        split at hc
        · rename_i m1
          obtain ⟨q, s1, a1, b1⟩ := i7 _ _ _ _ hc hi m1
          refine ⟨q, s1, fun d' hd => ?_, fun d' hd hq => ?_⟩
          · simp only; rw [atom, hb, if_neg m0, if_pos m1]; exact a1 d' hd
          · simp only; rw [atom, hb, if_neg m0, if_pos m1]; exact b1 d' hd hq
        · rename_i m1
          split at hc
          · rename_i m2
            split at hc
            · rename_i a k ha
              cases hc
              have hk := (setOf_at hi).1 _ _ ha
              have ha' := h.a.setOf hi ha hk
              refine ⟨0, Sk.set hi m2 ha, fun d' hd => ?_, fun d' hd hq => absurd hq (by omega)⟩
              simp only
              rw [atom, hb, if_neg m0, if_neg m1, if_pos m2, ha']
            · cases hc
            · cases hc
          · rename_i m2
            split at hc
            · rename_i m3
              cases hc
              refine ⟨0, Sk.one hi (by omega) (by omega) (by omega) (by omega) (by omega), fun d' hd => ?_, fun d' hd hq => absurd hq (by omega)⟩
              simp only
              rw [atom, hb, if_neg m0, if_neg m1, if_neg m2, if_pos m3]
            · rename_i m3
              split at hc
              · rename_i m4
                split at hc
                · cases hc
                · rename_i m5
                  cases hc
                  simp at m5
                  have hlt : i + 1 < s.size := by omega
                  have hb1 : byt s' (i + 1) = byt s (i + 1) := (h.a.same (i + 1) hlt).symm
                  refine ⟨0, Sk.esc hi m4, fun d' hd => ?_, fun d' hd hq => absurd hq (by omega)⟩
                  simp only
                  rw [atom, hb, hb1, if_neg m0, if_neg m1, if_neg m2, if_neg m3, if_pos m4, if_neg (by simp; exact ⟨by omega, m5.2⟩)]
              · rename_i m4
                cases hc
                refine ⟨0, Sk.one hi (by omega) (by omega) (by omega) (by omega) (by omega), fun d' hd => ?_, fun d' hd hq => absurd hq (by omega)⟩
                simp only
                rw [atom, hb, if_neg m0, if_neg m1, if_neg m2, if_neg m3, if_neg m4]
    · rw [group] at hc
      split at hc
      · cases hc
      · split at hc
        · rename_i u k hu
          split at hc
          · cases hc
          · rename_i hne
            cases hc
            have hk : k ≤ s.size := (r1 (d + 1) (i + 1) hi).1 _ _ hu
            have h41 : byt s k = 41 := (read_stop s n).1 _ _ _ _ hu (by omega)
            obtain ⟨q, b, s1, _, dd⟩ := i1 _ _ _ _ hu hi
            obtain ⟨a1, b1⟩ := dd (Or.inl (by omega))
            refine ⟨q + 1, Sk.group hi n40 s1 (by omega) h41, fun d' hd => ?_, fun d' hd hq => ?_⟩
            · have e1 := a1 (d' + 1) (by omega)
              simp only at e1 ⊢
              rw [group, if_neg (by omega), e1]
              simp only
              rw [if_neg (by omega)]
            · simp only
              rw [group]
              by_cases hd64 : d' = 64
              · rw [if_pos hd64]; exact ⟨i, rfl⟩
              · obtain ⟨a, e1⟩ := b1 (d' + 1) (by omega) (by omega)
                simp only at e1
                rw [if_neg hd64, e1]
                exact ⟨a, rfl⟩
        · cases hc
        · cases hc
end Go.Proofs.Ytlcnmfgmgiijpaa
