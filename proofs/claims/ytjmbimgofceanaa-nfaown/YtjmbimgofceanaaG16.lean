/- is, walked: what is read is a tree by the chapter's word. -/
import Derived.Test.YtjmbimgofceanaaG15
import Derived.Deep.DeepCutAuto
import Derived.Test.YtjmbimgofceanaaG08
import Derived.Deep.DeepAppendRoom
import Derived.Deep.AppendLies
namespace Go.Proofs.Ytjmbimgofceanaa
open Go.RowKit
attribute [local go_sem ↓] Go.wp_at_zero Go.wp_at_succ

theorem noSet_none : noSet Oct.none = true := by unfold noSet; rw [show Oct.none = fun _ => false from rfl]; simp [Oct.word_none]
end Go.Proofs.Ytjmbimgofceanaa

/- heronref04.Is, walked: of any node, what ere's own places asks. -/
namespace Go.Proofs.Ytjmbimgofceanaa
open Go.RowKit
attribute [local go_sem ↓] Go.wp_at_zero Go.wp_at_succ

theorem plcs_some {ts : List Tn} : ∀ n, (plcs ts n).isSome = ts.all (fun t => (plc t).2) := by
  induction ts with
  | nil => intro n; rw [plcs]; rfl
  | cons t ts ih =>
    intro n
    rw [plcs, List.all_cons]
    cases (plc t).2 with
    | true => rw [if_pos rfl, ih, Bool.true_and]
    | false => rfl
theorem plc_snd (k : Int) (s : Oct.S) (subs : List Tn) (mn mx : Int) : (plc (.mk k s subs mn mx)).2 = (shapedT k s subs.length mn mx && subs.all (fun t => (plc t).2)) := by
  rw [plc, ← plcs_some 0]
  cases shapedT k s subs.length mn mx with
  | false => rfl
  | true =>
    rw [if_pos rfl]
    cases plcs subs 0 <;> rfl
end Go.Proofs.Ytjmbimgofceanaa

/- The document's count and Places of layer 4, and the law's nodes. -/
namespace Go.Proofs.Ytjmbimgofceanaa
open Go.RowKit
attribute [local go_sem ↓] Go.wp_at_zero Go.wp_at_succ

theorem rep_same {n m l : Nat} {x : Int} (h : min n 2048 = min m 2048) (hx : -1 ≤ x) : min (repT n l x).toNat 2048 = min (repT m l x).toNat 2048 := by
  by_cases hs : n = m
  · rw [hs]
  · have hn : 2048 ≤ n := by omega
    have hm : 2048 ≤ m := by omega
    have hn0 : ¬ n = 0 := by omega
    have hm0 : ¬ m = 0 := by omega
    unfold repT
    rw [if_neg hn0, if_neg hm0]
    by_cases h1 : x = -1
    · rw [if_pos h1, if_pos h1]
      have p1 : (0 : Int) ≤ (l : Int) * n := Int.mul_nonneg (by omega) (by omega)
      have p2 : (0 : Int) ≤ (l : Int) * m := Int.mul_nonneg (by omega) (by omega)
      omega
    · rw [if_neg h1, if_neg h1]
      by_cases h2 : (l : Int) < x
      · rw [if_pos h2, if_pos h2]
        have p1 : (1 : Int) * n ≤ x * n := Int.mul_le_mul_of_nonneg_right (by omega) (by omega)
        have p2 : (1 : Int) * m ≤ x * m := Int.mul_le_mul_of_nonneg_right (by omega) (by omega)
        omega
      · rw [if_neg h2, if_neg h2]
        by_cases h3 : l = 0
        · subst h3; simp
        · have p1 : (1 : Int) * n ≤ (l : Int) * n := Int.mul_le_mul_of_nonneg_right (by omega) (by omega)
          have p2 : (1 : Int) * m ≤ (l : Int) * m := Int.mul_le_mul_of_nonneg_right (by omega) (by omega)
          omega
theorem shaped_five {s : Oct.S} {n : Nat} {mn mx : Int} {k : Int} (h : shapedT k s n mn mx = true) (hk : k = 5) : 0 ≤ mn ∧ mn ≤ 255 ∧ -1 ≤ mx ∧ mx ≤ 255 := by
  subst hk
  unfold shapedT at h
  simp [counted] at h
  omega
end Go.Proofs.Ytjmbimgofceanaa

/- Machines laid of trees, as plain functions; how great they grow. -/
namespace Go.Proofs.Ytjmbimgofceanaa

structure Eg where
  k : Int
  f : Int
  t : Int
  s : Oct.S
/-- a machine that is laid -/
structure Mk where
  S : Nat
  es : List Eg
def Mk.st (m : Mk) : Mk := ⟨m.S + 1, m.es⟩
def Mk.ed (m : Mk) (e : Eg) : Mk := ⟨m.S, m.es ++ [e]⟩
def Mk.fr (m : Mk) (a b : Nat) : Mk := m.ed ⟨1, a, b, Oct.none⟩
def frees : List Nat → Nat → Mk → Mk
  | [], _, m => m
  | a :: l, s, m => frees l s (m.fr a s)
def rounds (F : Mk → Nat → Mk × Nat) : Nat → Mk × Nat → Mk × Nat
  | 0, x => x
  | n + 1, x => rounds F n (F x.1 x.2)
def tails (F : Mk → Nat → Mk × Nat) : Nat → Mk × Nat → List Nat → Mk × List Nat
  | 0, x, l => (x.1, l)
  | n + 1, x, l => tails F n (F x.1 x.2) (l ++ [(F x.1 x.2).2])
def joint (r : Mk × List Nat) : Mk × Nat := (frees r.2 r.1.S r.1.st, r.1.S)
def again (F : Mk → Nat → Mk × Nat) (c : Mk × Nat) : Mk × Nat :=
  (((((F (c.1.st.fr c.2 c.1.S) c.1.S).1.fr (F (c.1.st.fr c.2 c.1.S) c.1.S).2 c.1.S)).st).fr c.1.S (F (c.1.st.fr c.2 c.1.S) c.1.S).1.S, (F (c.1.st.fr c.2 c.1.S) c.1.S).1.S)
def timesOf (F : Mk → Nat → Mk × Nat) (p : Nat) (mn mx : Int) (m : Mk) (a : Nat) : Mk × Nat :=
  if p = 1 then (m, a)
  else if mx = -1 then again F (rounds F mn.toNat (m, a))
  else if mx = mn then rounds F mn.toNat (m, a)
  else joint (tails F (mx - mn).toNat (rounds F mn.toNat (m, a)) [(rounds F mn.toNat (m, a)).2])
def hd : List Tn → Tn
  | t :: _ => t
  | [] => .mk 0 Oct.none [] 0 0
mutual
def lay : Tn → Mk → Nat → Mk × Nat
  | .mk k s subs mn mx, m, a =>
    if k = 2 ∨ k = 6 ∨ k = 7 then (m.st.ed ⟨if k = 2 then 2 else k - 3, a, m.S, s⟩, m.S)
    else if k = 3 then seqs subs m a
    else if k = 4 then joint (alts subs m a [])
    else if k = 5 then timesOf (fun m a => heads subs m a) (placesOf (hd subs)) mn mx m a
    else (m, a)
def seqs : List Tn → Mk → Nat → Mk × Nat
  | [], m, a => (m, a)
  | t :: ts, m, a => seqs ts (lay t m a).1 (lay t m a).2
def alts : List Tn → Mk → Nat → List Nat → Mk × List Nat
  | [], m, _, l => (m, l)
  | t :: ts, m, a, l => alts ts (lay t (m.st.fr a m.S) m.S).1 a (l ++ [(lay t (m.st.fr a m.S) m.S).2])
def heads : List Tn → Mk → Nat → Mk × Nat
  | [], m, a => (m, a)
  | t :: _, m, a => lay t m a
end
theorem lay_mk (k : Int) (s : Oct.S) (subs : List Tn) (mn mx : Int) (m : Mk) (a : Nat) : lay (.mk k s subs mn mx) m a =
    (if k = 2 ∨ k = 6 ∨ k = 7 then (m.st.ed ⟨if k = 2 then 2 else k - 3, a, m.S, s⟩, m.S)
    else if k = 3 then seqs subs m a
    else if k = 4 then joint (alts subs m a [])
    else if k = 5 then timesOf (lay (hd subs)) (placesOf (hd subs)) mn mx m a
    else (m, a)) := by
  rw [lay]
  by_cases h5 : k = 5
  · subst h5
    simp only [show ¬ ((5 : Int) = 2 ∨ (5 : Int) = 6 ∨ (5 : Int) = 7) by decide, show ¬ (5 : Int) = 3 by decide, show ¬ (5 : Int) = 4 by decide, if_false, if_true]
    cases subs with
    | nil =>
      have e : (fun (m : Mk) (a : Nat) => heads [] m a) = lay (hd []) := by
        funext m a
        rw [heads, hd, lay]
        simp
      rw [e]
    | cons t ts =>
      have e : (fun (m : Mk) (a : Nat) => heads (t :: ts) m a) = lay (hd (t :: ts)) := by
        funext m a
        rw [heads, hd]
      rw [e]
  · simp [h5]
/-- it only grows -/
def Mk.le (m m' : Mk) : Prop := m.S ≤ m'.S ∧ m.es.length ≤ m'.es.length
theorem Mk.le.refl (m : Mk) : m.le m := ⟨Nat.le_refl _, Nat.le_refl _⟩
theorem Mk.le.trans {a b c : Mk} (h : a.le b) (h2 : b.le c) : a.le c := ⟨Nat.le_trans h.1 h2.1, Nat.le_trans h.2 h2.2⟩
theorem Mk.le_st (m : Mk) : m.le m.st := ⟨Nat.le_succ _, Nat.le_refl _⟩
theorem Mk.le_ed (m : Mk) (e : Eg) : m.le (m.ed e) := ⟨Nat.le_refl _, by simp [Mk.ed]⟩
theorem Mk.le_fr (m : Mk) (a b : Nat) : m.le (m.fr a b) := m.le_ed _
theorem frees_le : ∀ (l : List Nat) (s : Nat) (m : Mk), m.le (frees l s m)
  | [], _, m => .refl m
  | a :: l, s, m => (m.le_fr a s).trans (frees_le l s _)
theorem joint_le (r : Mk × List Nat) : r.1.le (joint r).1 := r.1.le_st.trans (frees_le _ _ _)
def Grows (F : Mk → Nat → Mk × Nat) : Prop := ∀ (m : Mk) (a : Nat), m.le (F m a).1
theorem rounds_le {F : Mk → Nat → Mk × Nat} (h : Grows F) : ∀ (n : Nat) (x : Mk × Nat), x.1.le (rounds F n x).1
  | 0, _ => .refl _
  | n + 1, x => (h x.1 x.2).trans (rounds_le h n _)
theorem tails_le {F : Mk → Nat → Mk × Nat} (h : Grows F) : ∀ (n : Nat) (x : Mk × Nat) (l : List Nat), x.1.le (tails F n x l).1
  | 0, _, _ => .refl _
  | n + 1, x, _ => (h x.1 x.2).trans (tails_le h n _ _)
theorem again_le {F : Mk → Nat → Mk × Nat} (h : Grows F) (c : Mk × Nat) : c.1.le (again F c).1 :=
  (c.1.le_st.trans (Mk.le_fr _ _ _)).trans ((h _ _).trans ((Mk.le_fr _ _ _).trans ((Mk.le_st _).trans (Mk.le_fr _ _ _))))
theorem times_le {F : Mk → Nat → Mk × Nat} (h : Grows F) (p : Nat) (mn mx : Int) (m : Mk) (a : Nat) : m.le (timesOf F p mn mx m a).1 := by
  unfold timesOf
  split
  · exact .refl _
  split
  · exact (rounds_le h _ (m, a)).trans (again_le h _)
  split
  · exact rounds_le h _ (m, a)
  · exact (rounds_le h _ (m, a)).trans ((tails_le h _ _ _).trans (joint_le _))
mutual
theorem lay_le : ∀ (t : Tn) (m : Mk) (a : Nat), m.le (lay t m a).1
  | .mk k s subs mn mx, m, a => by
    rw [lay]
    split
    · exact m.le_st.trans (Mk.le_ed _ _)
    split
    · exact seqs_le subs m a
    split
    · exact (alts_le subs m a []).trans (joint_le _)
    split
    · exact times_le (fun m a => heads_le subs m a) _ _ _ _ _
    · exact .refl _
theorem seqs_le : ∀ (ts : List Tn) (m : Mk) (a : Nat), m.le (seqs ts m a).1
  | [], m, a => by rw [seqs]; exact .refl _
  | t :: ts, m, a => by rw [seqs]; exact (lay_le t m a).trans (seqs_le ts _ _)
theorem alts_le : ∀ (ts : List Tn) (m : Mk) (a : Nat) (l : List Nat), m.le (alts ts m a l).1
  | [], m, a, l => by rw [alts]; exact .refl _
  | t :: ts, m, a, l => by rw [alts]; exact (m.le_st.trans (Mk.le_fr _ _ _)).trans ((lay_le t _ _).trans (alts_le ts _ _ _))
theorem heads_le : ∀ (ts : List Tn) (m : Mk) (a : Nat), m.le (heads ts m a).1
  | [], m, a => by rw [heads]; exact .refl _
  | t :: _, m, a => by rw [heads]; exact lay_le t m a
end
mutual
def raw : Tn → Nat
  | .mk k _ subs mn mx => ends k (raws subs) subs.length mn mx
def raws : List Tn → Nat
  | [] => 0
  | t :: ts => raw t + raws ts
end
mutual
theorem plc_raw : ∀ t : Tn, (plc t).2 = true → (plc t).1 = min (raw t) 2048
  | .mk k s subs mn mx, h => by
    rw [plc] at h ⊢
    rw [raw]
    cases hsh : shapedT k s subs.length mn mx with
    | false => rw [hsh] at h; simp at h
    | true =>
      rw [hsh, if_pos rfl] at h
      rw [if_pos rfl]
      cases hp : plcs subs 0 with
      | none => rw [hp] at h; simp at h
      | some n =>
        have hn := plcs_raw subs 0 n hp
        simp only [Nat.zero_add] at hn
        show min (ends k n subs.length mn mx) 2048 = _
        unfold ends
        split
        · rfl
        split
        · omega
        split
        · rename_i h5
          have h5' := shaped_five hsh h5
          exact rep_same hn (by omega)
        · exact hn
theorem plcs_raw : ∀ (ts : List Tn) (n m : Nat), plcs ts n = some m → min m 2048 = min (n + raws ts) 2048
  | [], n, m, h => by rw [plcs] at h; cases h; rw [raws, Nat.add_zero]
  | t :: ts, n, m, h => by
    rw [plcs] at h
    cases hp : (plc t).2 with
    | false => rw [hp] at h; simp at h
    | true =>
      rw [hp, if_pos rfl] at h
      have h1 := plcs_raw ts _ m h
      have h2 := plc_raw t hp
      rw [raws]
      rw [h2] at h1
      omega
end
theorem plc_subs {k : Int} {s : Oct.S} {subs : List Tn} {mn mx : Int} (h : (plc (.mk k s subs mn mx)).2 = true) : shapedT k s subs.length mn mx = true ∧ ∀ t ∈ subs, (plc t).2 = true := by
  rw [plc_snd] at h
  simp only [Bool.and_eq_true, List.all_eq_true] at h
  exact h
theorem frees_size : ∀ (l : List Nat) (s : Nat) (m : Mk), (frees l s m).S = m.S ∧ (frees l s m).es.length = m.es.length + l.length
  | [], _, m => ⟨rfl, rfl⟩
  | a :: l, s, m => by
    obtain ⟨h1, h2⟩ := frees_size l s (m.fr a s)
    refine ⟨h1, ?_⟩
    rw [frees, h2]
    simp [Mk.fr, Mk.ed]
    omega
theorem joint_size (r : Mk × List Nat) : (joint r).1.S = r.1.S + 1 ∧ (joint r).1.es.length = r.1.es.length + r.2.length := by
  obtain ⟨h1, h2⟩ := frees_size r.2 r.1.S r.1.st
  exact ⟨h1, h2⟩
/-- a tree laid adds so many states, and edges at most so many -/
def Adds (F : Mk → Nat → Mk × Nat) (r : Nat) : Prop := ∀ (m : Mk) (a : Nat), (F m a).1.S = m.S + r ∧ (F m a).1.es.length + min 1 r ≤ m.es.length + 2 * r
theorem rounds_size {F : Mk → Nat → Mk × Nat} {r : Nat} (h : Adds F r) (hr : 1 ≤ r) : ∀ (n : Nat) (x : Mk × Nat), (rounds F n x).1.S = x.1.S + n * r ∧ (rounds F n x).1.es.length + n ≤ x.1.es.length + 2 * (n * r)
  | 0, x => by simp [rounds]
  | n + 1, x => by
    obtain ⟨h1, h2⟩ := h x.1 x.2
    obtain ⟨h3, h4⟩ := rounds_size h hr n (F x.1 x.2)
    rw [rounds, Nat.succ_mul]
    omega
theorem tails_size {F : Mk → Nat → Mk × Nat} {r : Nat} (h : Adds F r) (hr : 1 ≤ r) : ∀ (n : Nat) (x : Mk × Nat) (l : List Nat), (tails F n x l).1.S = x.1.S + n * r ∧ (tails F n x l).1.es.length + n ≤ x.1.es.length + 2 * (n * r) ∧ (tails F n x l).2.length = l.length + n
  | 0, x, l => by simp [tails]
  | n + 1, x, l => by
    obtain ⟨h1, h2⟩ := h x.1 x.2
    obtain ⟨h3, h4, h5⟩ := tails_size h hr n (F x.1 x.2) (l ++ [(F x.1 x.2).2])
    rw [tails, Nat.succ_mul]
    simp only [List.length_append, List.length_cons, List.length_nil] at h5
    omega
theorem again_size {F : Mk → Nat → Mk × Nat} {r : Nat} (h : Adds F r) (hr : 1 ≤ r) (c : Mk × Nat) : (again F c).1.S = c.1.S + r + 2 ∧ (again F c).1.es.length ≤ c.1.es.length + 2 * r + 2 := by
  obtain ⟨h1, h2⟩ := h (c.1.st.fr c.2 c.1.S) c.1.S
  unfold again
  simp [Mk.st, Mk.fr, Mk.ed] at h1 h2 ⊢
  omega
theorem times_size {F : Mk → Nat → Mk × Nat} {r : Nat} (h : Adds F r) {p : Nat} (hp : p = 1 ↔ r = 0) {mn mx : Int} (h0 : 0 ≤ mn) (h1 : mx = -1 ∨ mn ≤ mx) : Adds (timesOf F p mn mx) (repT r mn.toNat mx).toNat := by
  intro m a
  unfold timesOf repT
  by_cases hr : r = 0
  · rw [if_pos (hp.2 hr), if_pos hr]
    simp
  · rw [if_neg (fun e => hr (hp.1 e)), if_neg hr]
    have hr1 : 1 ≤ r := by omega
    obtain ⟨q1, q2⟩ := rounds_size h hr1 mn.toNat (m, a)
    simp only at q1 q2
    by_cases hm : mx = -1
    · rw [if_pos hm, if_pos hm]
      obtain ⟨q3, q4⟩ := again_size h hr1 (rounds F mn.toNat (m, a))
      have e : ((mn.toNat : Int) * (r : Int) + (r : Int) + 2).toNat = mn.toNat * r + r + 2 := by
        have : ((mn.toNat : Int) * (r : Int)) = ((mn.toNat * r : Nat) : Int) := by push_cast; rfl
        omega
      rw [e]
      omega
    · rw [if_neg hm, if_neg hm]
      by_cases he : mx = mn
      · rw [if_pos he, if_neg (by omega)]
        have e : ((mn.toNat : Int) * (r : Int)).toNat = mn.toNat * r := by
          have : ((mn.toNat : Int) * (r : Int)) = ((mn.toNat * r : Nat) : Int) := by push_cast; rfl
          omega
        rw [e]
        have hz : min 1 (mn.toNat * r) ≤ mn.toNat := by
          by_cases hz : mn.toNat = 0
          · rw [hz]; simp
          · omega
        omega
      · rw [if_neg he, if_pos (by omega)]
        obtain ⟨q3, q4, q5⟩ := tails_size h hr1 (mx - mn).toNat (rounds F mn.toNat (m, a)) [(rounds F mn.toNat (m, a)).2]
        obtain ⟨q6, q7⟩ := joint_size (tails F (mx - mn).toNat (rounds F mn.toNat (m, a)) [(rounds F mn.toNat (m, a)).2])
        have e : (mx * (r : Int) + 1).toNat = mn.toNat * r + (mx - mn).toNat * r + 1 := by
          have e2 : mx = ((mn.toNat + (mx - mn).toNat : Nat) : Int) := by omega
          have : mx * (r : Int) = (((mn.toNat + (mx - mn).toNat) * r : Nat) : Int) := by
            conv => lhs; rw [e2]
            push_cast
            rfl
          rw [Nat.add_mul] at this
          omega
        rw [e]
        simp only [List.length_cons, List.length_nil] at q5
        omega
theorem shaped_times {s : Oct.S} {n : Nat} {mn mx : Int} {k : Int} (h : shapedT k s n mn mx = true) (hk : k = 5) : n = 1 ∧ 0 ≤ mn ∧ (mx = -1 ∨ mn ≤ mx) := by
  subst hk
  unfold shapedT at h
  simp [counted] at h
  omega
theorem shaped_one {s : Oct.S} {n : Nat} {mn mx : Int} {k : Int} (h : shapedT k s n mn mx = true) (h2 : ¬ (k = 2 ∨ k = 6 ∨ k = 7)) (h3 : ¬ k = 3) (h4 : ¬ k = 4) (h5 : ¬ k = 5) : n = 0 := by
  unfold shapedT at h
  by_cases h1 : k = 1
  · subst h1
    simp at h
    exact h.1.1
  · rw [if_neg (by omega), if_neg (by omega), if_neg (by omega), if_neg h5] at h
    cases h
mutual
theorem lay_size : ∀ (t : Tn), (plc t).2 = true → Adds (lay t) (raw t)
  | .mk k s subs mn mx, h => fun m a => by
    obtain ⟨hsh, hsub⟩ := plc_subs h
    have h4' := alts_size subs hsub
    have h3' := seqs_size subs hsub
    have h5' := heads_size subs hsub
    rw [lay_mk, raw]
    unfold ends
    by_cases h2 : k = 2 ∨ k = 6 ∨ k = 7
    · rw [if_pos h2, if_pos h2]
      simp [Mk.st, Mk.ed]
    rw [if_neg h2, if_neg h2]
    by_cases h3 : k = 3
    · rw [if_pos h3, if_neg (by omega), if_neg (by omega)]
      exact h3' m a
    rw [if_neg h3]
    by_cases h4 : k = 4
    · rw [if_pos h4, if_pos h4]
      obtain ⟨q1, q2⟩ := h4' m a []
      obtain ⟨q3, q4⟩ := joint_size (alts subs m a [])
      simp only [List.length_nil] at q2
      omega
    rw [if_neg h4, if_neg h4]
    by_cases h5 : k = 5
    · rw [if_pos h5, if_pos h5]
      obtain ⟨hn, h0, hx⟩ := shaped_times hsh h5
      cases subs with
      | nil => simp at hn
      | cons t ts =>
        have hts : ts = [] := by simpa using hn
        subst hts
        have hpt := hsub t (by simp)
        have hp : placesOf (hd [t]) = 1 ↔ raws [t] = 0 := by
          unfold placesOf hd
          rw [if_pos hpt, plc_raw t hpt, raws, raws]
          omega
        have hF : Adds (lay (hd [t])) (raws [t]) := by
          have := h5' t rfl
          rw [raws, raws, Nat.add_zero]
          exact this
        exact times_size hF hp h0 hx m a
    · rw [if_neg h5, if_neg h5]
      have := shaped_one hsh h2 h3 h4 h5
      have hn : subs = [] := List.length_eq_zero_iff.1 this
      subst hn
      rw [raws]
      simp
theorem seqs_size : ∀ (ts : List Tn), (∀ t ∈ ts, (plc t).2 = true) → ∀ (m : Mk) (a : Nat), (seqs ts m a).1.S = m.S + raws ts ∧ (seqs ts m a).1.es.length + min 1 (raws ts) ≤ m.es.length + 2 * raws ts
  | [], _, m, a => by rw [seqs, raws]; simp
  | t :: ts, h, m, a => by
    have h1 := lay_size t (h t (by simp)) m a
    have h2 := seqs_size ts (fun u hu => h u (by simp [hu])) (lay t m a).1 (lay t m a).2
    rw [seqs, raws]
    omega
theorem alts_size : ∀ (ts : List Tn), (∀ t ∈ ts, (plc t).2 = true) → ∀ (m : Mk) (a : Nat) (l : List Nat), (alts ts m a l).1.S = m.S + raws ts + ts.length ∧ (alts ts m a l).1.es.length + (alts ts m a l).2.length ≤ m.es.length + l.length + 2 * (raws ts + ts.length)
  | [], _, m, a, l => by rw [alts, raws]; simp
  | t :: ts, h, m, a, l => by
    have h1 := lay_size t (h t (by simp)) (m.st.fr a m.S) m.S
    have h2 := alts_size ts (fun u hu => h u (by simp [hu])) (lay t (m.st.fr a m.S) m.S).1 a (l ++ [(lay t (m.st.fr a m.S) m.S).2])
    rw [alts, raws]
    have e1 : (m.st.fr a m.S).S = m.S + 1 := rfl
    have e2 : (m.st.fr a m.S).es.length = m.es.length + 1 := by simp [Mk.st, Mk.fr, Mk.ed]
    simp only [List.length_append, List.length_cons, List.length_nil] at h2 ⊢
    omega
theorem heads_size : ∀ (ts : List Tn), (∀ t ∈ ts, (plc t).2 = true) → ∀ t, ts = [t] → Adds (lay t) (raw t)
  | [], _, t, e => by cases e
  | t :: ts, h, u, e => by
    cases e
    exact lay_size t (h t (by simp))
end
end Go.Proofs.Ytjmbimgofceanaa

/- The document's reader of layer 4: its block, its frame; more, is, fault. -/
namespace Go.Proofs.Ytjmbimgofceanaa
open Go.RowKit
attribute [local go_sem ↓] Go.wp_at_zero Go.wp_at_succ

/-- a block of an element type -/
def TyB (w : World) (t : TypeId) (b : Nat) : Prop := ∃ c z, w.heap[b]? = some (.cells c t z)
theorem TyB.same {w w' : World} {t : TypeId} {b : Nat} (h : TyB w t b) (e : w'.heap[b]? = w.heap[b]?) : TyB w' t b := by
  obtain ⟨c, z, hc⟩ := h
  exact ⟨c, z, e.trans hc⟩
theorem TyB.ne {w : World} {t u : TypeId} {b : Nat} (h : TyB w t b) (h2 : TyB w u b) : t = u := by
  obtain ⟨c, z, hc⟩ := h
  obtain ⟨c', z', hc'⟩ := h2
  rw [hc] at hc'
  simp at hc'
  exact hc'.2.1
/-- THE FRAME OF THE READER's METHODS: all stands but the reader's block and, from a place on, blocks of numbers. -/
structure Fr (b0 B : Nat) (w w' : World) : Prop where
  os : w'.os = w.os
  tape : w'.tape = w.tape
  output : w'.output = w.output
  size : w.heap.size ≤ w'.heap.size
  block : ∀ k, k < w.heap.size → k ≠ B → (b0 ≤ k → ¬ TyB w 3 k) → w'.heap[k]? = w.heap[k]?
section
variable {b0 B : Nat} {w u w' : World}
theorem Fr.refl (b0 B : Nat) (w : World) : Fr b0 B w w := ⟨rfl, rfl, rfl, Nat.le_refl _, fun _ _ _ _ => rfl⟩
theorem Fr.trans (h : Fr b0 B w u) (h2 : Fr b0 B u w') : Fr b0 B w w' :=
  ⟨h2.os.trans h.os, h2.tape.trans h.tape, h2.output.trans h.output, Nat.le_trans h.size h2.size, fun k hk hne ht => by
    have e := h.block k hk hne ht
    exact (h2.block k (Nat.lt_of_lt_of_le hk h.size) hne (fun hb ht3 => ht hb (ht3.same e.symm))).trans e⟩
theorem Fr.later (h : Fr b0 B w u) (hb : Below u.heap.size u w') : Fr b0 B w w' :=
  ⟨hb.os.trans h.os, hb.tape.trans h.tape, hb.output.trans h.output, Nat.le_trans h.size hb.size, fun k hk hne ht => (hb.block k (Nat.lt_of_lt_of_le hk h.size)).trans (h.block k hk hne ht)⟩
theorem Fr.of_below (b0 B : Nat) (hb : Below w.heap.size w w') : Fr b0 B w w' := (Fr.refl b0 B w).later hb
theorem Fr.set (b0 B : Nat) (w : World) (j : Nat) (v : Value) : Fr b0 B w (w.setCell ⟨B, j, none⟩ v) :=
  ⟨rfl, rfl, rfl, by simp [World.setCell], fun k _ hk _ => Below.heap_setCell w ⟨B, j, none⟩ v k hk⟩
theorem Fr.new (h : Fr b0 B w u) {A : Nat} (hA : w.heap.size ≤ A) (j : Nat) (v : Value) : Fr b0 B w (u.setCell ⟨A, j, none⟩ v) :=
  ⟨h.os, h.tape, h.output, by simpa [World.setCell] using h.size, fun k hk hne ht => (Below.heap_setCell u ⟨A, j, none⟩ v k (by simp; omega)).trans (h.block k hk hne ht)⟩
theorem Fr.put8 (h : Fr b0 B w u) {A : Nat} (hA : w.heap.size ≤ A) (x : Nd) : Fr b0 B w (put8 u A x) :=
  (((((((h.new hA _ _).new hA _ _).new hA _ _).new hA _ _).new hA _ _).new hA _ _).new hA _ _).new hA _ _
theorem Fr.put4 (h : Fr b0 B w u) {A : Nat} (hA : w.heap.size ≤ A) (t : Oct.S) : Fr b0 B w (put4 u A t) :=
  (((h.new hA _ _).new hA _ _).new hA _ _).new hA _ _
theorem Fr.own (h : Fr b0 B w u) {r : Option Nat} (hg : u.grownBy w' r) (hr : ∀ k, r = some k → w.heap.size ≤ k) : Fr b0 B w w' :=
  ⟨hg.os.trans h.os, hg.tape.trans h.tape, hg.output.trans h.output, Nat.le_trans h.size hg.size, fun k hk hne ht =>
    (hg.block k (Nat.lt_of_lt_of_le hk h.size) (fun e => by have := hr k e.symm; omega)).trans (h.block k hk hne ht)⟩
theorem Fr.keep (h : Fr b0 B w w') {A : Nat} {c : Array Value} {t : TypeId} {z : Nat × Nat} (hA : w.heap[A]? = some (.cells c t z)) (hne : A ≠ B) (ht : t ≠ 3) : w'.heap[A]? = some (.cells c t z) :=
  (h.block A (Array.getElem?_eq_some_iff.1 hA).1 hne (fun _ h3 => ht (TyB.ne ⟨c, z, hA⟩ h3))).trans hA
theorem Fr.below (h : Fr b0 B w w') (hB : b0 ≤ B) (hb : b0 ≤ w.heap.size) : Below b0 w w' :=
  ⟨h.os, h.tape, h.output, h.size, fun k hk => h.block k (by omega) (by omega) (fun h2 => by omega)⟩
end
/-- THE READER's BLOCK: its text, its place, so many open groups, its fault and the place of that. -/
def RR (w : World) (b0 B : Nat) (s : ByteArray) (i d e a : Nat) : Prop :=
  b0 ≤ B ∧ ∃ V xs, w.heap[B]? = some (.cells #[.string s, .int .i64 (i : Nat), V, .int .i64 (e : Nat), .int .i64 (a : Nat)] 57 (0, 0)) ∧ w.ownsRow b0 3 1 V d xs
section
variable {w w' : World} {b0 B : Nat} {s : ByteArray} {i d e a : Nat}
theorem RR.ty (h : RR w b0 B s i d e a) : TyB w 57 B := by
  obtain ⟨_, V, xs, h1, _⟩ := h
  exact ⟨_, _, h1⟩
theorem RR.lt (h : RR w b0 B s i d e a) : B < w.heap.size := by
  obtain ⟨_, V, xs, h1, _⟩ := h
  exact (Array.getElem?_eq_some_iff.1 h1).1
theorem RR.ne (h : RR w b0 B s i d e a) {A : Nat} {t : TypeId} (hA : TyB w t A) (ht : t ≠ 57) : A ≠ B := fun e => ht (TyB.ne (e ▸ hA) h.ty)
theorem RR.cells (h : RR w b0 B s i d e a) : ∃ o c, w.cell? ⟨B, 0, none⟩ = some (.string s) ∧ w.cell? ⟨B, 1, none⟩ = some (.int .i64 (i : Nat)) ∧ w.cell? ⟨B, 2, none⟩ = some (.slice o d c) ∧ w.cell? ⟨B, 3, none⟩ = some (.int .i64 (e : Nat)) ∧ w.cell? ⟨B, 4, none⟩ = some (.int .i64 (a : Nat)) := by
  obtain ⟨_, V, xs, h1, h2⟩ := h
  rcases h2.2 with ⟨rfl, rfl⟩ | ⟨g, cap, cur, rfl, _⟩
  · refine ⟨none, 0, ?_, ?_, ?_, ?_, ?_⟩ <;> simp [World.cell?, h1]
  · refine ⟨some ⟨g, 0, none⟩, cap, ?_, ?_, ?_, ?_, ?_⟩ <;> simp [World.cell?, h1]
theorem RR.frozen (h : RR w b0 B s i d e a) (j : Nat) : w.frozen? ⟨B, j, none⟩ = false := by
  obtain ⟨_, V, xs, h1, _⟩ := h
  simp [World.frozen?, h1]
theorem RR.keep (h : RR w b0 B s i d e a) (hk : ∀ k, k < w.heap.size → (k = B ∨ TyB w 3 k) → w'.heap[k]? = w.heap[k]?) : RR w' b0 B s i d e a := by
  have hlt := h.lt
  obtain ⟨h0, V, xs, h1, h2⟩ := h
  refine ⟨h0, V, xs, (hk B hlt (Or.inl rfl)).trans h1, h2.1, ?_⟩
  rcases h2.2 with h3 | ⟨g, cap, cur, rfl, hb, hg, r⟩
  · exact Or.inl h3
  · exact Or.inr ⟨g, cap, cur, rfl, hb, (hk g (Array.getElem?_eq_some_iff.1 hg).1 (Or.inr ⟨_, _, hg⟩)).trans hg, r⟩
theorem RR.later (h : RR w b0 B s i d e a) (hb : Below w.heap.size w w') : RR w' b0 B s i d e a := h.keep (fun k hk _ => hb.block k hk)
/-- something written into a block that is none of the reader's -/
theorem RR.apart (h : RR w b0 B s i d e a) {A : Nat} {t : TypeId} (hA : TyB w t A) (h3 : t ≠ 3) (h57 : t ≠ 57) (hk : ∀ k, k < w.heap.size → k ≠ A → w'.heap[k]? = w.heap[k]?) : RR w' b0 B s i d e a :=
  h.keep (fun k hlt hk2 => hk k hlt (fun e => by
    subst e
    rcases hk2 with rfl | hk2
    · exact h57 (TyB.ne hA h.ty)
    · exact h3 (TyB.ne hA hk2)))
theorem RR.put8 (h : RR w b0 B s i d e a) {A : Nat} {x : Nd} (hA : NB w A x) (y : Nd) : RR (put8 w A y) b0 B s i d e a := h.apart (A := A) ⟨_, _, hA⟩ (by decide) (by decide) (fun k _ hk => heap_put8 w A y k hk)
theorem heap_put4 (w : World) (A : Nat) (x : Oct.S) (k : Nat) (h : k ≠ A) : (put4 w A x).heap[k]? = w.heap[k]? := by
  unfold Ytjmbimgofceanaa.put4
  rw [Below.heap_setCell _ ⟨A, 3, none⟩ _ k h, Below.heap_setCell _ ⟨A, 2, none⟩ _ k h, Below.heap_setCell _ ⟨A, 1, none⟩ _ k h, Below.heap_setCell _ ⟨A, 0, none⟩ _ k h]
theorem RR.put4 (h : RR w b0 B s i d e a) {A : Nat} {x : Oct.S} (hA : SB w A x) (y : Oct.S) : RR (put4 w A y) b0 B s i d e a := h.apart (A := A) ⟨_, _, hA⟩ (by decide) (by decide) (fun k _ hk => heap_put4 w A y k hk)
theorem RR.at (h : RR w b0 B s i d e a) (j : Nat) : RR (w.setCell ⟨B, 1, none⟩ (.int .i64 (j : Nat))) b0 B s j d e a := by
  have hty := h.ty
  obtain ⟨h0, V, xs, h1, h2⟩ := h
  refine ⟨h0, V, xs, ?_, h2.1, ?_⟩
  · rw [heap_set h1]
    rfl
  · rcases h2.2 with h3 | ⟨g, cap, cur, rfl, hb, hg, r⟩
    · exact Or.inl h3
    · exact Or.inr ⟨g, cap, cur, rfl, hb, (Below.heap_setCell w ⟨B, 1, none⟩ _ g (fun e => by simp at e; subst e; exact absurd (TyB.ne hty ⟨_, _, hg⟩) (by decide))).trans hg, r⟩
end
end Go.Proofs.Ytjmbimgofceanaa

/- Edges in memory; the maker's block; its frame; state, edge, free. -/
namespace Go.Proofs.Ytjmbimgofceanaa
open Go.RowKit
attribute [local go_sem ↓] Go.wp_at_zero Go.wp_at_succ

def Eg.cells (e : Eg) : List Value := [.int .i64 e.k, .int .i64 e.f, .int .i64 e.t, .int .u64 (Oct.word e.s 0 : Nat), .int .u64 (Oct.word e.s 1 : Nat), .int .u64 (Oct.word e.s 2 : Nat), .int .u64 (Oct.word e.s 3 : Nat)]
def flatE (es : List Eg) : List Value := es.flatMap Eg.cells
theorem flatE_length (es : List Eg) : (flatE es).length = 7 * es.length := by
  induction es with
  | nil => rfl
  | cons x r ih => simp only [flatE, List.flatMap_cons, List.length_append, List.length_cons] at ih ⊢; rw [ih]; simp [Eg.cells]; omega
theorem flatE_append (a b : List Eg) : flatE (a ++ b) = flatE a ++ flatE b := by simp [flatE]
theorem flatE_one (es : List Eg) : ∀ u ∈ flatE es, u.oneCell' = true := by
  intro u hu
  obtain ⟨x, _, hx⟩ := List.mem_flatMap.1 hu
  simp only [Eg.cells, List.mem_cons, List.not_mem_nil, or_false] at hx
  rcases hx with rfl | rfl | rfl | rfl | rfl | rfl | rfl <;> rfl
theorem flatE_at {es : List Eg} {i : Nat} {x : Eg} (h : es[i]? = some x) {m : Nat} (hm : m < 7) : (flatE es)[7 * i + m]? = x.cells[m]? := by
  induction es generalizing i with
  | nil => simp at h
  | cons y r ih =>
    have hf : flatE (y :: r) = y.cells ++ flatE r := by simp [flatE]
    have hy : y.cells.length = 7 := rfl
    rw [hf]
    cases i with
    | zero =>
      simp at h
      subst h
      rw [List.getElem?_append_left (by omega)]
      simp
    | succ i =>
      rw [List.getElem?_append_right (by omega), hy, show 7 * (i + 1) + m - 7 = 7 * i + m by omega]
      exact ih (by simpa using h)
/-- A ROW OF EDGES OF THE CALL's OWN. -/
def RowE (w : World) (base : Nat) (V : Value) (es : List Eg) : Prop := w.ownsRow base 57 7 V es.length (flatE es)
theorem infoE : (Try.prog.info? 57).map (fun i => (i.zero, i.size, i.bytes)) = some (some (.agg #[.int .i64 0, .int .i64 0, .int .i64 0, .int .u64 0, .int .u64 0, .int .u64 0, .int .u64 0]), 7, 56) := by kernel_rfl
theorem rowE_nil (w : World) (base : Nat) : RowE w base (.slice none 0 0) [] := World.ownsRow_nil w base 57 7
theorem RowE.ty {w : World} {base : Nat} {V : Value} {es : List Eg} (h : RowE w base V es) : ∀ b, V.ownBlock = some b → base ≤ b ∧ TyB w 57 b := by
  intro b hb
  rcases h.2 with ⟨rfl, _⟩ | ⟨g, cap, cur, rfl, hbg, hg, _⟩
  · simp [Value.ownBlock] at hb
  · simp [Value.ownBlock] at hb
    subst hb
    exact ⟨hbg, ⟨_, _, hg⟩⟩
theorem RowE.keep {w w' : World} {base : Nat} {V : Value} {es : List Eg} (h : RowE w base V es) (hk : ∀ b, base ≤ b → b < w.heap.size → TyB w 57 b → w'.heap[b]? = w.heap[b]?) : RowE w' base V es := by
  refine ⟨h.1, ?_⟩
  rcases h.2 with h6 | ⟨g, cap, cur, rfl, hBg, hg, rest⟩
  · exact Or.inl h6
  · exact Or.inr ⟨g, cap, cur, rfl, hBg, (hk g hBg (Array.getElem?_eq_some_iff.1 hg).1 ⟨_, _, hg⟩).trans hg, rest⟩
theorem RowE.form {w : World} {base : Nat} {V : Value} {es : List Eg} (h : RowE w base V es) : ∃ a c, V = .slice a es.length c ∧ es.length ≤ c ∧ c ≤ maxLen := by
  rcases h.2 with ⟨hv, hn⟩ | ⟨g, cap, cur, hv, hbg, hg, h1, h2, h3, h4⟩
  · exact ⟨none, 0, by rw [hv, hn], by omega, by decide⟩
  · exact ⟨_, _, hv, h1, h2⟩
/-- THE FRAME OF THE MAKER's METHODS: all stands but its block and, from a place on, blocks of edges. -/
structure Fm (b0 B : Nat) (w w' : World) : Prop where
  os : w'.os = w.os
  tape : w'.tape = w.tape
  output : w'.output = w.output
  size : w.heap.size ≤ w'.heap.size
  block : ∀ k, k < w.heap.size → k ≠ B → (b0 ≤ k → ¬ TyB w 57 k) → w'.heap[k]? = w.heap[k]?
section
variable {b0 B : Nat} {w u w' : World}
theorem Fm.refl (b0 B : Nat) (w : World) : Fm b0 B w w := ⟨rfl, rfl, rfl, Nat.le_refl _, fun _ _ _ _ => rfl⟩
theorem Fm.trans (h : Fm b0 B w u) (h2 : Fm b0 B u w') : Fm b0 B w w' :=
  ⟨h2.os.trans h.os, h2.tape.trans h.tape, h2.output.trans h.output, Nat.le_trans h.size h2.size, fun k hk hne ht => by
    have e := h.block k hk hne ht
    exact (h2.block k (Nat.lt_of_lt_of_le hk h.size) hne (fun hb ht3 => ht hb (ht3.same e.symm))).trans e⟩
theorem Fm.later (h : Fm b0 B w u) (hb : Below u.heap.size u w') : Fm b0 B w w' :=
  ⟨hb.os.trans h.os, hb.tape.trans h.tape, hb.output.trans h.output, Nat.le_trans h.size hb.size, fun k hk hne ht => (hb.block k (Nat.lt_of_lt_of_le hk h.size)).trans (h.block k hk hne ht)⟩
theorem Fm.of_below (b0 B : Nat) (hb : Below w.heap.size w w') : Fm b0 B w w' := (Fm.refl b0 B w).later hb
theorem Fm.set (b0 B : Nat) (w : World) (j : Nat) (v : Value) : Fm b0 B w (w.setCell ⟨B, j, none⟩ v) :=
  ⟨rfl, rfl, rfl, by simp [World.setCell], fun k _ hk _ => Below.heap_setCell w ⟨B, j, none⟩ v k hk⟩
theorem Fm.grown (h : Fm b0 B w u) {r : Option Nat} (hg : u.grownBy w' r) (hr : ∀ k, r = some k → b0 ≤ k ∧ TyB u 57 k) : Fm b0 B w w' :=
  ⟨hg.os.trans h.os, hg.tape.trans h.tape, hg.output.trans h.output, Nat.le_trans h.size hg.size, fun k hk hne ht => by
    have e := h.block k hk hne ht
    refine (hg.block k (Nat.lt_of_lt_of_le hk h.size) (fun e2 => ?_)).trans e
    obtain ⟨h1, h2⟩ := hr k e2.symm
    exact ht h1 (h2.same e.symm)⟩
theorem Fm.keep (h : Fm b0 B w w') {A : Nat} {c : Array Value} {t : TypeId} {z : Nat × Nat} (hA : w.heap[A]? = some (.cells c t z)) (hne : A ≠ B) (ht : t ≠ 57) : w'.heap[A]? = some (.cells c t z) :=
  (h.block A (Array.getElem?_eq_some_iff.1 hA).1 hne (fun _ h3 => ht (TyB.ne ⟨c, z, hA⟩ h3))).trans hA
theorem Fm.below (h : Fm b0 B w w') (hB : b0 ≤ B) (hb : b0 ≤ w.heap.size) : Below b0 w w' :=
  ⟨h.os, h.tape, h.output, h.size, fun k hk => h.block k (by omega) (by omega) (fun h2 => by omega)⟩
end
/-- THE MAKER's BLOCK. -/
def MB (w : World) (b0 B : Nat) (m : Mk) : Prop :=
  b0 ≤ B ∧ ∃ V, w.heap[B]? = some (.cells #[.int .i64 (m.S : Nat), V] 79 (0, 0)) ∧ RowE w b0 V m.es
section
variable {w w' : World} {b0 B : Nat} {m : Mk}
theorem MB.lt (h : MB w b0 B m) : B < w.heap.size := by
  obtain ⟨_, V, h1, _⟩ := h
  exact (Array.getElem?_eq_some_iff.1 h1).1
theorem MB.ty (h : MB w b0 B m) : TyB w 79 B := by
  obtain ⟨_, V, h1, _⟩ := h
  exact ⟨_, _, h1⟩
theorem MB.ne (h : MB w b0 B m) {A : Nat} {t : TypeId} (hA : TyB w t A) (ht : t ≠ 79) : A ≠ B := fun e => ht (TyB.ne (e ▸ hA) h.ty)
theorem MB.cells (h : MB w b0 B m) : ∃ o c, w.cell? ⟨B, 0, none⟩ = some (.int .i64 (m.S : Nat)) ∧ w.cell? ⟨B, 1, none⟩ = some (.slice o m.es.length c) := by
  obtain ⟨_, V, h1, h2⟩ := h
  obtain ⟨a, c, rfl, _⟩ := h2.form
  exact ⟨a, c, by simp [World.cell?, h1], by simp [World.cell?, h1]⟩
theorem MB.frozen (h : MB w b0 B m) (j : Nat) : w.frozen? ⟨B, j, none⟩ = false := by
  obtain ⟨_, V, h1, _⟩ := h
  simp [World.frozen?, h1]
theorem MB.later (h : MB w b0 B m) (hb : Below w.heap.size w w') : MB w' b0 B m := by
  have hlt := h.lt
  obtain ⟨h0, V, h1, h2⟩ := h
  exact ⟨h0, V, (hb.block B hlt).trans h1, h2.keep (fun b _ hlt _ => hb.block b hlt)⟩
theorem MB.grown (h : MB w b0 B m) {r : Option Nat} (hg : w.grownBy w' r) (hr : ∀ k, r = some k → ¬ (TyB w 57 k ∨ TyB w 79 k)) : MB w' b0 B m := by
  have hlt := h.lt
  have hty := h.ty
  obtain ⟨h0, V, h1, h2⟩ := h
  exact ⟨h0, V, (hg.block B hlt (fun e => hr B e.symm (Or.inr hty))).trans h1, h2.keep (fun b _ hlt ht => hg.block b hlt (fun e => hr b e.symm (Or.inl ht)))⟩
end
end Go.Proofs.Ytjmbimgofceanaa

/- The maker's edge and free. -/
namespace Go.Proofs.Ytjmbimgofceanaa
open Go.RowKit
attribute [local go_sem ↓] Go.wp_at_zero Go.wp_at_succ

/-- the maker's block behind an edge's own block, its list gone on by one, and laid down -/
theorem MB.put {w w3 : World} {b0 B : Nat} {m : Mk} {o : Option Addr} {c g cap n : Nat} {e : Eg} {ob : Obj} (hn : m.es.length = n) (h : MB w b0 B m) (hc : w.cell? ⟨B, 1, none⟩ = some (.slice o n c)) 
    (hr : RowE w3 b0 (.slice (some ⟨g, 0, none⟩) (n + 1) cap) (m.es ++ [e])) (hg : (w.alloc ob).grownBy w3 (Value.slice o n c).ownBlock) :
    MB (w3.setCell ⟨B, 1, none⟩ (.slice (some ⟨g, 0, none⟩) (n + 1) cap)) b0 B (m.ed e) ∧ Fm b0 B w (w3.setCell ⟨B, 1, none⟩ (.slice (some ⟨g, 0, none⟩) (n + 1) cap)) ∧ w3.cell? ⟨B, 1, none⟩ = some (.slice o n c) ∧ w3.frozen? ⟨B, 1, none⟩ = false := by
  subst hn
  have hlt := h.lt
  have hal : Below w.heap.size w (w.alloc ob) := (Below.refl _ _).alloc (Nat.le_refl _) _
  obtain ⟨hB, V, h1, h2⟩ := h
  have hV : V = .slice o m.es.length c := by
    simp only [World.cell?, h1] at hc
    simpa using hc
  subst hV
  have hob : ∀ k, (Value.slice o m.es.length c).ownBlock = some k → b0 ≤ k ∧ TyB (w.alloc ob) 57 k := fun k hk => by
    obtain ⟨q1, q2⟩ := h2.ty k hk
    obtain ⟨cc, z, q3⟩ := q2
    exact ⟨q1, TyB.same ⟨cc, z, q3⟩ (hal.block k (Array.getElem?_eq_some_iff.1 q3).1)⟩
  have hneB : (Value.slice o m.es.length c).ownBlock ≠ some B := fun e => absurd (TyB.ne (h2.ty B e).2 ⟨_, _, h1⟩) (by decide)
  have h3 : w3.heap[B]? = some (.cells #[.int .i64 (m.S : Nat), .slice o m.es.length c] 79 (0, 0)) := (hg.block B (Nat.lt_of_lt_of_le hlt hal.size) (fun e => hneB e.symm)).trans ((hal.block B hlt).trans h1)
  refine ⟨⟨hB, .slice (some ⟨g, 0, none⟩) (m.es.length + 1) cap, ?_, ?_⟩, ?_, by simp [World.cell?, h3], by simp [World.frozen?, h3]⟩
  · rw [heap_set h3]
    simp [Mk.ed]
  · have hr' : RowE w3 b0 (.slice (some ⟨g, 0, none⟩) (m.es.length + 1) cap) (m.ed e).es := hr
    exact hr'.keep (fun b _ hlt ht => Below.heap_setCell w3 ⟨B, 1, none⟩ _ b (fun e => by have e : b = B := e; exact absurd (TyB.ne (e ▸ ht) ⟨_, _, h3⟩) (by decide)))
  · exact ((Fm.of_below b0 B hal).grown hg hob).trans (Fm.set b0 B w3 1 _)
theorem rowE_snoc {w : World} {b0 g cap n : Nat} {es : List Eg} {e : Eg} (hn : es.length = n) (h : w.ownsRow b0 57 7 (.slice (some ⟨g, 0, none⟩) (n + 1) cap) (n + 1) (flatE es ++ e.cells)) : RowE w b0 (.slice (some ⟨g, 0, none⟩) (n + 1) cap) (es ++ [e]) := by
  subst hn
  unfold RowE
  rw [List.length_append, flatE_append]
  have e1 : flatE [e] = e.cells := by simp [flatE]
  rw [e1]
  exact h
end Go.Proofs.Ytjmbimgofceanaa

/- The maker's methods: the state between two calls; rows of numbers of the call's own. -/
namespace Go.Proofs.Ytjmbimgofceanaa
open Go.RowKit

theorem below_low {b c : Nat} {w w' : World} (h : Below b w w') (hc : c ≤ b) : Below c w w' := ⟨h.os, h.tape, h.output, h.size, fun k hk => h.block k (Nat.lt_of_lt_of_le hk hc)⟩
theorem below_two {b : Nat} {w u v : World} (h : Below b w u) (h2 : Below b u v) : Below b w v :=
  ⟨h2.os.trans h.os, h2.tape.trans h.tape, h2.output.trans h.output, Nat.le_trans h.size h2.size, fun k hk => (h2.block k hk).trans (h.block k hk)⟩
theorem InAt.later {w w' : World} {t : Tn} {x : Nd} (h : InAt w t x) (hb : Below w.heap.size w w') : InAt w' t x := by
  induction h with
  | mk k s subs mn mx a n c vs hn hl hm hr hs ih => exact .mk k s subs mn mx a n c vs hn hl hm (hr.keep (fun _ h _ => h) (fun b _ hlt => hb.block b hlt)) (fun i t v ht hv => ih i t v ht hv)
/-- A ROW OF NUMBERS OF THE CALL's OWN. -/
def RowI (w : World) (base : Nat) (V : Value) (l : List Nat) : Prop := w.ownsRow base 3 1 V l.length (l.map fun a => Value.int .i64 (a : Nat))
theorem info3 : (Try.prog.info? 3).map (fun i => (i.zero, i.size, i.bytes)) = some (some (.int .i64 0), 1, 8) := by kernel_rfl
theorem rowI_nil (w : World) (base : Nat) : RowI w base (.slice none 0 0) [] := World.ownsRow_nil w base 3 1
theorem RowI.ty {w : World} {base : Nat} {V : Value} {l : List Nat} (h : RowI w base V l) : ∀ b, V.ownBlock = some b → base ≤ b ∧ TyB w 3 b := by
  intro b hb
  rcases h.2 with ⟨rfl, _⟩ | ⟨g, cap, cur, rfl, hbg, hg, _⟩
  · simp [Value.ownBlock] at hb
  · simp [Value.ownBlock] at hb
    subst hb
    exact ⟨hbg, ⟨_, _, hg⟩⟩
theorem RowI.keep {w w' : World} {base : Nat} {V : Value} {l : List Nat} (h : RowI w base V l) (hk : ∀ b, base ≤ b → b < w.heap.size → TyB w 3 b → w'.heap[b]? = w.heap[b]?) : RowI w' base V l := by
  refine ⟨h.1, ?_⟩
  rcases h.2 with h6 | ⟨g, cap, cur, rfl, hBg, hg, rest⟩
  · exact Or.inl h6
  · exact Or.inr ⟨g, cap, cur, rfl, hBg, (hk g hBg (Array.getElem?_eq_some_iff.1 hg).1 ⟨_, _, hg⟩).trans hg, rest⟩
theorem RowI.form {w : World} {base : Nat} {V : Value} {l : List Nat} (h : RowI w base V l) : ∃ (a : Option Addr) (c : Nat), V = .slice a l.length c ∧ l.length ≤ c ∧ c ≤ maxLen := by
  rcases h.2 with ⟨hv, hn⟩ | ⟨g, cap, cur, hv, hbg, hg, h1, h2, h3, h4⟩
  · exact ⟨none, 0, by rw [hv, hn], by omega, by decide⟩
  · exact ⟨_, cap, hv, h1, h2⟩
theorem RowI.at {w : World} {base : Nat} {a : Option Addr} {n c : Nat} {l : List Nat} (h : RowI w base (.slice a n c) l) {j x : Nat} (hx : l[j]? = some x) : ∃ g, a = some ⟨g, 0, none⟩ ∧ w.cell? ⟨g, j, none⟩ = some (.int .i64 (x : Nat)) := by
  have hj := (List.getElem?_eq_some_iff.1 hx).1
  rcases h.2 with ⟨hv, hn⟩ | ⟨g, cap, cur, hv, hbg, hg, h1, h2, h3, h4⟩
  · omega
  · cases hv
    refine ⟨g, rfl, ?_⟩
    have e : (l.map fun a => Value.int .i64 (a : Nat))[j]? = some (.int .i64 (x : Nat)) := by rw [List.getElem?_map, hx]; rfl
    rw [← h4, List.getElem?_take_of_lt (by omega)] at e
    simp only [World.cell?, hg]
    simpa using e
theorem wpList_append_int {w : World} {ops : Array Oper} {rest : List Oper} {o : Oper} {a : Act} {Q : Exit → Act → World → Prop} (hgd : o.guard = none) (s y : Operand)
    (ho : o.op = .call { callee := .builtin .append, args := #[s, y], argTypes := #[96, 96] })
    (base : Nat) (V : Value) (l : List Nat) (hs : a.eval s = V) (hn : RowI w base V l) (ad : Addr) (cap : Nat) (x : Nat) (hy : a.eval y = .slice (some ad) 1 cap) (hc : w.cell? ad = some (.int .i64 (x : Nat))) (hl : l.length ≤ 2000000) (hb : base ≤ w.heap.size)
    (h : ∀ g cap' w', RowI w' base (.slice (some ⟨g, 0, none⟩) (l.length + 1) cap') (l ++ [x]) → w.grownBy w' V.ownBlock → wpList Try.prog ops Q rest (a.put o.dst (.slice (some ⟨g, 0, none⟩) (l.length + 1) cap')) w') : wpList Try.prog ops Q (o :: rest) a w := by
  refine wpList_plain hgd fun K hK => ?_
  obtain ⟨i0, hi, hz0, hz1, hz2⟩ := info_parts info3
  obtain ⟨g, cap', w', hr, ho2, hg, hgg, hlt⟩ := run_append_lies (P := Try.prog) w 96 o.type base 3 i0 _ 1 8 Try.underlying96 hi hz0 hz1 hz2 rfl (by decide) V l.length _ hn ad 1 cap [.int .i64 (x : Nat)] rfl
    (fun j v hj => by
      cases j with
      | zero => simp at hj; subst hj; simpa [Addr.add] using hc
      | succ j => simp at hj) (fun v hv => by simp at hv; subst hv; rfl) (by decide) (by simp only [maxLen]; omega) (by omega) hb w.heap.size rfl
  unfold Oper.wp execOp
  simp only [ho, resolve, invoke, builtin, Sem.run_bind, Sem.run_pure, Result.andThen_ok, List.map_toArray, List.map_cons, List.map_nil, hs, hy, hr]
  refine hK _ _ (h g cap' w' ?_ hg)
  unfold RowI
  rw [List.length_append, List.map_append]
  exact ho2
theorem frees_step {l : List Nat} {i x : Nat} (h : l[i]? = some x) (s : Nat) (m : Mk) : frees (l.drop i) s m = frees (l.drop (i + 1)) s (m.fr x s) := by
  have hlt := (List.getElem?_eq_some_iff.1 h).1
  rw [List.drop_eq_getElem_cons hlt, (List.getElem?_eq_some_iff.1 h).2, frees]
/-- THE STATE of a method of the maker that looks at a node. -/
structure Sm (w0 : World) (b0 B A : Nat) (x : Nd) (w u : World) (m : Mk) : Prop where
  mb : MB u b0 B m
  nb : NB u A x
  fm : Fm b0 B w u
  low : Below w0.heap.size w0 u
  sz : b0 ≤ u.heap.size
  h0 : w0.heap.size ≤ b0
section
variable {w0 : World} {b0 B A : Nat} {x : Nd} {w u u' : World} {m m' : Mk}
theorem Sm.later (h : Sm w0 b0 B A x w u m) (hb : Below u.heap.size u u') : Sm w0 b0 B A x w u' m :=
  ⟨h.mb.later hb, h.nb.later hb, h.fm.later hb, below_two h.low (below_low hb h.low.size), Nat.le_trans h.sz hb.size, h.h0⟩
theorem Sm.call (h : Sm w0 b0 B A x w u m) (hm : MB u' b0 B m') (hf : Fm b0 B u u') : Sm w0 b0 B A x w u' m' :=
  ⟨hm, hf.keep h.nb (h.mb.ne ⟨_, _, h.nb⟩ (by decide)) (by decide), h.fm.trans hf, below_two h.low (below_low (hf.below h.mb.1 h.sz) h.h0), Nat.le_trans h.sz hf.size, h.h0⟩
theorem Sm.own (h : Sm w0 b0 B A x w u m) {r : Option Nat} (hg : u.grownBy u' r) (hr : ∀ k, r = some k → w.heap.size ≤ k ∧ TyB u 3 k) (hw : b0 ≤ w.heap.size) : Sm w0 b0 B A x w u' m := by
  refine ⟨h.mb.grown hg (fun k hk h2 => ?_), (hg.block A h.nb.lt (fun e => absurd (TyB.ne (hr A e.symm).2 ⟨_, _, h.nb⟩) (by decide))).trans h.nb, ⟨hg.os.trans h.fm.os, hg.tape.trans h.fm.tape, hg.output.trans h.fm.output, Nat.le_trans h.fm.size hg.size, fun k hk hne ht => ?_⟩, ?_, Nat.le_trans h.sz hg.size, h.h0⟩
  · obtain ⟨_, h1⟩ := hr k hk
    rcases h2 with h2 | h2
    · exact absurd (TyB.ne h1 h2) (by decide)
    · exact absurd (TyB.ne h1 h2) (by decide)
  · exact (hg.block k (Nat.lt_of_lt_of_le hk h.fm.size) (fun e => by have := (hr k e.symm).1; omega)).trans (h.fm.block k hk hne ht)
  · exact ⟨hg.os.trans h.low.os, hg.tape.trans h.low.tape, hg.output.trans h.low.output, Nat.le_trans h.low.size hg.size, fun k hk => (hg.block k (Nat.lt_of_lt_of_le hk h.low.size) (fun e => by have := (hr k e.symm).1; have := h.h0; omega)).trans (h.low.block k hk)⟩
theorem RowI.fm {base : Nat} {V : Value} {l : List Nat} (h : RowI u base V l) (hm : MB u b0 B m) (hf : Fm b0 B u u') : RowI u' base V l :=
  h.keep (fun b _ hlt ht => hf.block b hlt (hm.ne ht (by decide)) (fun _ h2 => absurd (TyB.ne ht h2) (by decide)))
end
end Go.Proofs.Ytjmbimgofceanaa

