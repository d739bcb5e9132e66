/- Machines laid of trees, as plain functions; how great they grow. -/
import Derived.Test.YtjmbimgofceanaaG25
namespace Go.Proofs.Ytjmbimgofceanaa

structure Eg where
  k : Int
  f : Int
  t : Int
  s : Oct.S
/-- a machine that is laid -/
structure Mk where
  S : Nat
  es : List Eg
def Mk.st (m : Mk) : Mk := ⟨m.S + 1, m.es⟩
def Mk.ed (m : Mk) (e : Eg) : Mk := ⟨m.S, m.es ++ [e]⟩
def Mk.fr (m : Mk) (a b : Nat) : Mk := m.ed ⟨1, a, b, Oct.none⟩
def frees : List Nat → Nat → Mk → Mk
  | [], _, m => m
  | a :: l, s, m => frees l s (m.fr a s)
def rounds (F : Mk → Nat → Mk × Nat) : Nat → Mk × Nat → Mk × Nat
  | 0, x => x
  | n + 1, x => rounds F n (F x.1 x.2)
def tails (F : Mk → Nat → Mk × Nat) : Nat → Mk × Nat → List Nat → Mk × List Nat
  | 0, x, l => (x.1, l)
  | n + 1, x, l => tails F n (F x.1 x.2) (l ++ [(F x.1 x.2).2])
def joint (r : Mk × List Nat) : Mk × Nat := (frees r.2 r.1.S r.1.st, r.1.S)
def again (F : Mk → Nat → Mk × Nat) (c : Mk × Nat) : Mk × Nat :=
  (((((F (c.1.st.fr c.2 c.1.S) c.1.S).1.fr (F (c.1.st.fr c.2 c.1.S) c.1.S).2 c.1.S)).st).fr c.1.S (F (c.1.st.fr c.2 c.1.S) c.1.S).1.S, (F (c.1.st.fr c.2 c.1.S) c.1.S).1.S)
def timesOf (F : Mk → Nat → Mk × Nat) (p : Nat) (mn mx : Int) (m : Mk) (a : Nat) : Mk × Nat :=
  if p = 1 then (m, a)
  else if mx = -1 then again F (rounds F mn.toNat (m, a))
  else if mx = mn then rounds F mn.toNat (m, a)
  else joint (tails F (mx - mn).toNat (rounds F mn.toNat (m, a)) [(rounds F mn.toNat (m, a)).2])
def hd : List Tn → Tn
  | t :: _ => t
  | [] => .mk 0 Oct.none [] 0 0
mutual
def lay : Tn → Mk → Nat → Mk × Nat
  | .mk k s subs mn mx, m, a =>
    if k = 2 ∨ k = 6 ∨ k = 7 then (m.st.ed ⟨if k = 2 then 2 else k - 3, a, m.S, s⟩, m.S)
    else if k = 3 then seqs subs m a
    else if k = 4 then joint (alts subs m a [])
    else if k = 5 then timesOf (fun m a => heads subs m a) (placesOf (hd subs)) mn mx m a
    else (m, a)
def seqs : List Tn → Mk → Nat → Mk × Nat
  | [], m, a => (m, a)
  | t :: ts, m, a => seqs ts (lay t m a).1 (lay t m a).2
def alts : List Tn → Mk → Nat → List Nat → Mk × List Nat
  | [], m, _, l => (m, l)
  | t :: ts, m, a, l => alts ts (lay t (m.st.fr a m.S) m.S).1 a (l ++ [(lay t (m.st.fr a m.S) m.S).2])
def heads : List Tn → Mk → Nat → Mk × Nat
  | [], m, a => (m, a)
  | t :: _, m, a => lay t m a
end
theorem lay_mk (k : Int) (s : Oct.S) (subs : List Tn) (mn mx : Int) (m : Mk) (a : Nat) : lay (.mk k s subs mn mx) m a =
    (if k = 2 ∨ k = 6 ∨ k = 7 then (m.st.ed ⟨if k = 2 then 2 else k - 3, a, m.S, s⟩, m.S)
    else if k = 3 then seqs subs m a
    else if k = 4 then joint (alts subs m a [])
    else if k = 5 then timesOf (lay (hd subs)) (placesOf (hd subs)) mn mx m a
    else (m, a)) := by
  rw [lay]
  by_cases h5 : k = 5
  · subst h5
    simp only [show ¬ ((5 : Int) = 2 ∨ (5 : Int) = 6 ∨ (5 : Int) = 7) by decide, show ¬ (5 : Int) = 3 by decide, show ¬ (5 : Int) = 4 by decide, if_false, if_true]
    cases subs with
    | nil =>
      have e : (fun (m : Mk) (a : Nat) => heads [] m a) = lay (hd []) := by
        funext m a
        rw [heads, hd, lay]
        simp
      rw [e]
    | cons t ts =>
      have e : (fun (m : Mk) (a : Nat) => heads (t :: ts) m a) = lay (hd (t :: ts)) := by
        funext m a
        rw [heads, hd]
      rw [e]
  · simp [h5]
/-- it only grows -/
def Mk.le (m m' : Mk) : Prop := m.S ≤ m'.S ∧ m.es.length ≤ m'.es.length
theorem Mk.le.refl (m : Mk) : m.le m := ⟨Nat.le_refl _, Nat.le_refl _⟩
theorem Mk.le.trans {a b c : Mk} (h : a.le b) (h2 : b.le c) : a.le c := ⟨Nat.le_trans h.1 h2.1, Nat.le_trans h.2 h2.2⟩
theorem Mk.le_st (m : Mk) : m.le m.st := ⟨Nat.le_succ _, Nat.le_refl _⟩
theorem Mk.le_ed (m : Mk) (e : Eg) : m.le (m.ed e) := ⟨Nat.le_refl _, by simp [Mk.ed]⟩
theorem Mk.le_fr (m : Mk) (a b : Nat) : m.le (m.fr a b) := m.le_ed _
theorem frees_le : ∀ (l : List Nat) (s : Nat) (m : Mk), m.le (frees l s m)
  | [], _, m => .refl m
  | a :: l, s, m => (m.le_fr a s).trans (frees_le l s _)
theorem joint_le (r : Mk × List Nat) : r.1.le (joint r).1 := r.1.le_st.trans (frees_le _ _ _)
def Grows (F : Mk → Nat → Mk × Nat) : Prop := ∀ (m : Mk) (a : Nat), m.le (F m a).1
theorem rounds_le {F : Mk → Nat → Mk × Nat} (h : Grows F) : ∀ (n : Nat) (x : Mk × Nat), x.1.le (rounds F n x).1
  | 0, _ => .refl _
  | n + 1, x => (h x.1 x.2).trans (rounds_le h n _)
theorem tails_le {F : Mk → Nat → Mk × Nat} (h : Grows F) : ∀ (n : Nat) (x : Mk × Nat) (l : List Nat), x.1.le (tails F n x l).1
  | 0, _, _ => .refl _
  | n + 1, x, _ => (h x.1 x.2).trans (tails_le h n _ _)
theorem again_le {F : Mk → Nat → Mk × Nat} (h : Grows F) (c : Mk × Nat) : c.1.le (again F c).1 :=
  (c.1.le_st.trans (Mk.le_fr _ _ _)).trans ((h _ _).trans ((Mk.le_fr _ _ _).trans ((Mk.le_st _).trans (Mk.le_fr _ _ _))))
theorem times_le {F : Mk → Nat → Mk × Nat} (h : Grows F) (p : Nat) (mn mx : Int) (m : Mk) (a : Nat) : m.le (timesOf F p mn mx m a).1 := by
  unfold timesOf
  split
  · exact .refl _
  split
  · exact (rounds_le h _ (m, a)).trans (again_le h _)
  split
  · exact rounds_le h _ (m, a)
  · exact (rounds_le h _ (m, a)).trans ((tails_le h _ _ _).trans (joint_le _))
mutual
theorem lay_le : ∀ (t : Tn) (m : Mk) (a : Nat), m.le (lay t m a).1
  | .mk k s subs mn mx, m, a => by
    rw [lay]
    split
    · exact m.le_st.trans (Mk.le_ed _ _)
    split
    · exact seqs_le subs m a
    split
    · exact (alts_le subs m a []).trans (joint_le _)
    split
    · exact times_le (fun m a => heads_le subs m a) _ _ _ _ _
    · exact .refl _
theorem seqs_le : ∀ (ts : List Tn) (m : Mk) (a : Nat), m.le (seqs ts m a).1
  | [], m, a => by rw [seqs]; exact .refl _
  | t :: ts, m, a => by rw [seqs]; exact (lay_le t m a).trans (seqs_le ts _ _)
theorem alts_le : ∀ (ts : List Tn) (m : Mk) (a : Nat) (l : List Nat), m.le (alts ts m a l).1
  | [], m, a, l => by rw [alts]; exact .refl _
  | t :: ts, m, a, l => by rw [alts]; exact (m.le_st.trans (Mk.le_fr _ _ _)).trans ((lay_le t _ _).trans (alts_le ts _ _ _))
theorem heads_le : ∀ (ts : List Tn) (m : Mk) (a : Nat), m.le (heads ts m a).1
  | [], m, a => by rw [heads]; exact .refl _
  | t :: _, m, a => by rw [heads]; exact lay_le t m a
end
mutual
def raw : Tn → Nat
  | .mk k _ subs mn mx => ends k (raws subs) subs.length mn mx
def raws : List Tn → Nat
  | [] => 0
  | t :: ts => raw t + raws ts
end
mutual
theorem plc_raw : ∀ t : Tn, (plc t).2 = true → (plc t).1 = min (raw t) 2048
  | .mk k s subs mn mx, h => by
    rw [plc] at h ⊢
    rw [raw]
    cases hsh : shapedT k s subs.length mn mx with
    | false => rw [hsh] at h; simp at h
    | true =>
      rw [hsh, if_pos rfl] at h
      rw [if_pos rfl]
      cases hp : plcs subs 0 with
      | none => rw [hp] at h; simp at h
      | some n =>
        have hn := plcs_raw subs 0 n hp
        simp only [Nat.zero_add] at hn
        show min (ends k n subs.length mn mx) 2048 = _
        unfold ends
        split
        · rfl
        split
        · omega
        split
        · rename_i h5
          have h5' := shaped_five hsh h5
          exact rep_same hn (by omega)
        · exact hn
theorem plcs_raw : ∀ (ts : List Tn) (n m : Nat), plcs ts n = some m → min m 2048 = min (n + raws ts) 2048
  | [], n, m, h => by rw [plcs] at h; cases h; rw [raws, Nat.add_zero]
  | t :: ts, n, m, h => by
    rw [plcs] at h
    cases hp : (plc t).2 with
    | false => rw [hp] at h; simp at h
    | true =>
      rw [hp, if_pos rfl] at h
      have h1 := plcs_raw ts _ m h
      have h2 := plc_raw t hp
      rw [raws]
      rw [h2] at h1
      omega
end
theorem plc_subs {k : Int} {s : Oct.S} {subs : List Tn} {mn mx : Int} (h : (plc (.mk k s subs mn mx)).2 = true) : shapedT k s subs.length mn mx = true ∧ ∀ t ∈ subs, (plc t).2 = true := by
  rw [plc_snd] at h
  simp only [Bool.and_eq_true, List.all_eq_true] at h
  exact h
theorem frees_size : ∀ (l : List Nat) (s : Nat) (m : Mk), (frees l s m).S = m.S ∧ (frees l s m).es.length = m.es.length + l.length
  | [], _, m => ⟨rfl, rfl⟩
  | a :: l, s, m => by
    obtain ⟨h1, h2⟩ := frees_size l s (m.fr a s)
    refine ⟨h1, ?_⟩
    rw [frees, h2]
    simp [Mk.fr, Mk.ed]
    omega
theorem joint_size (r : Mk × List Nat) : (joint r).1.S = r.1.S + 1 ∧ (joint r).1.es.length = r.1.es.length + r.2.length := by
  obtain ⟨h1, h2⟩ := frees_size r.2 r.1.S r.1.st
  exact ⟨h1, h2⟩
/-- a tree laid adds so many states, and edges at most so many -/
def Adds (F : Mk → Nat → Mk × Nat) (r : Nat) : Prop := ∀ (m : Mk) (a : Nat), (F m a).1.S = m.S + r ∧ (F m a).1.es.length + min 1 r ≤ m.es.length + 2 * r
theorem rounds_size {F : Mk → Nat → Mk × Nat} {r : Nat} (h : Adds F r) (hr : 1 ≤ r) : ∀ (n : Nat) (x : Mk × Nat), (rounds F n x).1.S = x.1.S + n * r ∧ (rounds F n x).1.es.length + n ≤ x.1.es.length + 2 * (n * r)
  | 0, x => by simp [rounds]
  | n + 1, x => by
    obtain ⟨h1, h2⟩ := h x.1 x.2
    obtain ⟨h3, h4⟩ := rounds_size h hr n (F x.1 x.2)
    rw [rounds, Nat.succ_mul]
    omega
theorem tails_size {F : Mk → Nat → Mk × Nat} {r : Nat} (h : Adds F r) (hr : 1 ≤ r) : ∀ (n : Nat) (x : Mk × Nat) (l : List Nat), (tails F n x l).1.S = x.1.S + n * r ∧ (tails F n x l).1.es.length + n ≤ x.1.es.length + 2 * (n * r) ∧ (tails F n x l).2.length = l.length + n
  | 0, x, l => by simp [tails]
  | n + 1, x, l => by
    obtain ⟨h1, h2⟩ := h x.1 x.2
    obtain ⟨h3, h4, h5⟩ := tails_size h hr n (F x.1 x.2) (l ++ [(F x.1 x.2).2])
    rw [tails, Nat.succ_mul]
    simp only [List.length_append, List.length_cons, List.length_nil] at h5
    omega
theorem again_size {F : Mk → Nat → Mk × Nat} {r : Nat} (h : Adds F r) (hr : 1 ≤ r) (c : Mk × Nat) : (again F c).1.S = c.1.S + r + 2 ∧ (again F c).1.es.length ≤ c.1.es.length + 2 * r + 2 := by
  obtain ⟨h1, h2⟩ := h (c.1.st.fr c.2 c.1.S) c.1.S
  unfold again
  simp [Mk.st, Mk.fr, Mk.ed] at h1 h2 ⊢
  omega
theorem times_size {F : Mk → Nat → Mk × Nat} {r : Nat} (h : Adds F r) {p : Nat} (hp : p = 1 ↔ r = 0) {mn mx : Int} (h0 : 0 ≤ mn) (h1 : mx = -1 ∨ mn ≤ mx) : Adds (timesOf F p mn mx) (repT r mn.toNat mx).toNat := by
  intro m a
  unfold timesOf repT
  by_cases hr : r = 0
  · rw [if_pos (hp.2 hr), if_pos hr]
    simp
  · rw [if_neg (fun e => hr (hp.1 e)), if_neg hr]
    have hr1 : 1 ≤ r := by omega
    obtain ⟨q1, q2⟩ := rounds_size h hr1 mn.toNat (m, a)
    simp only at q1 q2
    by_cases hm : mx = -1
    · rw [if_pos hm, if_pos hm]
      obtain ⟨q3, q4⟩ := again_size h hr1 (rounds F mn.toNat (m, a))
      have e : ((mn.toNat : Int) * (r : Int) + (r : Int) + 2).toNat = mn.toNat * r + r + 2 := by
        have : ((mn.toNat : Int) * (r : Int)) = ((mn.toNat * r : Nat) : Int) := by push_cast; rfl
        omega
      rw [e]
      omega
    · rw [if_neg hm, if_neg hm]
      by_cases he : mx = mn
      · rw [if_pos he, if_neg (by omega)]
        have e : ((mn.toNat : Int) * (r : Int)).toNat = mn.toNat * r := by
          have : ((mn.toNat : Int) * (r : Int)) = ((mn.toNat * r : Nat) : Int) := by push_cast; rfl
          omega
        rw [e]
        have hz : min 1 (mn.toNat * r) ≤ mn.toNat := by
          by_cases hz : mn.toNat = 0
          · rw [hz]; simp
          · omega
        omega
      · rw [if_neg he, if_pos (by omega)]
        obtain ⟨q3, q4, q5⟩ := tails_size h hr1 (mx - mn).toNat (rounds F mn.toNat (m, a)) [(rounds F mn.toNat (m, a)).2]
        obtain ⟨q6, q7⟩ := joint_size (tails F (mx - mn).toNat (rounds F mn.toNat (m, a)) [(rounds F mn.toNat (m, a)).2])
        have e : (mx * (r : Int) + 1).toNat = mn.toNat * r + (mx - mn).toNat * r + 1 := by
          have e2 : mx = ((mn.toNat + (mx - mn).toNat : Nat) : Int) := by omega
          have : mx * (r : Int) = (((mn.toNat + (mx - mn).toNat) * r : Nat) : Int) := by
            conv => lhs; rw [e2]
            push_cast
            rfl
          rw [Nat.add_mul] at this
          omega
        rw [e]
        simp only [List.length_cons, List.length_nil] at q5
        omega
theorem shaped_times {s : Oct.S} {n : Nat} {mn mx : Int} {k : Int} (h : shapedT k s n mn mx = true) (hk : k = 5) : n = 1 ∧ 0 ≤ mn ∧ (mx = -1 ∨ mn ≤ mx) := by
  subst hk
  unfold shapedT at h
  simp [counted] at h
  omega
theorem shaped_one {s : Oct.S} {n : Nat} {mn mx : Int} {k : Int} (h : shapedT k s n mn mx = true) (h2 : ¬ (k = 2 ∨ k = 6 ∨ k = 7)) (h3 : ¬ k = 3) (h4 : ¬ k = 4) (h5 : ¬ k = 5) : n = 0 := by
  unfold shapedT at h
  by_cases h1 : k = 1
  · subst h1
    simp at h
    exact h.1.1
  · rw [if_neg (by omega), if_neg (by omega), if_neg (by omega), if_neg h5] at h
    cases h
mutual
theorem lay_size : ∀ (t : Tn), (plc t).2 = true → Adds (lay t) (raw t)
  | .mk k s subs mn mx, h => fun m a => by
    obtain ⟨hsh, hsub⟩ := plc_subs h
    have h4' := alts_size subs hsub
    have h3' := seqs_size subs hsub
    have h5' := heads_size subs hsub
    rw [lay_mk, raw]
    unfold ends
    by_cases h2 : k = 2 ∨ k = 6 ∨ k = 7
    · rw [if_pos h2, if_pos h2]
      simp [Mk.st, Mk.ed]
    rw [if_neg h2, if_neg h2]
    by_cases h3 : k = 3
    · rw [if_pos h3, if_neg (by omega), if_neg (by omega)]
      exact h3' m a
    rw [if_neg h3]
    by_cases h4 : k = 4
    · rw [if_pos h4, if_pos h4]
      obtain ⟨q1, q2⟩ := h4' m a []
      obtain ⟨q3, q4⟩ := joint_size (alts subs m a [])
      simp only [List.length_nil] at q2
      omega
    rw [if_neg h4, if_neg h4]
    by_cases h5 : k = 5
    · rw [if_pos h5, if_pos h5]
      obtain ⟨hn, h0, hx⟩ := shaped_times hsh h5
      cases subs with
      | nil => simp at hn
      | cons t ts =>
        have hts : ts = [] := by simpa using hn
        subst hts
        have hpt := hsub t (by simp)
        have hp : placesOf (hd [t]) = 1 ↔ raws [t] = 0 := by
          unfold placesOf hd
          rw [if_pos hpt, plc_raw t hpt, raws, raws]
          omega
        have hF : Adds (lay (hd [t])) (raws [t]) := by
          have := h5' t rfl
          rw [raws, raws, Nat.add_zero]
          exact this
        exact times_size hF hp h0 hx m a
    · rw [if_neg h5, if_neg h5]
      have := shaped_one hsh h2 h3 h4 h5
      have hn : subs = [] := List.length_eq_zero_iff.1 this
      subst hn
      rw [raws]
      simp
theorem seqs_size : ∀ (ts : List Tn), (∀ t ∈ ts, (plc t).2 = true) → ∀ (m : Mk) (a : Nat), (seqs ts m a).1.S = m.S + raws ts ∧ (seqs ts m a).1.es.length + min 1 (raws ts) ≤ m.es.length + 2 * raws ts
  | [], _, m, a => by rw [seqs, raws]; simp
  | t :: ts, h, m, a => by
    have h1 := lay_size t (h t (by simp)) m a
    have h2 := seqs_size ts (fun u hu => h u (by simp [hu])) (lay t m a).1 (lay t m a).2
    rw [seqs, raws]
    omega
theorem alts_size : ∀ (ts : List Tn), (∀ t ∈ ts, (plc t).2 = true) → ∀ (m : Mk) (a : Nat) (l : List Nat), (alts ts m a l).1.S = m.S + raws ts + ts.length ∧ (alts ts m a l).1.es.length + (alts ts m a l).2.length ≤ m.es.length + l.length + 2 * (raws ts + ts.length)
  | [], _, m, a, l => by rw [alts, raws]; simp
  | t :: ts, h, m, a, l => by
    have h1 := lay_size t (h t (by simp)) (m.st.fr a m.S) m.S
    have h2 := alts_size ts (fun u hu => h u (by simp [hu])) (lay t (m.st.fr a m.S) m.S).1 a (l ++ [(lay t (m.st.fr a m.S) m.S).2])
    rw [alts, raws]
    have e1 : (m.st.fr a m.S).S = m.S + 1 := rfl
    have e2 : (m.st.fr a m.S).es.length = m.es.length + 1 := by simp [Mk.st, Mk.fr, Mk.ed]
    simp only [List.length_append, List.length_cons, List.length_nil] at h2 ⊢
    omega
theorem heads_size : ∀ (ts : List Tn), (∀ t ∈ ts, (plc t).2 = true) → ∀ t, ts = [t] → Adds (lay t) (raw t)
  | [], _, t, e => by cases e
  | t :: ts, h, u, e => by
    cases e
    exact lay_size t (h t (by simp))
end
end Go.Proofs.Ytjmbimgofceanaa
