
import Derived.Test.YtmjnobdlgbojoaaGreatDoorG16
import Derived.Deep.DeepCutAuto
import Derived.Test.YtmjnobdlgbojoaaGreatDoorG09
import Derived.Deep.DeepAppendRoom
import Derived.Deep.AppendLies
namespace Go.Proofs.YtmjnobdlgbojoaaGreatDoor
open Go.RowKit
attribute [local go_sem ↓] Go.wp_at_zero Go.wp_at_succ
theorem noSet_none : noSet Oct.none = true := by unfold noSet; rw [show Oct.none = fun _ => false from rfl]; simp [Oct.word_none]
end Go.Proofs.YtmjnobdlgbojoaaGreatDoor


namespace Go.Proofs.YtmjnobdlgbojoaaGreatDoor
open Go.RowKit
attribute [local go_sem ↓] Go.wp_at_zero Go.wp_at_succ
theorem plcs_some {ts : List Tn} : ∀ n, (plcs ts n).isSome = ts.all (fun t => (plc t).2) := by
  induction ts with
  | nil => intro n; rw [plcs]; rfl
  | cons t ts ih =>
    intro n
    rw [plcs, List.all_cons]
    cases (plc t).2 with
    | true => rw [if_pos rfl, ih, Bool.true_and]
    | false => rfl
theorem plc_snd (k : Int) (s : Oct.S) (subs : List Tn) (mn mx : Int) : (plc (.mk k s subs mn mx)).2 = (shapedT k s subs.length mn mx && subs.all (fun t => (plc t).2)) := by
  rw [plc, ← plcs_some 0]
  cases shapedT k s subs.length mn mx with
  | false => rfl
  | true =>
    rw [if_pos rfl]
    cases plcs subs 0 <;> rfl
end Go.Proofs.YtmjnobdlgbojoaaGreatDoor


namespace Go.Proofs.YtmjnobdlgbojoaaGreatDoor
open Go.RowKit
attribute [local go_sem ↓] Go.wp_at_zero Go.wp_at_succ
def endsR (k : Int) (n len : Nat) (mn mx : Int) : Nat := if k = 2 ∨ k = 6 ∨ k = 7 then 1 else if k = 4 then min 4096 (n + len + 1) else if k = 5 then min 4096 (repT n mn.toNat mx).toNat else min 4096 n
mutual
def cnt : Tn → Nat
  | .mk k _ subs mn mx => endsR k (cnts subs 0) subs.length mn mx
def cnts : List Tn → Nat → Nat
  | [], n => n
  | t :: ts, n => cnts ts (min 4096 (n + cnt t))
end
theorem rep_same {n m l : Nat} {x : Int} (h : min n 2048 = min m 2048) (hx : -1 ≤ x) : min (repT n l x).toNat 2048 = min (repT m l x).toNat 2048 := by
  by_cases hs : n = m
  · rw [hs]
  · have hn : 2048 ≤ n := by omega
    have hm : 2048 ≤ m := by omega
    have hn0 : ¬ n = 0 := by omega
    have hm0 : ¬ m = 0 := by omega
    unfold repT
    rw [if_neg hn0, if_neg hm0]
    by_cases h1 : x = -1
    · rw [if_pos h1, if_pos h1]
      have p1 : (0 : Int) ≤ (l : Int) * n := Int.mul_nonneg (by omega) (by omega)
      have p2 : (0 : Int) ≤ (l : Int) * m := Int.mul_nonneg (by omega) (by omega)
      omega
    · rw [if_neg h1, if_neg h1]
      by_cases h2 : (l : Int) < x
      · rw [if_pos h2, if_pos h2]
        have p1 : (1 : Int) * n ≤ x * n := Int.mul_le_mul_of_nonneg_right (by omega) (by omega)
        have p2 : (1 : Int) * m ≤ x * m := Int.mul_le_mul_of_nonneg_right (by omega) (by omega)
        omega
      · rw [if_neg h2, if_neg h2]
        by_cases h3 : l = 0
        · subst h3; simp
        · have p1 : (1 : Int) * n ≤ (l : Int) * n := Int.mul_le_mul_of_nonneg_right (by omega) (by omega)
          have p2 : (1 : Int) * m ≤ (l : Int) * m := Int.mul_le_mul_of_nonneg_right (by omega) (by omega)
          omega
theorem shaped_five {s : Oct.S} {n : Nat} {mn mx : Int} {k : Int} (h : shapedT k s n mn mx = true) (hk : k = 5) : 0 ≤ mn ∧ mn ≤ 255 ∧ -1 ≤ mx ∧ mx ≤ 255 := by
  subst hk
  unfold shapedT at h
  simp [counted] at h
  omega
end Go.Proofs.YtmjnobdlgbojoaaGreatDoor


namespace Go.Proofs.YtmjnobdlgbojoaaGreatDoor
structure Eg where
  k : Int
  f : Int
  t : Int
  s : Oct.S
structure Mk where
  S : Nat
  es : List Eg
def Mk.st (m : Mk) : Mk := ⟨m.S + 1, m.es⟩
def Mk.ed (m : Mk) (e : Eg) : Mk := ⟨m.S, m.es ++ [e]⟩
def Mk.fr (m : Mk) (a b : Nat) : Mk := m.ed ⟨1, a, b, Oct.none⟩
def frees : List Nat → Nat → Mk → Mk
  | [], _, m => m
  | a :: l, s, m => frees l s (m.fr a s)
def rounds (F : Mk → Nat → Mk × Nat) : Nat → Mk × Nat → Mk × Nat
  | 0, x => x
  | n + 1, x => rounds F n (F x.1 x.2)
def tails (F : Mk → Nat → Mk × Nat) : Nat → Mk × Nat → List Nat → Mk × List Nat
  | 0, x, l => (x.1, l)
  | n + 1, x, l => tails F n (F x.1 x.2) (l ++ [(F x.1 x.2).2])
def joint (r : Mk × List Nat) : Mk × Nat := (frees r.2 r.1.S r.1.st, r.1.S)
def again (F : Mk → Nat → Mk × Nat) (c : Mk × Nat) : Mk × Nat :=
  (((((F (c.1.st.fr c.2 c.1.S) c.1.S).1.fr (F (c.1.st.fr c.2 c.1.S) c.1.S).2 c.1.S)).st).fr c.1.S (F (c.1.st.fr c.2 c.1.S) c.1.S).1.S, (F (c.1.st.fr c.2 c.1.S) c.1.S).1.S)
def timesOf (F : Mk → Nat → Mk × Nat) (p : Nat) (mn mx : Int) (m : Mk) (a : Nat) : Mk × Nat :=
  if p = 1 then (m, a)
  else if mx = -1 then again F (rounds F mn.toNat (m, a))
  else if mx = mn then rounds F mn.toNat (m, a)
  else joint (tails F (mx - mn).toNat (rounds F mn.toNat (m, a)) [(rounds F mn.toNat (m, a)).2])
def hd : List Tn → Tn
  | t :: _ => t
  | [] => .mk 0 Oct.none [] 0 0
mutual
def lay : Tn → Mk → Nat → Mk × Nat
  | .mk k s subs mn mx, m, a =>
    if k = 2 ∨ k = 6 ∨ k = 7 then (m.st.ed ⟨if k = 2 then 2 else k - 3, a, m.S, s⟩, m.S)
    else if k = 3 then seqs subs m a
    else if k = 4 then joint (alts subs m a [])
    else if k = 5 then timesOf (fun m a => heads subs m a) (placesOf (hd subs)) mn mx m a
    else (m, a)
def seqs : List Tn → Mk → Nat → Mk × Nat
  | [], m, a => (m, a)
  | t :: ts, m, a => seqs ts (lay t m a).1 (lay t m a).2
def alts : List Tn → Mk → Nat → List Nat → Mk × List Nat
  | [], m, _, l => (m, l)
  | t :: ts, m, a, l => alts ts (lay t (m.st.fr a m.S) m.S).1 a (l ++ [(lay t (m.st.fr a m.S) m.S).2])
def heads : List Tn → Mk → Nat → Mk × Nat
  | [], m, a => (m, a)
  | t :: _, m, a => lay t m a
end
theorem lay_mk (k : Int) (s : Oct.S) (subs : List Tn) (mn mx : Int) (m : Mk) (a : Nat) : lay (.mk k s subs mn mx) m a =
    (if k = 2 ∨ k = 6 ∨ k = 7 then (m.st.ed ⟨if k = 2 then 2 else k - 3, a, m.S, s⟩, m.S)
    else if k = 3 then seqs subs m a
    else if k = 4 then joint (alts subs m a [])
    else if k = 5 then timesOf (lay (hd subs)) (placesOf (hd subs)) mn mx m a
    else (m, a)) := by
  rw [lay]
  by_cases h5 : k = 5
  · subst h5
    simp only [show ¬ ((5 : Int) = 2 ∨ (5 : Int) = 6 ∨ (5 : Int) = 7) by decide, show ¬ (5 : Int) = 3 by decide, show ¬ (5 : Int) = 4 by decide, if_false, if_true]
    cases subs with
    | nil =>
      have e : (fun (m : Mk) (a : Nat) => heads [] m a) = lay (hd []) := by
        funext m a
        rw [heads, hd, lay]
        simp
      rw [e]
    | cons t ts =>
      have e : (fun (m : Mk) (a : Nat) => heads (t :: ts) m a) = lay (hd (t :: ts)) := by
        funext m a
        rw [heads, hd]
      rw [e]
  · simp [h5]
def Mk.le (m m' : Mk) : Prop := m.S ≤ m'.S ∧ m.es.length ≤ m'.es.length
theorem Mk.le.refl (m : Mk) : m.le m := ⟨Nat.le_refl _, Nat.le_refl _⟩
theorem Mk.le.trans {a b c : Mk} (h : a.le b) (h2 : b.le c) : a.le c := ⟨Nat.le_trans h.1 h2.1, Nat.le_trans h.2 h2.2⟩
theorem Mk.le_st (m : Mk) : m.le m.st := ⟨Nat.le_succ _, Nat.le_refl _⟩
theorem Mk.le_ed (m : Mk) (e : Eg) : m.le (m.ed e) := ⟨Nat.le_refl _, by simp [Mk.ed]⟩
theorem Mk.le_fr (m : Mk) (a b : Nat) : m.le (m.fr a b) := m.le_ed _
theorem frees_le : ∀ (l : List Nat) (s : Nat) (m : Mk), m.le (frees l s m)
  | [], _, m => .refl m
  | a :: l, s, m => (m.le_fr a s).trans (frees_le l s _)
theorem joint_le (r : Mk × List Nat) : r.1.le (joint r).1 := r.1.le_st.trans (frees_le _ _ _)
def Grows (F : Mk → Nat → Mk × Nat) : Prop := ∀ (m : Mk) (a : Nat), m.le (F m a).1
theorem rounds_le {F : Mk → Nat → Mk × Nat} (h : Grows F) : ∀ (n : Nat) (x : Mk × Nat), x.1.le (rounds F n x).1
  | 0, _ => .refl _
  | n + 1, x => (h x.1 x.2).trans (rounds_le h n _)
theorem tails_le {F : Mk → Nat → Mk × Nat} (h : Grows F) : ∀ (n : Nat) (x : Mk × Nat) (l : List Nat), x.1.le (tails F n x l).1
  | 0, _, _ => .refl _
  | n + 1, x, _ => (h x.1 x.2).trans (tails_le h n _ _)
theorem again_le {F : Mk → Nat → Mk × Nat} (h : Grows F) (c : Mk × Nat) : c.1.le (again F c).1 :=
  (c.1.le_st.trans (Mk.le_fr _ _ _)).trans ((h _ _).trans ((Mk.le_fr _ _ _).trans ((Mk.le_st _).trans (Mk.le_fr _ _ _))))
theorem times_le {F : Mk → Nat → Mk × Nat} (h : Grows F) (p : Nat) (mn mx : Int) (m : Mk) (a : Nat) : m.le (timesOf F p mn mx m a).1 := by
  unfold timesOf
  split
  · exact .refl _
  split
  · exact (rounds_le h _ (m, a)).trans (again_le h _)
  split
  · exact rounds_le h _ (m, a)
  · exact (rounds_le h _ (m, a)).trans ((tails_le h _ _ _).trans (joint_le _))
mutual
theorem lay_le : ∀ (t : Tn) (m : Mk) (a : Nat), m.le (lay t m a).1
  | .mk k s subs mn mx, m, a => by
    rw [lay]
    split
    · exact m.le_st.trans (Mk.le_ed _ _)
    split
    · exact seqs_le subs m a
    split
    · exact (alts_le subs m a []).trans (joint_le _)
    split
    · exact times_le (fun m a => heads_le subs m a) _ _ _ _ _
    · exact .refl _
theorem seqs_le : ∀ (ts : List Tn) (m : Mk) (a : Nat), m.le (seqs ts m a).1
  | [], m, a => by rw [seqs]; exact .refl _
  | t :: ts, m, a => by rw [seqs]; exact (lay_le t m a).trans (seqs_le ts _ _)
theorem alts_le : ∀ (ts : List Tn) (m : Mk) (a : Nat) (l : List Nat), m.le (alts ts m a l).1
  | [], m, a, l => by rw [alts]; exact .refl _
  | t :: ts, m, a, l => by rw [alts]; exact (m.le_st.trans (Mk.le_fr _ _ _)).trans ((lay_le t _ _).trans (alts_le ts _ _ _))
theorem heads_le : ∀ (ts : List Tn) (m : Mk) (a : Nat), m.le (heads ts m a).1
  | [], m, a => by rw [heads]; exact .refl _
  | t :: _, m, a => by rw [heads]; exact lay_le t m a
end
mutual
def raw : Tn → Nat
  | .mk k _ subs mn mx => ends k (raws subs) subs.length mn mx
def raws : List Tn → Nat
  | [] => 0
  | t :: ts => raw t + raws ts
end
mutual
theorem plc_raw : ∀ t : Tn, (plc t).2 = true → (plc t).1 = min (raw t) 2048
  | .mk k s subs mn mx, h => by
    rw [plc] at h ⊢
    rw [raw]
    cases hsh : shapedT k s subs.length mn mx with
    | false => rw [hsh] at h; simp at h
    | true =>
      rw [hsh, if_pos rfl] at h
      rw [if_pos rfl]
      cases hp : plcs subs 0 with
      | none => rw [hp] at h; simp at h
      | some n =>
        have hn := plcs_raw subs 0 n hp
        simp only [Nat.zero_add] at hn
        show min (ends k n subs.length mn mx) 2048 = _
        unfold ends
        split
        · rfl
        split
        · omega
        split
        · rename_i h5
          have h5' := shaped_five hsh h5
          exact rep_same hn (by omega)
        · exact hn
theorem plcs_raw : ∀ (ts : List Tn) (n m : Nat), plcs ts n = some m → min m 2048 = min (n + raws ts) 2048
  | [], n, m, h => by rw [plcs] at h; cases h; rw [raws, Nat.add_zero]
  | t :: ts, n, m, h => by
    rw [plcs] at h
    cases hp : (plc t).2 with
    | false => rw [hp] at h; simp at h
    | true =>
      rw [hp, if_pos rfl] at h
      have h1 := plcs_raw ts _ m h
      have h2 := plc_raw t hp
      rw [raws]
      rw [h2] at h1
      omega
end
theorem plc_subs {k : Int} {s : Oct.S} {subs : List Tn} {mn mx : Int} (h : (plc (.mk k s subs mn mx)).2 = true) : shapedT k s subs.length mn mx = true ∧ ∀ t ∈ subs, (plc t).2 = true := by
  rw [plc_snd] at h
  simp only [Bool.and_eq_true, List.all_eq_true] at h
  exact h
theorem frees_size : ∀ (l : List Nat) (s : Nat) (m : Mk), (frees l s m).S = m.S ∧ (frees l s m).es.length = m.es.length + l.length
  | [], _, m => ⟨rfl, rfl⟩
  | a :: l, s, m => by
    obtain ⟨h1, h2⟩ := frees_size l s (m.fr a s)
    refine ⟨h1, ?_⟩
    rw [frees, h2]
    simp [Mk.fr, Mk.ed]
    omega
theorem joint_size (r : Mk × List Nat) : (joint r).1.S = r.1.S + 1 ∧ (joint r).1.es.length = r.1.es.length + r.2.length := by
  obtain ⟨h1, h2⟩ := frees_size r.2 r.1.S r.1.st
  exact ⟨h1, h2⟩
def Adds (F : Mk → Nat → Mk × Nat) (r : Nat) : Prop := ∀ (m : Mk) (a : Nat), (F m a).1.S = m.S + r ∧ (F m a).1.es.length + min 1 r ≤ m.es.length + 2 * r
theorem rounds_size {F : Mk → Nat → Mk × Nat} {r : Nat} (h : Adds F r) (hr : 1 ≤ r) : ∀ (n : Nat) (x : Mk × Nat), (rounds F n x).1.S = x.1.S + n * r ∧ (rounds F n x).1.es.length + n ≤ x.1.es.length + 2 * (n * r)
  | 0, x => by simp [rounds]
  | n + 1, x => by
    obtain ⟨h1, h2⟩ := h x.1 x.2
    obtain ⟨h3, h4⟩ := rounds_size h hr n (F x.1 x.2)
    rw [rounds, Nat.succ_mul]
    omega
theorem tails_size {F : Mk → Nat → Mk × Nat} {r : Nat} (h : Adds F r) (hr : 1 ≤ r) : ∀ (n : Nat) (x : Mk × Nat) (l : List Nat), (tails F n x l).1.S = x.1.S + n * r ∧ (tails F n x l).1.es.length + n ≤ x.1.es.length + 2 * (n * r) ∧ (tails F n x l).2.length = l.length + n
  | 0, x, l => by simp [tails]
  | n + 1, x, l => by
    obtain ⟨h1, h2⟩ := h x.1 x.2
    obtain ⟨h3, h4, h5⟩ := tails_size h hr n (F x.1 x.2) (l ++ [(F x.1 x.2).2])
    rw [tails, Nat.succ_mul]
    simp only [List.length_append, List.length_cons, List.length_nil] at h5
    omega
theorem again_size {F : Mk → Nat → Mk × Nat} {r : Nat} (h : Adds F r) (hr : 1 ≤ r) (c : Mk × Nat) : (again F c).1.S = c.1.S + r + 2 ∧ (again F c).1.es.length ≤ c.1.es.length + 2 * r + 2 := by
  obtain ⟨h1, h2⟩ := h (c.1.st.fr c.2 c.1.S) c.1.S
  unfold again
  simp [Mk.st, Mk.fr, Mk.ed] at h1 h2 ⊢
  omega
theorem times_size {F : Mk → Nat → Mk × Nat} {r : Nat} (h : Adds F r) {p : Nat} (hp : p = 1 ↔ r = 0) {mn mx : Int} (h0 : 0 ≤ mn) (h1 : mx = -1 ∨ mn ≤ mx) : Adds (timesOf F p mn mx) (repT r mn.toNat mx).toNat := by
  intro m a
  unfold timesOf repT
  by_cases hr : r = 0
  · rw [if_pos (hp.2 hr), if_pos hr]
    simp
  · rw [if_neg (fun e => hr (hp.1 e)), if_neg hr]
    have hr1 : 1 ≤ r := by omega
    obtain ⟨q1, q2⟩ := rounds_size h hr1 mn.toNat (m, a)
    simp only at q1 q2
    by_cases hm : mx = -1
    · rw [if_pos hm, if_pos hm]
      obtain ⟨q3, q4⟩ := again_size h hr1 (rounds F mn.toNat (m, a))
      have e : ((mn.toNat : Int) * (r : Int) + (r : Int) + 2).toNat = mn.toNat * r + r + 2 := by
        have : ((mn.toNat : Int) * (r : Int)) = ((mn.toNat * r : Nat) : Int) := by push_cast; rfl
        omega
      rw [e]
      omega
    · rw [if_neg hm, if_neg hm]
      by_cases he : mx = mn
      · rw [if_pos he, if_neg (by omega)]
        have e : ((mn.toNat : Int) * (r : Int)).toNat = mn.toNat * r := by
          have : ((mn.toNat : Int) * (r : Int)) = ((mn.toNat * r : Nat) : Int) := by push_cast; rfl
          omega
        rw [e]
        have hz : min 1 (mn.toNat * r) ≤ mn.toNat := by
          by_cases hz : mn.toNat = 0
          · rw [hz]; simp
          · omega
        omega
      · rw [if_neg he, if_pos (by omega)]
        obtain ⟨q3, q4, q5⟩ := tails_size h hr1 (mx - mn).toNat (rounds F mn.toNat (m, a)) [(rounds F mn.toNat (m, a)).2]
        obtain ⟨q6, q7⟩ := joint_size (tails F (mx - mn).toNat (rounds F mn.toNat (m, a)) [(rounds F mn.toNat (m, a)).2])
        have e : (mx * (r : Int) + 1).toNat = mn.toNat * r + (mx - mn).toNat * r + 1 := by
          have e2 : mx = ((mn.toNat + (mx - mn).toNat : Nat) : Int) := by omega
          have : mx * (r : Int) = (((mn.toNat + (mx - mn).toNat) * r : Nat) : Int) := by
            conv => lhs; rw [e2]
            push_cast
            rfl
          rw [Nat.add_mul] at this
          omega
        rw [e]
        simp only [List.length_cons, List.length_nil] at q5
        omega
theorem shaped_times {s : Oct.S} {n : Nat} {mn mx : Int} {k : Int} (h : shapedT k s n mn mx = true) (hk : k = 5) : n = 1 ∧ 0 ≤ mn ∧ (mx = -1 ∨ mn ≤ mx) := by
  subst hk
  unfold shapedT at h
  simp [counted] at h
  omega
theorem shaped_one {s : Oct.S} {n : Nat} {mn mx : Int} {k : Int} (h : shapedT k s n mn mx = true) (h2 : ¬ (k = 2 ∨ k = 6 ∨ k = 7)) (h3 : ¬ k = 3) (h4 : ¬ k = 4) (h5 : ¬ k = 5) : n = 0 := by
  unfold shapedT at h
  by_cases h1 : k = 1
  · subst h1
    simp at h
    exact h.1.1
  · rw [if_neg (by omega), if_neg (by omega), if_neg (by omega), if_neg h5] at h
    cases h
mutual
theorem lay_size : ∀ (t : Tn), (plc t).2 = true → Adds (lay t) (raw t)
  | .mk k s subs mn mx, h => fun m a => by
    obtain ⟨hsh, hsub⟩ := plc_subs h
    have h4' := alts_size subs hsub
    have h3' := seqs_size subs hsub
    have h5' := heads_size subs hsub
    rw [lay_mk, raw]
    unfold ends
    by_cases h2 : k = 2 ∨ k = 6 ∨ k = 7
    · rw [if_pos h2, if_pos h2]
      simp [Mk.st, Mk.ed]
    rw [if_neg h2, if_neg h2]
    by_cases h3 : k = 3
    · rw [if_pos h3, if_neg (by omega), if_neg (by omega)]
      exact h3' m a
    rw [if_neg h3]
    by_cases h4 : k = 4
    · rw [if_pos h4, if_pos h4]
      obtain ⟨q1, q2⟩ := h4' m a []
      obtain ⟨q3, q4⟩ := joint_size (alts subs m a [])
      simp only [List.length_nil] at q2
      omega
    rw [if_neg h4, if_neg h4]
    by_cases h5 : k = 5
    · rw [if_pos h5, if_pos h5]
      obtain ⟨hn, h0, hx⟩ := shaped_times hsh h5
      cases subs with
      | nil => simp at hn
      | cons t ts =>
        have hts : ts = [] := by simpa using hn
        subst hts
        have hpt := hsub t (by simp)
        have hp : placesOf (hd [t]) = 1 ↔ raws [t] = 0 := by
          unfold placesOf hd
          rw [if_pos hpt, plc_raw t hpt, raws, raws]
          omega
        have hF : Adds (lay (hd [t])) (raws [t]) := by
          have := h5' t rfl
          rw [raws, raws, Nat.add_zero]
          exact this
        exact times_size hF hp h0 hx m a
    · rw [if_neg h5, if_neg h5]
      have := shaped_one hsh h2 h3 h4 h5
      have hn : subs = [] := List.length_eq_zero_iff.1 this
      subst hn
      rw [raws]
      simp
theorem seqs_size : ∀ (ts : List Tn), (∀ t ∈ ts, (plc t).2 = true) → ∀ (m : Mk) (a : Nat), (seqs ts m a).1.S = m.S + raws ts ∧ (seqs ts m a).1.es.length + min 1 (raws ts) ≤ m.es.length + 2 * raws ts
  | [], _, m, a => by rw [seqs, raws]; simp
  | t :: ts, h, m, a => by
    have h1 := lay_size t (h t (by simp)) m a
    have h2 := seqs_size ts (fun u hu => h u (by simp [hu])) (lay t m a).1 (lay t m a).2
    rw [seqs, raws]
    omega
theorem alts_size : ∀ (ts : List Tn), (∀ t ∈ ts, (plc t).2 = true) → ∀ (m : Mk) (a : Nat) (l : List Nat), (alts ts m a l).1.S = m.S + raws ts + ts.length ∧ (alts ts m a l).1.es.length + (alts ts m a l).2.length ≤ m.es.length + l.length + 2 * (raws ts + ts.length)
  | [], _, m, a, l => by rw [alts, raws]; simp
  | t :: ts, h, m, a, l => by
    have h1 := lay_size t (h t (by simp)) (m.st.fr a m.S) m.S
    have h2 := alts_size ts (fun u hu => h u (by simp [hu])) (lay t (m.st.fr a m.S) m.S).1 a (l ++ [(lay t (m.st.fr a m.S) m.S).2])
    rw [alts, raws]
    have e1 : (m.st.fr a m.S).S = m.S + 1 := rfl
    have e2 : (m.st.fr a m.S).es.length = m.es.length + 1 := by simp [Mk.st, Mk.fr, Mk.ed]
    simp only [List.length_append, List.length_cons, List.length_nil] at h2 ⊢
    omega
theorem heads_size : ∀ (ts : List Tn), (∀ t ∈ ts, (plc t).2 = true) → ∀ t, ts = [t] → Adds (lay t) (raw t)
  | [], _, t, e => by cases e
  | t :: ts, h, u, e => by
    cases e
    exact lay_size t (h t (by simp))
end
end Go.Proofs.YtmjnobdlgbojoaaGreatDoor


namespace Go.Proofs.YtmjnobdlgbojoaaGreatDoor
open Go.RowKit
attribute [local go_sem ↓] Go.wp_at_zero Go.wp_at_succ
def Eg.cells (e : Eg) : List Value := [.int .i64 e.k, .int .i64 e.f, .int .i64 e.t, .int .u64 (Oct.word e.s 0 : Nat), .int .u64 (Oct.word e.s 1 : Nat), .int .u64 (Oct.word e.s 2 : Nat), .int .u64 (Oct.word e.s 3 : Nat)]
def flatE (es : List Eg) : List Value := es.flatMap Eg.cells
theorem flatE_length (es : List Eg) : (flatE es).length = 7 * es.length := by
  induction es with
  | nil => rfl
  | cons x r ih => simp only [flatE, List.flatMap_cons, List.length_append, List.length_cons] at ih ⊢; rw [ih]; simp [Eg.cells]; omega
theorem flatE_append (a b : List Eg) : flatE (a ++ b) = flatE a ++ flatE b := by simp [flatE]
theorem flatE_one (es : List Eg) : ∀ u ∈ flatE es, u.oneCell' = true := by
  intro u hu
  obtain ⟨x, _, hx⟩ := List.mem_flatMap.1 hu
  simp only [Eg.cells, List.mem_cons, List.not_mem_nil, or_false] at hx
  rcases hx with rfl | rfl | rfl | rfl | rfl | rfl | rfl <;> rfl
theorem flatE_at {es : List Eg} {i : Nat} {x : Eg} (h : es[i]? = some x) {m : Nat} (hm : m < 7) : (flatE es)[7 * i + m]? = x.cells[m]? := by
  induction es generalizing i with
  | nil => simp at h
  | cons y r ih =>
    have hf : flatE (y :: r) = y.cells ++ flatE r := by simp [flatE]
    have hy : y.cells.length = 7 := rfl
    rw [hf]
    cases i with
    | zero =>
      simp at h
      subst h
      rw [List.getElem?_append_left (by omega)]
      simp
    | succ i =>
      rw [List.getElem?_append_right (by omega), hy, show 7 * (i + 1) + m - 7 = 7 * i + m by omega]
      exact ih (by simpa using h)
def RowE (w : World) (base : Nat) (V : Value) (es : List Eg) : Prop := w.ownsRow base 66 7 V es.length (flatE es)
theorem infoE : (Tryz.prog.info? 66).map (fun i => (i.zero, i.size, i.bytes)) = some (some (.agg #[.int .i64 0, .int .i64 0, .int .i64 0, .int .u64 0, .int .u64 0, .int .u64 0, .int .u64 0]), 7, 56) := by kernel_rfl
theorem rowE_nil (w : World) (base : Nat) : RowE w base (.slice none 0 0) [] := World.ownsRow_nil w base 66 7
theorem RowE.ty {w : World} {base : Nat} {V : Value} {es : List Eg} (h : RowE w base V es) : ∀ b, V.ownBlock = some b → base ≤ b ∧ TyB w 66 b := by
  intro b hb
  rcases h.2 with ⟨rfl, _⟩ | ⟨g, cap, cur, rfl, hbg, hg, _⟩
  · simp [Value.ownBlock] at hb
  · simp [Value.ownBlock] at hb
    subst hb
    exact ⟨hbg, ⟨_, _, hg⟩⟩
theorem RowE.keep {w w' : World} {base : Nat} {V : Value} {es : List Eg} (h : RowE w base V es) (hk : ∀ b, base ≤ b → b < w.heap.size → TyB w 66 b → w'.heap[b]? = w.heap[b]?) : RowE w' base V es := by
  refine ⟨h.1, ?_⟩
  rcases h.2 with h6 | ⟨g, cap, cur, rfl, hBg, hg, rest⟩
  · exact Or.inl h6
  · exact Or.inr ⟨g, cap, cur, rfl, hBg, (hk g hBg (Array.getElem?_eq_some_iff.1 hg).1 ⟨_, _, hg⟩).trans hg, rest⟩
theorem RowE.form {w : World} {base : Nat} {V : Value} {es : List Eg} (h : RowE w base V es) : ∃ a c, V = .slice a es.length c ∧ es.length ≤ c ∧ c ≤ maxLen := by
  rcases h.2 with ⟨hv, hn⟩ | ⟨g, cap, cur, hv, hbg, hg, h1, h2, h3, h4⟩
  · exact ⟨none, 0, by rw [hv, hn], by omega, by decide⟩
  · exact ⟨_, _, hv, h1, h2⟩
structure Fm (b0 B : Nat) (w w' : World) : Prop where
  os : w'.os = w.os
  tape : w'.tape = w.tape
  output : w'.output = w.output
  size : w.heap.size ≤ w'.heap.size
  block : ∀ k, k < w.heap.size → k ≠ B → (b0 ≤ k → ¬ TyB w 66 k) → w'.heap[k]? = w.heap[k]?
section
variable {b0 B : Nat} {w u w' : World}
theorem Fm.refl (b0 B : Nat) (w : World) : Fm b0 B w w := ⟨rfl, rfl, rfl, Nat.le_refl _, fun _ _ _ _ => rfl⟩
theorem Fm.trans (h : Fm b0 B w u) (h2 : Fm b0 B u w') : Fm b0 B w w' :=
  ⟨h2.os.trans h.os, h2.tape.trans h.tape, h2.output.trans h.output, Nat.le_trans h.size h2.size, fun k hk hne ht => by
    have e := h.block k hk hne ht
    exact (h2.block k (Nat.lt_of_lt_of_le hk h.size) hne (fun hb ht3 => ht hb (ht3.same e.symm))).trans e⟩
theorem Fm.later (h : Fm b0 B w u) (hb : Below u.heap.size u w') : Fm b0 B w w' :=
  ⟨hb.os.trans h.os, hb.tape.trans h.tape, hb.output.trans h.output, Nat.le_trans h.size hb.size, fun k hk hne ht => (hb.block k (Nat.lt_of_lt_of_le hk h.size)).trans (h.block k hk hne ht)⟩
theorem Fm.of_below (b0 B : Nat) (hb : Below w.heap.size w w') : Fm b0 B w w' := (Fm.refl b0 B w).later hb
theorem Fm.set (b0 B : Nat) (w : World) (j : Nat) (v : Value) : Fm b0 B w (w.setCell ⟨B, j, none⟩ v) :=
  ⟨rfl, rfl, rfl, by simp [World.setCell], fun k _ hk _ => Below.heap_setCell w ⟨B, j, none⟩ v k hk⟩
theorem Fm.grown (h : Fm b0 B w u) {r : Option Nat} (hg : u.grownBy w' r) (hr : ∀ k, r = some k → b0 ≤ k ∧ TyB u 66 k) : Fm b0 B w w' :=
  ⟨hg.os.trans h.os, hg.tape.trans h.tape, hg.output.trans h.output, Nat.le_trans h.size hg.size, fun k hk hne ht => by
    have e := h.block k hk hne ht
    refine (hg.block k (Nat.lt_of_lt_of_le hk h.size) (fun e2 => ?_)).trans e
    obtain ⟨h1, h2⟩ := hr k e2.symm
    exact ht h1 (h2.same e.symm)⟩
theorem Fm.keep (h : Fm b0 B w w') {A : Nat} {c : Array Value} {t : TypeId} {z : Nat × Nat} (hA : w.heap[A]? = some (.cells c t z)) (hne : A ≠ B) (ht : t ≠ 66) : w'.heap[A]? = some (.cells c t z) :=
  (h.block A (Array.getElem?_eq_some_iff.1 hA).1 hne (fun _ h3 => ht (TyB.ne ⟨c, z, hA⟩ h3))).trans hA
end
section
variable {w w' : World} {b0 B : Nat} {m : Mk}
end
end Go.Proofs.YtmjnobdlgbojoaaGreatDoor


namespace Go.Proofs.YtmjnobdlgbojoaaGreatDoor
open Go.RowKit
attribute [local go_sem ↓] Go.wp_at_zero Go.wp_at_succ
theorem rowE_snoc {w : World} {b0 g cap n : Nat} {es : List Eg} {e : Eg} (hn : es.length = n) (h : w.ownsRow b0 66 7 (.slice (some ⟨g, 0, none⟩) (n + 1) cap) (n + 1) (flatE es ++ e.cells)) : RowE w b0 (.slice (some ⟨g, 0, none⟩) (n + 1) cap) (es ++ [e]) := by
  subst hn
  unfold RowE
  rw [List.length_append, flatE_append]
  have e1 : flatE [e] = e.cells := by simp [flatE]
  rw [e1]
  exact h
end Go.Proofs.YtmjnobdlgbojoaaGreatDoor


namespace Go.Proofs.YtmjnobdlgbojoaaGreatDoor
open Go.RowKit
theorem below_low {b c : Nat} {w w' : World} (h : Below b w w') (hc : c ≤ b) : Below c w w' := ⟨h.os, h.tape, h.output, h.size, fun k hk => h.block k (Nat.lt_of_lt_of_le hk hc)⟩
theorem below_two {b : Nat} {w u v : World} (h : Below b w u) (h2 : Below b u v) : Below b w v :=
  ⟨h2.os.trans h.os, h2.tape.trans h.tape, h2.output.trans h.output, Nat.le_trans h.size h2.size, fun k hk => (h2.block k hk).trans (h.block k hk)⟩
theorem InAt.later {w w' : World} {t : Tn} {x : Nd} (h : InAt w t x) (hb : Below w.heap.size w w') : InAt w' t x := by
  induction h with
  | mk k s subs mn mx a n c vs hn hl hm hr hs ih => exact .mk k s subs mn mx a n c vs hn hl hm (hr.keep (fun _ h _ => h) (fun b _ hlt => hb.block b hlt)) (fun i t v ht hv => ih i t v ht hv)
def RowI (w : World) (base : Nat) (V : Value) (l : List Nat) : Prop := w.ownsRow base 3 1 V l.length (l.map fun a => Value.int .i64 (a : Nat))
theorem info3 : (Tryz.prog.info? 3).map (fun i => (i.zero, i.size, i.bytes)) = some (some (.int .i64 0), 1, 8) := by kernel_rfl
theorem rowI_nil (w : World) (base : Nat) : RowI w base (.slice none 0 0) [] := World.ownsRow_nil w base 3 1
theorem RowI.ty {w : World} {base : Nat} {V : Value} {l : List Nat} (h : RowI w base V l) : ∀ b, V.ownBlock = some b → base ≤ b ∧ TyB w 3 b := by
  intro b hb
  rcases h.2 with ⟨rfl, _⟩ | ⟨g, cap, cur, rfl, hbg, hg, _⟩
  · simp [Value.ownBlock] at hb
  · simp [Value.ownBlock] at hb
    subst hb
    exact ⟨hbg, ⟨_, _, hg⟩⟩
theorem RowI.keep {w w' : World} {base : Nat} {V : Value} {l : List Nat} (h : RowI w base V l) (hk : ∀ b, base ≤ b → b < w.heap.size → TyB w 3 b → w'.heap[b]? = w.heap[b]?) : RowI w' base V l := by
  refine ⟨h.1, ?_⟩
  rcases h.2 with h6 | ⟨g, cap, cur, rfl, hBg, hg, rest⟩
  · exact Or.inl h6
  · exact Or.inr ⟨g, cap, cur, rfl, hBg, (hk g hBg (Array.getElem?_eq_some_iff.1 hg).1 ⟨_, _, hg⟩).trans hg, rest⟩
theorem RowI.form {w : World} {base : Nat} {V : Value} {l : List Nat} (h : RowI w base V l) : ∃ (a : Option Addr) (c : Nat), V = .slice a l.length c ∧ l.length ≤ c ∧ c ≤ maxLen := by
  rcases h.2 with ⟨hv, hn⟩ | ⟨g, cap, cur, hv, hbg, hg, h1, h2, h3, h4⟩
  · exact ⟨none, 0, by rw [hv, hn], by omega, by decide⟩
  · exact ⟨_, cap, hv, h1, h2⟩
theorem RowI.at {w : World} {base : Nat} {a : Option Addr} {n c : Nat} {l : List Nat} (h : RowI w base (.slice a n c) l) {j x : Nat} (hx : l[j]? = some x) : ∃ g, a = some ⟨g, 0, none⟩ ∧ w.cell? ⟨g, j, none⟩ = some (.int .i64 (x : Nat)) := by
  have hj := (List.getElem?_eq_some_iff.1 hx).1
  rcases h.2 with ⟨hv, hn⟩ | ⟨g, cap, cur, hv, hbg, hg, h1, h2, h3, h4⟩
  · omega
  · cases hv
    refine ⟨g, rfl, ?_⟩
    have e : (l.map fun a => Value.int .i64 (a : Nat))[j]? = some (.int .i64 (x : Nat)) := by rw [List.getElem?_map, hx]; rfl
    rw [← h4, List.getElem?_take_of_lt (by omega)] at e
    simp only [World.cell?, hg]
    simpa using e
theorem wpList_append_int {w : World} {ops : Array Oper} {rest : List Oper} {o : Oper} {a : Act} {Q : Exit → Act → World → Prop} (hgd : o.guard = none) (s y : Operand)
    (ho : o.op = .call { callee := .builtin .append, args := #[s, y], argTypes := #[52, 52] })
    (base : Nat) (V : Value) (l : List Nat) (hs : a.eval s = V) (hn : RowI w base V l) (ad : Addr) (cap : Nat) (x : Nat) (hy : a.eval y = .slice (some ad) 1 cap) (hc : w.cell? ad = some (.int .i64 (x : Nat))) (hl : l.length ≤ 2000000) (hb : base ≤ w.heap.size)
    (h : ∀ g cap' w', RowI w' base (.slice (some ⟨g, 0, none⟩) (l.length + 1) cap') (l ++ [x]) → w.grownBy w' V.ownBlock → wpList Tryz.prog ops Q rest (a.put o.dst (.slice (some ⟨g, 0, none⟩) (l.length + 1) cap')) w') : wpList Tryz.prog ops Q (o :: rest) a w := by
  refine wpList_plain hgd fun K hK => ?_
  obtain ⟨i0, hi, hz0, hz1, hz2⟩ := info_parts info3
  obtain ⟨g, cap', w', hr, ho2, hg, hgg, hlt⟩ := run_append_lies (P := Tryz.prog) w 52 o.type base 3 i0 _ 1 8 Tryz.underlying52 hi hz0 hz1 hz2 rfl (by decide) V l.length _ hn ad 1 cap [.int .i64 (x : Nat)] rfl
    (fun j v hj => by
      cases j with
      | zero => simp at hj; subst hj; simpa [Addr.add] using hc
      | succ j => simp at hj) (fun v hv => by simp at hv; subst hv; rfl) (by decide) (by simp only [maxLen]; omega) (by omega) hb w.heap.size rfl
  unfold Oper.wp execOp
  simp only [ho, resolve, invoke, builtin, Sem.run_bind, Sem.run_pure, Result.andThen_ok, List.map_toArray, List.map_cons, List.map_nil, hs, hy, hr]
  refine hK _ _ (h g cap' w' ?_ hg)
  unfold RowI
  rw [List.length_append, List.map_append]
  exact ho2
theorem frees_step {l : List Nat} {i x : Nat} (h : l[i]? = some x) (s : Nat) (m : Mk) : frees (l.drop i) s m = frees (l.drop (i + 1)) s (m.fr x s) := by
  have hlt := (List.getElem?_eq_some_iff.1 h).1
  rw [List.drop_eq_getElem_cons hlt, (List.getElem?_eq_some_iff.1 h).2, frees]
section
variable {w0 : World} {b0 B A : Nat} {x : Nd} {w u u' : World} {m m' : Mk}
end
end Go.Proofs.YtmjnobdlgbojoaaGreatDoor


namespace Go.Proofs.YtmjnobdlgbojoaaGreatDoor
open Go.RowKit
structure Ma where
  S : Int
  es : List Eg
  rs : List Nat
def zeroMa : Ma := ⟨0, [], []⟩
def EAt (X : Nat → Prop) (w : World) (a : Option Addr) (es : List Eg) : Prop := es = [] ∨ ∃ b off, a = some ⟨b, off, none⟩ ∧ X b ∧ ∀ j v, (flatE es)[j]? = some v → w.cell? ⟨b, off + j, none⟩ = some v
def UAt (X : Nat → Prop) (w : World) (a : Option Addr) (rs : List Nat) : Prop := rs = [] ∨ ∃ b off, a = some ⟨b, off, none⟩ ∧ X b ∧ ∀ j x, rs[j]? = some x → w.cell? ⟨b, off + j, none⟩ = some (.int .u32 (x : Nat))
structure Nf where
  S : Int
  ea : Option Addr
  en : Nat
  ec : Nat
  ra : Option Addr
  rn : Nat
  rc : Nat
def Nf.val (x : Nf) : Value := .agg #[.int .i64 x.S, .slice x.ea x.en x.ec, .slice x.ra x.rn x.rc]
def Nf.cells (x : Nf) : List Value := [.int .i64 x.S, .slice x.ea x.en x.ec, .slice x.ra x.rn x.rc]
structure MaAt (X : Nat → Prop) (w : World) (M : Ma) (x : Nf) : Prop where
  s : x.S = M.S
  n : x.en = M.es.length
  r : x.rn = M.rs.length
  e : EAt X w x.ea M.es
  u : UAt X w x.ra M.rs
theorem lt_of_cell {w : World} {b j : Nat} {v : Value} (h : w.cell? ⟨b, j, none⟩ = some v) : b < w.heap.size := by
  cases hg : w.heap[b]? with
  | none => simp [World.cell?, hg] at h
  | some o => exact (Array.getElem?_eq_some_iff.1 hg).1
theorem EAt.keep {X Y : Nat → Prop} {w w' : World} {a : Option Addr} {es : List Eg} (h : EAt X w a es) (hXY : ∀ b, X b → b < w.heap.size → Y b) (hk : ∀ b, X b → b < w.heap.size → w'.heap[b]? = w.heap[b]?) : EAt Y w' a es := by
  rcases h with h | ⟨b, off, rfl, hX, hc⟩
  · exact Or.inl h
  · cases es with
    | nil => exact Or.inl rfl
    | cons e es =>
      have hlt : b < w.heap.size := lt_of_cell (hc 0 _ rfl)
      exact Or.inr ⟨b, off, rfl, hXY b hX hlt, fun j v hj => (World.cell?_of_block (a := ⟨b, off + j, none⟩) (hk b hX hlt)).trans (hc j v hj)⟩
theorem UAt.keep {X Y : Nat → Prop} {w w' : World} {a : Option Addr} {rs : List Nat} (h : UAt X w a rs) (hXY : ∀ b, X b → b < w.heap.size → Y b) (hk : ∀ b, X b → b < w.heap.size → w'.heap[b]? = w.heap[b]?) : UAt Y w' a rs := by
  rcases h with h | ⟨b, off, rfl, hX, hc⟩
  · exact Or.inl h
  · cases rs with
    | nil => exact Or.inl rfl
    | cons e es =>
      have hlt : b < w.heap.size := lt_of_cell (hc 0 _ rfl)
      exact Or.inr ⟨b, off, rfl, hXY b hX hlt, fun j v hj => (World.cell?_of_block (a := ⟨b, off + j, none⟩) (hk b hX hlt)).trans (hc j v hj)⟩
theorem MaAt.keep {X Y : Nat → Prop} {w w' : World} {M : Ma} {x : Nf} (h : MaAt X w M x) (hXY : ∀ b, X b → b < w.heap.size → Y b) (hk : ∀ b, X b → b < w.heap.size → w'.heap[b]? = w.heap[b]?) : MaAt Y w' M x :=
  ⟨h.s, h.n, h.r, h.e.keep hXY hk, h.u.keep hXY hk⟩
theorem MaAt.later {X : Nat → Prop} {w w' : World} {M : Ma} {x : Nf} (h : MaAt X w M x) (hb : Below w.heap.size w w') : MaAt X w' M x := h.keep (fun _ h _ => h) (fun b _ hlt => hb.block b hlt)
theorem zero_maAt (X : Nat → Prop) (w : World) : MaAt X w zeroMa ⟨0, none, 0, 0, none, 0, 0⟩ := ⟨rfl, rfl, rfl, Or.inl rfl, Or.inl rfl⟩
theorem RowE.at {w : World} {base : Nat} {a : Option Addr} {n c : Nat} {es : List Eg} (h : RowE w base (.slice a n c) es) : n = es.length ∧ EAt (fun b => base ≤ b) w a es := by
  rcases h.2 with ⟨hv, hn⟩ | ⟨g, cap, cur, hv, hbg, hg, h1, h2, h3, h4⟩
  · cases hv
    exact ⟨hn.symm, Or.inl (List.length_eq_zero_iff.1 hn)⟩
  · cases hv
    refine ⟨rfl, Or.inr ⟨g, 0, rfl, hbg, fun j v hj => ?_⟩⟩
    have hlt := (List.getElem?_eq_some_iff.1 hj).1
    rw [flatE_length] at hlt
    rw [← h4, List.getElem?_take_of_lt (by omega)] at hj
    simp only [World.cell?, hg, Nat.zero_add]
    simpa using hj
theorem RowE.at2 {w : World} {base : Nat} {a : Option Addr} {n c : Nat} {es : List Eg} (h : RowE w base (.slice a n c) es) : EAt (fun b => base ≤ b ∧ TyB w 66 b) w a es := by
  rcases h.at.2 with h1 | ⟨b, off, ha, hb, hc⟩
  · exact Or.inl h1
  · subst ha
    by_cases he : es = []
    · exact Or.inl he
    · refine Or.inr ⟨b, off, rfl, ⟨hb, ?_⟩, hc⟩
      rcases h.2 with ⟨hv, _⟩ | ⟨g, cap, cur, hv, _, hg, _⟩
      · cases hv
      · cases hv
        exact ⟨_, _, hg⟩
theorem RowE.later {w w' : World} {base : Nat} {V : Value} {es : List Eg} (h : RowE w base V es) (hb : Below w.heap.size w w') : RowE w' base V es := h.keep (fun b _ hlt _ => hb.block b hlt)
theorem RowE.set {w : World} {base : Nat} {V : Value} {es : List Eg} (h : RowE w base V es) {A : Nat} {t : TypeId} (hA : TyB w t A) (ht : t ≠ 66) (j : Nat) (v : Value) : RowE (w.setCell ⟨A, j, none⟩ v) base V es :=
  h.keep (fun b _ _ hb => Below.heap_setCell w ⟨A, j, none⟩ v b (fun e => by have e : b = A := e; subst e; exact ht (TyB.ne hA hb)))
def mach (t : Tn) (rule : Nat) : Ma := ⟨(lay t ⟨1, []⟩ 0).1.S, (lay t ⟨1, []⟩ 0).1.es, (List.replicate (lay t ⟨1, []⟩ 0).1.S 0).set (lay t ⟨1, []⟩ 0).2 (2 ^ rule)⟩
def buildOf (t : Tn) (rule : Int) : Ma × Nat := if (plc t).2 = false then (zeroMa, 50) else if 2048 < placesOf t then (zeroMa, 48) else if rule < 0 ∨ 31 < rule then (zeroMa, 1) else (mach t rule.toNat, 0)
theorem frees_S (l : List Nat) (s : Nat) (m : Mk) : (frees l s m).S = m.S := (frees_size l s m).1
theorem joint_lt (r : Mk × List Nat) : (joint r).2 < (joint r).1.S := by
  unfold joint
  simp only [frees_S]
  exact Nat.lt_succ_self _
theorem rounds_lt {F : Mk → Nat → Mk × Nat} (h : ∀ (m : Mk) (a : Nat), a < m.S → (F m a).2 < (F m a).1.S) : ∀ (n : Nat) (x : Mk × Nat), x.2 < x.1.S → (rounds F n x).2 < (rounds F n x).1.S
  | 0, _, hx => hx
  | n + 1, x, hx => rounds_lt h n _ (h x.1 x.2 hx)
theorem times_lt {F : Mk → Nat → Mk × Nat} (h : ∀ (m : Mk) (a : Nat), a < m.S → (F m a).2 < (F m a).1.S) (p : Nat) (mn mx : Int) (m : Mk) (a : Nat) (ha : a < m.S) : (timesOf F p mn mx m a).2 < (timesOf F p mn mx m a).1.S := by
  unfold timesOf
  split
  · exact ha
  split
  · unfold again
    exact Nat.lt_succ_self _
  split
  · exact rounds_lt h _ (m, a) ha
  · exact joint_lt _
mutual
theorem lay_lt : ∀ (t : Tn) (m : Mk) (a : Nat), a < m.S → (lay t m a).2 < (lay t m a).1.S
  | .mk k s subs mn mx, m, a, ha => by
    rw [lay]
    split
    · exact Nat.lt_succ_self _
    split
    · exact seqs_lt subs m a ha
    split
    · exact joint_lt _
    split
    · exact times_lt (fun m a ha => heads_lt subs m a ha) _ _ _ _ _ ha
    · exact ha
theorem seqs_lt : ∀ (ts : List Tn) (m : Mk) (a : Nat), a < m.S → (seqs ts m a).2 < (seqs ts m a).1.S
  | [], m, a, ha => by rw [seqs]; exact ha
  | t :: ts, m, a, ha => by rw [seqs]; exact seqs_lt ts _ _ (lay_lt t m a ha)
theorem heads_lt : ∀ (ts : List Tn) (m : Mk) (a : Nat), a < m.S → (heads ts m a).2 < (heads ts m a).1.S
  | [], m, a, ha => by rw [heads]; exact ha
  | t :: _, m, a, ha => by rw [heads]; exact lay_lt t m a ha
end
theorem lay_bounds {t : Tn} (h : (plc t).2 = true) (hp : ¬ 2048 < placesOf t) : (lay t ⟨1, []⟩ 0).1.S ≤ 2048 ∧ (lay t ⟨1, []⟩ 0).1.es.length ≤ 4096 := by
  obtain ⟨h1, h2⟩ := lay_size t h ⟨1, []⟩ 0
  have h3 := plc_raw t h
  unfold placesOf at hp
  rw [if_pos h, h3] at hp
  simp only [List.length_nil] at h1 h2
  omega
end Go.Proofs.YtmjnobdlgbojoaaGreatDoor
