
import Derived.Test.YtmjnobdlgbojoaaGreatDoorG18
import Derived.Test.YtmjnobdlgbojoaaGreatDoorG29
import Derived.Test.YtmjnobdlgbojoaaGreatDoorG28
namespace Go.Proofs.YtmjnobdlgbojoaaGreatDoor
def InR (es : List Eg) (n : Nat) : Prop := ∀ y ∈ es, 0 ≤ y.f ∧ y.f < (n : Nat) ∧ 0 ≤ y.t ∧ y.t < (n : Nat)
theorem Sub.antisymm {l m : List Bool} (h : Sub l m) (h2 : Sub m l) : l = m := by
  apply List.ext_getElem?
  intro i
  have hl := h.1
  by_cases hi : i < l.length
  · have h1 := h.2 i
    have h3 := h2.2 i
    rw [List.getElem?_eq_getElem hi, List.getElem?_eq_getElem (hl ▸ hi)] at h1 h3 ⊢
    simp only [Option.getD_some] at h1 h3
    cases h4 : l[i] <;> cases h5 : m[i]'(hl ▸ hi) <;> simp_all
  · rw [List.getElem?_eq_none (by omega), List.getElem?_eq_none (by omega)]
theorem Clo.unique {es : List Eg} {b e : Bool} {l m k : List Bool} (h : Clo es b e l m) (h2 : Clo es b e l k) : m = k := (h.least k h2.sub h2.closed).antisymm (h2.least m h.sub h.closed)
theorem Walks.unique {M : Ma} {S : Nat} {line : ByteArray} {i : Nat} {cur : List Bool} {r R R' : Nat} (h : Walks M S line i cur r R) : Walks M S line i cur r R' → R = R' := by
  induction h with
  | last i cur cl r hi hc =>
    intro h2
    cases h2 with
    | last _ _ cl' _ hi' hc' => rw [hc.unique hc']
    | step _ _ cl' _ _ hi' hc' hw => omega
  | step i cur cl r R hi hc hw ih =>
    intro h2
    cases h2 with
    | last _ _ cl' _ hi' hc' => omega
    | step _ _ cl' _ _ hi' hc' hw' =>
      have e := hc.unique hc'
      subst e
      exact ih hw'
theorem orFrom_or : ∀ (bs : List Bool) (xs : List Nat) (r : Nat), orFrom r bs xs = r ||| orFrom 0 bs xs
  | [], xs, r => by simp [orFrom]
  | b :: bs, [], r => by simp [orFrom]
  | b :: bs, x :: xs, r => by
    rw [orFrom, orFrom, orFrom_or bs xs (if b = true then r ||| x else r), orFrom_or bs xs (if b = true then 0 ||| x else 0)]
    cases b
    · simp
    · simp [Nat.or_assoc]
theorem orFrom_append : ∀ (bs cs : List Bool) (xs ys : List Nat) (r : Nat), bs.length = xs.length → orFrom r (bs ++ cs) (xs ++ ys) = orFrom (orFrom r bs xs) cs ys
  | [], cs, [], ys, r, _ => by simp [orFrom]
  | b :: bs, cs, x :: xs, ys, r, h => by
    simp only [List.cons_append]
    rw [orFrom, orFrom, orFrom_append bs cs xs ys _ (by simpa using h)]
theorem or_mix (a b c d : Nat) : a ||| b ||| c ||| d = (a ||| c) ||| (b ||| d) := by
  rw [Nat.or_assoc, Nat.or_assoc, Nat.or_assoc, ← Nat.or_assoc b c d, Nat.or_comm b c, Nat.or_assoc]
theorem at_left {a c : List Bool} {i : Int} (h0 : 0 ≤ i) (h : i < (a.length : Nat)) : at_ (a ++ c) i = at_ a i := by
  unfold at_
  rw [List.getElem?_append_left (by omega)]
theorem at_right {a c : List Bool} {i : Int} (h0 : 0 ≤ i) : at_ (a ++ c) (i + (a.length : Nat)) = at_ c i := by
  unfold at_
  rw [List.getElem?_append_right (by omega)]
  congr 2
  omega
theorem getD_left {a c : List Bool} {i : Nat} (h : i < a.length) : ((a ++ c)[i]?).getD false = (a[i]?).getD false := by rw [List.getElem?_append_left h]
theorem getD_right {a c : List Bool} {i : Nat} (h : a.length ≤ i) : ((a ++ c)[i]?).getD false = (c[i - a.length]?).getD false := by rw [List.getElem?_append_right h]
theorem sub_append {a c K : List Bool} {L : List Bool} (hK : K.length = a.length) (h1 : Sub a K) (h2 : Sub c L) : Sub (a ++ c) (K ++ L) := by
  refine ⟨by rw [List.length_append, List.length_append, h1.1, h2.1], fun i hi => ?_⟩
  by_cases hlt : i < a.length
  · rw [getD_left hlt] at hi
    rw [getD_left (by omega)]
    exact h1.2 i hi
  · rw [getD_right (by omega)] at hi
    rw [getD_right (by omega), hK]
    exact h2.2 _ hi
theorem add_es {o M : Ma} {so : Nat} (ho : o.S = (so : Nat)) : (addM o M).es = o.es ++ [⟨1, 0, (so : Nat), Oct.none⟩] ++ M.es.map (shiftE (so : Nat)) := by
  unfold addM
  rw [ho]
theorem add_clo {o M : Ma} {so sm : Nat} (ho : o.S = (so : Nat)) (ho1 : 1 ≤ so) (hm1 : 1 ≤ sm) (hoE : InR o.es so) (hmE : InR M.es sm) {b e : Bool} {co cm clo clm : List Bool} (h1 : co.length = so) (h2 : cm.length = sm) (hc1 : Clo o.es b e (co.set 0 true) clo) (hc2 : Clo M.es b e (cm.set 0 true) clm) : Clo (addM o M).es b e ((co ++ cm).set 0 true) (clo ++ clm) := by
  have l1 : clo.length = so := by rw [← hc1.sub.1, List.length_set, h1]
  have l2 : clm.length = sm := by rw [← hc2.sub.1, List.length_set, h2]
  have hset : (co ++ cm).set 0 true = co.set 0 true ++ cm := by rw [List.set_append_left _ _ (by omega)]
  have z1 : at_ clo 0 = true := by
    have := hc1.sub.2 0 (by rw [List.getElem?_set_self (by omega)]; rfl)
    exact this
  have z2 : at_ clm 0 = true := by
    have := hc2.sub.2 0 (by rw [List.getElem?_set_self (by omega)]; rfl)
    exact this
  refine ⟨?_, ?_, ?_⟩
  · rw [hset]
    exact sub_append (by rw [List.length_set, l1, h1]) hc1.sub ((sub_set cm 0).trans hc2.sub)
  · rw [add_es ho]
    intro y hy hmv hf
    rcases List.mem_append.1 hy with hy | hy
    · rcases List.mem_append.1 hy with hy | hy
      · obtain ⟨q0, q1, q2, q3⟩ := hoE y hy
        rw [at_left q0 (by omega)] at hf
        rw [at_left q2 (by omega)]
        exact hc1.closed y hy hmv hf
      · simp at hy
        subst hy
        have : ((so : Nat) : Int) = 0 + ((clo.length : Nat) : Int) := by omega
        simp only
        rw [this, at_right (by omega)]
        exact z2
    · obtain ⟨z, hz, rfl⟩ := List.mem_map.1 hy
      obtain ⟨q0, q1, q2, q3⟩ := hmE z hz
      simp only [shiftE] at hf ⊢
      rw [← l1] at hf ⊢
      rw [at_right q0] at hf
      rw [at_right q2]
      exact hc2.closed z hz hmv hf
  · intro K hK hKc
    rw [hset] at hK
    have hKl : K.length = so + sm := by rw [← hK.1, List.length_append, List.length_set, h1, h2]
    obtain ⟨K1, K2, rfl, k1, k2⟩ : ∃ K1 K2, K = K1 ++ K2 ∧ K1.length = so ∧ K2.length = sm := ⟨K.take so, K.drop so, (List.take_append_drop so K).symm, by rw [List.length_take]; omega, by rw [List.length_drop]; omega⟩
    rw [add_es ho] at hKc
    have s1 : Sub (co.set 0 true) K1 := ⟨by rw [List.length_set, h1, k1], fun i hi => by
      by_cases hlt : i < so
      · have := hK.2 i (by rw [getD_left (by rw [List.length_set]; omega)]; exact hi)
        rw [getD_left (by omega)] at this
        exact this
      · rw [List.getElem?_eq_none (by rw [List.length_set]; omega)] at hi
        cases hi⟩
    have c1 : Closed o.es b e K1 := fun y hy hmv hf => by
      obtain ⟨q0, q1, q2, q3⟩ := hoE y hy
      have := hKc y (List.mem_append_left _ (List.mem_append_left _ hy)) hmv (by rw [at_left q0 (by omega)]; exact hf)
      rw [at_left q2 (by omega)] at this
      exact this
    have hz : at_ K2 0 = true := by
      have hk0 : at_ K1 0 = true := s1.2 0 (by rw [List.getElem?_set_self (by omega)]; rfl)
      have := hKc ⟨1, 0, (so : Nat), Oct.none⟩ (List.mem_append_left _ (List.mem_append_right _ (by simp))) (by unfold moves; simp) (by rw [at_left (Int.le_refl 0) (by omega)]; exact hk0)
      simp only at this
      rw [show ((so : Nat) : Int) = 0 + ((K1.length : Nat) : Int) by omega, at_right (by omega)] at this
      exact this
    have s2 : Sub (cm.set 0 true) K2 := by
      refine set_sub ⟨by rw [h2, k2], fun i hi => ?_⟩ hz
      have := hK.2 (so + i) (by rw [getD_right (by rw [List.length_set]; omega), List.length_set, h1, Nat.add_sub_cancel_left]; exact hi)
      rw [getD_right (by omega), k1, Nat.add_sub_cancel_left] at this
      exact this
    have c2 : Closed M.es b e K2 := fun y hy hmv hf => by
      obtain ⟨q0, q1, q2, q3⟩ := hmE y hy
      have := hKc (shiftE (so : Nat) y) (List.mem_append_right _ (List.mem_map_of_mem hy)) hmv (by simp only [shiftE]; rw [← k1, at_right q0]; exact hf)
      simp only [shiftE] at this
      rw [← k1, at_right q2] at this
      exact this
    exact sub_append (by omega) (hc1.least K1 s1 c1) (hc2.least K2 s2 c2)
theorem nexts_append (bb : Nat) (cl : List Bool) : ∀ (es fs : List Eg) (nx : List Bool), nexts bb cl (es ++ fs) nx = nexts bb cl fs (nexts bb cl es nx)
  | [], _, _ => rfl
  | y :: es, fs, nx => by rw [List.cons_append, nexts, nexts, nexts_append bb cl es fs]
theorem nexts_left {bb : Nat} {a c : List Bool} {so : Nat} (ha : a.length = so) : ∀ (es : List Eg), InR es so → ∀ (nx mx : List Bool), nx.length = so → nexts bb (a ++ c) es (nx ++ mx) = nexts bb a es nx ++ mx ∧ (nexts bb a es nx).length = so
  | [], _, nx, mx, hn => ⟨rfl, hn⟩
  | y :: es, h, nx, mx, hn => by
    obtain ⟨q0, q1, q2, q3⟩ := h y (by simp)
    have ih := nexts_left (bb := bb) (c := c) ha es (fun z hz => h z (by simp [hz]))
    have e : takesB bb (a ++ c) y = takesB bb a y := by unfold takesB; rw [at_left q0 (by omega)]
    rw [nexts, nexts, e]
    cases takesB bb a y with
    | false => exact ih nx mx hn
    | true =>
      have := ih (nx.set y.t.toNat true) mx (by simpa using hn)
      simp only [if_true]
      rw [List.set_append_left _ _ (by omega)]
      exact this
theorem nexts_right {bb : Nat} {a c : List Bool} {so sm : Nat} (ha : a.length = so) (hc : c.length = sm) : ∀ (es : List Eg), InR es sm → ∀ (nx mx : List Bool), nx.length = so → mx.length = sm → nexts bb (a ++ c) (es.map (shiftE (so : Nat))) (nx ++ mx) = nx ++ nexts bb c es mx ∧ (nexts bb c es mx).length = sm
  | [], _, nx, mx, hn, hm => ⟨rfl, hm⟩
  | y :: es, h, nx, mx, hn, hm => by
    obtain ⟨q0, q1, q2, q3⟩ := h y (by simp)
    have ih := nexts_right (bb := bb) ha hc es (fun z hz => h z (by simp [hz]))
    have e : takesB bb (a ++ c) (shiftE (so : Nat) y) = takesB bb c y := by
      unfold takesB
      simp only [shiftE]
      rw [← ha, at_right q0]
      rfl
    rw [List.map_cons, nexts, nexts, e]
    cases takesB bb c y with
    | false => exact ih nx mx hn hm
    | true =>
      have := ih nx (mx.set y.t.toNat true) hn (by simpa using hm)
      simp only [if_true, shiftE]
      rw [show (y.t + ((so : Nat) : Int)).toNat = nx.length + y.t.toNat by omega, List.set_append_right _ _ (by omega), Nat.add_sub_cancel_left]
      exact this
theorem add_next {o M : Ma} {so sm : Nat} (ho : o.S = (so : Nat)) (hoE : InR o.es so) (hmE : InR M.es sm) {bb : Nat} {clo clm : List Bool} (l1 : clo.length = so) (l2 : clm.length = sm) :
    nexts bb (clo ++ clm) (addM o M).es (List.replicate (so + sm) false) = nexts bb clo o.es (List.replicate so false) ++ nexts bb clm M.es (List.replicate sm false) ∧ (nexts bb clo o.es (List.replicate so false)).length = so ∧ (nexts bb clm M.es (List.replicate sm false)).length = sm := by
  rw [add_es ho, nexts_append, nexts_append, ← List.replicate_append_replicate]
  obtain ⟨e1, e2⟩ := nexts_left (bb := bb) (c := clm) l1 o.es hoE (List.replicate so false) (List.replicate sm false) (by simp)
  rw [e1]
  have e3 : ∀ X, nexts bb (clo ++ clm) [⟨1, 0, (so : Nat), Oct.none⟩] X = X := fun X => by
    rw [nexts, nexts]
    simp [takesB]
  rw [e3]
  obtain ⟨e4, e5⟩ := nexts_right (bb := bb) l1 l2 M.es hmE (nexts bb clo o.es (List.replicate so false)) (List.replicate sm false) e2 (by simp)
  exact ⟨e4, e2, e5⟩
theorem add_walks {o M : Ma} {so sm : Nat} {line : ByteArray} (ho : o.S = (so : Nat)) (hor : o.rs.length = so) (ho1 : 1 ≤ so) (hm1 : 1 ≤ sm) (hoE : InR o.es so) (hmE : InR M.es sm) {i : Nat} {co : List Bool} {ro Ro : Nat} (h : Walks o so line i co ro Ro) : ∀ (cm : List Bool) (rm Rm : Nat), co.length = so → cm.length = sm → Walks M sm line i cm rm Rm → Walks (addM o M) (so + sm) line i (co ++ cm) (ro ||| rm) (Ro ||| Rm) := by
  have hors : ∀ (clo clm : List Bool) (ro rm : Nat), clo.length = so → orFrom (ro ||| rm) (clo ++ clm) (addM o M).rs = orFrom ro clo o.rs ||| orFrom rm clm M.rs := fun clo clm ro rm l1 => by
    show orFrom _ _ (o.rs ++ M.rs) = _
    rw [orFrom_append _ _ _ _ _ (by omega), orFrom_or clm, orFrom_or clo, orFrom_or clo o.rs ro, orFrom_or clm M.rs rm]
    exact or_mix _ _ _ _
  induction h with
  | last i co clo ro hi hc =>
    intro cm rm Rm h1 h2 hw
    have l1 : clo.length = so := by rw [← hc.sub.1, List.length_set, h1]
    cases hw with
    | last _ _ clm _ hi' hc' =>
      rw [← hors clo clm ro rm l1]
      exact .last i _ _ _ hi (add_clo ho ho1 hm1 hoE hmE h1 h2 hc hc')
    | step _ _ clm _ _ hi' hc' hw' => omega
  | step i co clo ro Ro hi hc hw ih =>
    intro cm rm Rm h1 h2 hw2
    have l1 : clo.length = so := by rw [← hc.sub.1, List.length_set, h1]
    cases hw2 with
    | last _ _ clm _ hi' hc' => omega
    | step _ _ clm _ _ hi' hc' hw' =>
      have l2 : clm.length = sm := by rw [← hc'.sub.1, List.length_set, h2]
      obtain ⟨e1, e2, e3⟩ := add_next (bb := byt line i) ho hoE hmE l1 l2
      refine .step i _ (clo ++ clm) _ _ hi (add_clo ho ho1 hm1 hoE hmE h1 h2 hc hc') ?_
      rw [hors clo clm ro rm l1, e1]
      exact ih _ _ _ e2 e3 hw'
end Go.Proofs.YtmjnobdlgbojoaaGreatDoor


namespace Go.Proofs.YtmjnobdlgbojoaaGreatDoor
def Okm (m : Mk) : Prop := ∀ e ∈ m.es, okE (m.S : Nat) e = true
theorem okE_iff (S : Int) (e : Eg) : okE S e = true ↔ 1 ≤ e.k ∧ e.k ≤ 4 ∧ 0 ≤ e.f ∧ e.f < S ∧ 0 ≤ e.t ∧ e.t < S ∧ (e.k = 2 ∨ noSet e.s = true) := by
  unfold okE
  cases noSet e.s <;> simp <;> omega
theorem okE_mono {S S' : Int} {e : Eg} (h : okE S e = true) (hS : S ≤ S') : okE S' e = true := by
  rw [okE_iff] at h ⊢
  obtain ⟨h1, h2, h3, h4, h5, h6, h7⟩ := h
  exact ⟨h1, h2, h3, by omega, h5, by omega, h7⟩
theorem Okm.st {m : Mk} (h : Okm m) : Okm m.st := fun e he => okE_mono (h e he) (by simp only [Mk.st]; omega)
theorem Okm.ed {m : Mk} (h : Okm m) {e : Eg} (he : okE (m.S : Nat) e = true) : Okm (m.ed e) := fun y hy => by
  rcases List.mem_append.1 hy with hy | hy
  · exact h y hy
  · simp at hy
    subst hy
    exact he
theorem noSet_n : noSet Oct.none = true := by unfold noSet; rw [show Oct.none = fun _ => false from rfl]; simp [Oct.word_none]
theorem Okm.fr {m : Mk} (h : Okm m) {a b : Nat} (ha : a < m.S) (hb : b < m.S) : Okm (m.fr a b) := h.ed (by
  rw [okE_iff]
  exact ⟨by simp only; omega, by simp only; omega, by simp only; omega, by simp only; omega, by simp only; omega, by simp only; omega, Or.inr noSet_n⟩)
theorem frees_ok : ∀ (l : List Nat) (s : Nat) (m : Mk), Okm m → s < m.S → (∀ a ∈ l, a < m.S) → Okm (frees l s m)
  | [], _, _, h, _, _ => h
  | a :: l, s, m, h, hs, hl => frees_ok l s (m.fr a s) (h.fr (hl a (by simp)) hs) hs (fun b hb => hl b (by simp [hb]))
theorem joint_ok (r : Mk × List Nat) (h : Okm r.1) (hl : ∀ a ∈ r.2, a < r.1.S) : Okm (joint r).1 :=
  frees_ok r.2 r.1.S r.1.st h.st (Nat.lt_succ_self _) (fun a ha => Nat.lt_succ_of_lt (hl a ha))
def OkF (F : Mk → Nat → Mk × Nat) : Prop := ∀ (m : Mk) (a : Nat), a < m.S → Okm m → Okm (F m a).1 ∧ (F m a).2 < (F m a).1.S ∧ m.S ≤ (F m a).1.S
theorem rounds_ok {F : Mk → Nat → Mk × Nat} (h : OkF F) : ∀ (n : Nat) (x : Mk × Nat), x.2 < x.1.S → Okm x.1 → Okm (rounds F n x).1 ∧ (rounds F n x).2 < (rounds F n x).1.S
  | 0, _, hx, hm => ⟨hm, hx⟩
  | n + 1, x, hx, hm => by
    obtain ⟨h1, h2, _⟩ := h x.1 x.2 hx hm
    exact rounds_ok h n _ h2 h1
theorem tails_ok {F : Mk → Nat → Mk × Nat} (h : OkF F) : ∀ (n : Nat) (x : Mk × Nat) (l : List Nat), x.2 < x.1.S → Okm x.1 → (∀ a ∈ l, a < x.1.S) → Okm (tails F n x l).1 ∧ ∀ a ∈ (tails F n x l).2, a < (tails F n x l).1.S
  | 0, _, _, _, hm, hl => ⟨hm, hl⟩
  | n + 1, x, l, hx, hm, hl => by
    obtain ⟨h1, h2, h3⟩ := h x.1 x.2 hx hm
    refine tails_ok h n _ _ h2 h1 (fun a ha => ?_)
    rcases List.mem_append.1 ha with ha | ha
    · exact Nat.lt_of_lt_of_le (hl a ha) h3
    · simp at ha
      subst ha
      exact h2
theorem again_ok {F : Mk → Nat → Mk × Nat} (h : OkF F) (c : Mk × Nat) (hc : c.2 < c.1.S) (hm : Okm c.1) : Okm (again F c).1 := by
  have h0 : Okm (c.1.st.fr c.2 c.1.S) := hm.st.fr (Nat.lt_succ_of_lt hc) (Nat.lt_succ_self _)
  obtain ⟨h1, h2, h3⟩ := h (c.1.st.fr c.2 c.1.S) c.1.S (Nat.lt_succ_self _) h0
  have h4 : c.1.S < (F (c.1.st.fr c.2 c.1.S) c.1.S).1.S := Nat.lt_of_lt_of_le (Nat.lt_succ_self _) h3
  exact ((h1.fr h2 h4).st).fr (Nat.lt_succ_of_lt h4) (Nat.lt_succ_self _)
theorem times_ok {F : Mk → Nat → Mk × Nat} (h : OkF F) (p : Nat) (mn mx : Int) (m : Mk) (a : Nat) (ha : a < m.S) (hm : Okm m) : Okm (timesOf F p mn mx m a).1 := by
  obtain ⟨r1, r2⟩ := rounds_ok h mn.toNat (m, a) ha hm
  unfold timesOf
  split
  · exact hm
  split
  · exact again_ok h _ r2 r1
  split
  · exact r1
  · obtain ⟨t1, t2⟩ := tails_ok h (mx - mn).toNat (rounds F mn.toNat (m, a)) [(rounds F mn.toNat (m, a)).2] r2 r1 (fun b hb => by simp at hb; subst hb; exact r2)
    exact joint_ok _ t1 t2
theorem shaped_anchor {k : Int} {s : Oct.S} {n : Nat} {mn mx : Int} (h : shapedT k s n mn mx = true) (hk : k = 6 ∨ k = 7) : noSet s = true := by
  unfold shapedT at h
  rw [if_pos (by omega)] at h
  simp only [Bool.and_eq_true] at h
  exact h.1.2
mutual
theorem lay_ok : ∀ (t : Tn), (plc t).2 = true → OkF (lay t)
  | .mk k s subs mn mx, h => fun m a ha hm => by
    obtain ⟨hsh, hsub⟩ := plc_subs h
    have h4' := alts_ok subs hsub
    have h3' := seqs_ok subs hsub
    have h5' := heads_ok subs hsub
    refine ⟨?_, lay_lt (.mk k s subs mn mx) m a ha, (lay_le (.mk k s subs mn mx) m a).1⟩
    rw [lay]
    split
    · rename_i h2
      refine hm.st.ed ?_
      rw [okE_iff]
      simp only [Mk.st]
      refine ⟨?_, ?_, by omega, by omega, by omega, by omega, ?_⟩
      · split <;> omega
      · split <;> omega
      · split
        · exact Or.inl rfl
        · exact Or.inr (shaped_anchor hsh (by omega))
    split
    · exact h3' m a ha hm
    split
    · obtain ⟨q1, q2⟩ := h4' m a [] ha hm (fun b hb => by cases hb)
      exact joint_ok _ q1 q2
    split
    · exact times_ok h5' _ _ _ _ _ ha hm
    · exact hm
theorem seqs_ok : ∀ (ts : List Tn), (∀ t ∈ ts, (plc t).2 = true) → ∀ (m : Mk) (a : Nat), a < m.S → Okm m → Okm (seqs ts m a).1
  | [], _, m, a, _, hm => by rw [seqs]; exact hm
  | t :: ts, h, m, a, ha, hm => by
    obtain ⟨h1, h2, _⟩ := lay_ok t (h t (by simp)) m a ha hm
    rw [seqs]
    exact seqs_ok ts (fun u hu => h u (by simp [hu])) _ _ h2 h1
theorem alts_ok : ∀ (ts : List Tn), (∀ t ∈ ts, (plc t).2 = true) → ∀ (m : Mk) (a : Nat) (l : List Nat), a < m.S → Okm m → (∀ b ∈ l, b < m.S) → Okm (alts ts m a l).1 ∧ ∀ b ∈ (alts ts m a l).2, b < (alts ts m a l).1.S
  | [], _, m, a, l, _, hm, hl => by rw [alts]; exact ⟨hm, hl⟩
  | t :: ts, h, m, a, l, ha, hm, hl => by
    have h0 : Okm (m.st.fr a m.S) := hm.st.fr (Nat.lt_succ_of_lt ha) (Nat.lt_succ_self _)
    obtain ⟨h1, h2, h3⟩ := lay_ok t (h t (by simp)) (m.st.fr a m.S) m.S (Nat.lt_succ_self _) h0
    have h4 : m.S < (lay t (m.st.fr a m.S) m.S).1.S := Nat.lt_of_lt_of_le (Nat.lt_succ_self _) h3
    rw [alts]
    refine alts_ok ts (fun u hu => h u (by simp [hu])) _ _ _ (Nat.lt_trans ha h4) h1 (fun b hb => ?_)
    rcases List.mem_append.1 hb with hb | hb
    · exact Nat.lt_trans (hl b hb) h4
    · simp at hb
      subst hb
      exact h2
theorem heads_ok : ∀ (ts : List Tn), (∀ t ∈ ts, (plc t).2 = true) → OkF (fun m a => heads ts m a)
  | [], _ => fun m a ha hm => by simp only [heads]; exact ⟨hm, ha, Nat.le_refl _⟩
  | t :: _, h => fun m a ha hm => by simp only [heads]; exact lay_ok t (h t (by simp)) m a ha hm
end
theorem mach_right {t : Tn} (h : (plc t).2 = true) (r : Nat) : rightOf (mach t r) = true := by
  have h1 := (lay_ok t h ⟨1, []⟩ 0 (by decide) (fun e he => by cases he)).1
  have h2 := (lay_le t ⟨1, []⟩ 0).1
  unfold rightOf mach
  simp only [List.length_set, List.length_replicate, Bool.and_eq_true, decide_eq_true_eq, List.all_eq_true]
  simp only at h2
  exact ⟨⟨by omega, trivial⟩, h1⟩
end Go.Proofs.YtmjnobdlgbojoaaGreatDoor


namespace Go.Proofs.YtmjnobdlgbojoaaGreatDoor
section
variable {line : ByteArray} {es : List Eg} {S : Nat}
def Ent (line : ByteArray) (es : List Eg) (j : Nat) (q : Int) : Prop := ∃ (i j' : Nat) (p : Int) (e : Eg), Path line es 0 i p j' ∧ j = j' + 1 ∧ e ∈ es ∧ e.f = p ∧ e.k = 2 ∧ j' < line.size ∧ e.s (byt line j') = true ∧ e.t = q
def Cur (line : ByteArray) (es : List Eg) (S j : Nat) (cur : List Bool) : Prop := cur.length = S ∧ ∀ q : Nat, q < S → ((cur[q]?).getD false = true ↔ Ent line es j q)
theorem moves_iff (b e : Bool) (x : Eg) : moves b e x = true ↔ x.k = 1 ∨ (x.k = 3 ∧ b = true) ∨ (x.k = 4 ∧ e = true) := by
  unfold moves
  simp only [Bool.or_eq_true, Bool.and_eq_true, decide_eq_true_eq]
  constructor
  · rintro ((h | h) | h)
    · exact Or.inl h
    · exact Or.inr (Or.inl h)
    · exact Or.inr (Or.inr h)
  · rintro (h | h | h)
    · exact Or.inl (Or.inl h)
    · exact Or.inl (Or.inr h)
    · exact Or.inr h
open Classical in
theorem clo_path (hR : InR es S) (h1 : 1 ≤ S) {j : Nat} {cur cl : List Bool} (hc : Cur line es S j cur) (hclo : Clo es (decide (j = 0)) (decide (j = line.size)) (cur.set 0 true) cl) (hj : j ≤ line.size) : cl.length = S ∧ ∀ q : Nat, (cl[q]?).getD false = true ↔ q < S ∧ ∃ i, Path line es 0 i q j := by
  have hlen : cl.length = S := by rw [← hclo.sub.1, List.length_set]; exact hc.1
  refine ⟨hlen, fun q => ⟨fun h => ?_, ?_⟩⟩
  · have hq : q < S := by
      by_cases hq : q < S
      · exact hq
      · rw [List.getElem?_eq_none (by omega)] at h; cases h
    refine ⟨hq, ?_⟩
    have hK : ∀ p : Nat, (((List.range S).map (fun p : Nat => decide (∃ i, Path line es 0 i p j)))[p]?).getD false = true ↔ p < S ∧ ∃ i, Path line es 0 i p j := fun p => by
      by_cases hp : p < S
      · simp [hp]
      · simp [hp]
    have hs := hclo.least ((List.range S).map (fun p : Nat => decide (∃ i, Path line es 0 i p j))) ⟨by simp [hc.1], fun p hp => ?_⟩ (fun x hx hm hat => ?_)
    · exact ((hK q).1 (hs.2 q h)).2
    · rw [hK]
      by_cases hp0 : p = 0
      · subst hp0
        exact ⟨by omega, j, .refl⟩
      · rw [List.getElem?_set_ne (by omega)] at hp
        have hpS : p < S := by
          by_cases hq : p < S
          · exact hq
          · rw [List.getElem?_eq_none (by rw [hc.1]; omega)] at hp; cases hp
        obtain ⟨i, j', p', e, g1, rfl, g3, g4, g5, g6, g7, g8⟩ := (hc.2 p hpS).1 hp
        refine ⟨hpS, i, ?_⟩
        rw [← g8]
        exact g1.snoc e g3 g4 _ (Or.inr (Or.inr (Or.inr ⟨g5, g6, g7, rfl⟩)))
    · have hb := hR x hx
      unfold at_ at hat ⊢
      rw [hK] at hat ⊢
      obtain ⟨_, i, hp⟩ := hat
      refine ⟨by omega, i, ?_⟩
      have e1 : ((x.f.toNat : Nat) : Int) = x.f := by omega
      have e2 : ((x.t.toNat : Nat) : Int) = x.t := by omega
      rw [e1] at hp
      rw [e2]
      rw [moves_iff] at hm
      refine hp.snoc x hx rfl j ?_
      rcases hm with hm | ⟨hm, hb⟩ | ⟨hm, hb⟩
      · exact Or.inl ⟨hm, rfl⟩
      · exact Or.inr (Or.inl ⟨hm, of_decide_eq_true hb, rfl⟩)
      · exact Or.inr (Or.inr (Or.inl ⟨hm, of_decide_eq_true hb, rfl⟩))
  · rintro ⟨hq, i, hp⟩
    have key : ∀ {q' : Int} {j' : Nat}, Path line es 0 i q' j' → j' = j → at_ cl q' = true := by
      intro q' j' hp
      induction hp with
      | refl =>
        rintro rfl
        exact hclo.sub.2 0 (by rw [List.getElem?_set_self (by rw [hc.1]; omega)]; rfl)
      | @snoc q' j' hp e he hf k hm ih =>
        intro hk
        have hb := hR e he
        rcases hm with ⟨h2, h3⟩ | ⟨h2, h3, h4⟩ | ⟨h2, h3, h4⟩ | ⟨h2, h3, h4, h5⟩
        · exact hclo.closed e he (by rw [moves_iff]; exact Or.inl h2) (by rw [hf]; exact ih (by omega))
        · exact hclo.closed e he (by rw [moves_iff]; exact Or.inr (Or.inl ⟨h2, by simp; omega⟩)) (by rw [hf]; exact ih (by omega))
        · exact hclo.closed e he (by rw [moves_iff]; exact Or.inr (Or.inr ⟨h2, by simp; omega⟩)) (by rw [hf]; exact ih (by omega))
        · have hent : Ent line es j e.t := ⟨i, j', q', e, hp, by omega, he, hf, h2, h3, h4, rfl⟩
          have e2 : ((e.t.toNat : Nat) : Int) = e.t := by omega
          have hcu := (hc.2 e.t.toNat (by omega)).2 (by rw [e2]; exact hent)
          exact hclo.sub.2 e.t.toNat ((sub_set cur 0).2 e.t.toNat hcu)
    have := key hp rfl
    unfold at_ at this
    simpa using this
theorem nexts_len (b : Nat) (cl : List Bool) : ∀ (es : List Eg) (nx : List Bool), (nexts b cl es nx).length = nx.length
  | [], _ => rfl
  | y :: es, nx => by
    rw [nexts, nexts_len b cl es]
    split <;> simp
theorem nexts_at (b : Nat) (cl : List Bool) : ∀ (es : List Eg) (nx : List Bool) (q : Nat), q < nx.length → (((nexts b cl es nx)[q]?).getD false = true ↔ (nx[q]?).getD false = true ∨ ∃ y ∈ es, takesB b cl y = true ∧ y.t.toNat = q)
  | [], nx, q, _ => by simp [nexts]
  | y :: es, nx, q, hq => by
    rw [nexts, nexts_at b cl es _ q (by split <;> simp [hq])]
    by_cases ht : takesB b cl y = true
    · rw [if_pos ht]
      by_cases hy : y.t.toNat = q
      · rw [hy, List.getElem?_set_self hq]
        simp [ht, hy]
      · rw [List.getElem?_set_ne hy]
        simp [hy]
    · rw [if_neg ht]
      simp [ht]
theorem cur_next (hR : InR es S) (h1 : 1 ≤ S) {j : Nat} {cur cl : List Bool} (hc : Cur line es S j cur) (hclo : Clo es (decide (j = 0)) (decide (j = line.size)) (cur.set 0 true) cl) (hj : j < line.size) : Cur line es S (j + 1) (nexts (byt line j) cl es (List.replicate S false)) := by
  obtain ⟨_, hcl⟩ := clo_path hR h1 hc hclo (by omega)
  refine ⟨by rw [nexts_len]; simp, fun q hq => ?_⟩
  rw [nexts_at _ _ _ _ _ (by simpa using hq)]
  constructor
  · rintro (h | ⟨y, hy, ht, hyq⟩)
    · simp [hq] at h
    · unfold takesB at ht
      simp only [Bool.and_eq_true, decide_eq_true_eq] at ht
      have hb := hR y hy
      have h2 := ht.1.2
      unfold at_ at h2
      obtain ⟨_, i, hp⟩ := (hcl y.f.toNat).1 h2
      have e1 : ((y.f.toNat : Nat) : Int) = y.f := by omega
      rw [e1] at hp
      exact ⟨i, j, y.f, y, hp, rfl, hy, rfl, ht.1.1, hj, ht.2, by omega⟩
  · rintro ⟨i, j', p, e, g1, g2, g3, g4, g5, g6, g7, g8⟩
    have hjj : j' = j := by omega
    subst hjj
    refine Or.inr ⟨e, g3, ?_, by omega⟩
    have hb := hR e g3
    unfold takesB at_
    rw [(hcl e.f.toNat).2 ⟨by omega, i, by rw [show ((e.f.toNat : Nat) : Int) = p by omega]; exact g1⟩]
    simp [g5, g7]
theorem orFrom_zero : ∀ (bs : List Bool) (n r : Nat), orFrom r bs (List.replicate n 0) = r
  | [], n, r => by rw [orFrom]; intros; simp_all
  | _ :: _, 0, r => by rw [List.replicate_zero, orFrom]; intros; simp_all
  | b :: bs, n + 1, r => by
    rw [List.replicate_succ, orFrom, Nat.or_zero, ite_self]
    exact orFrom_zero bs n r
theorem orFrom_one : ∀ (bs : List Bool) (n z v r : Nat), z < n → bs.length = n → orFrom r bs ((List.replicate n 0).set z v) = if (bs[z]?).getD false = true then r ||| v else r
  | [], n, z, v, r, hz, hl => by simp at hl; omega
  | _ :: _, 0, z, v, r, hz, hl => by omega
  | b :: bs, n + 1, 0, v, r, hz, hl => by
    rw [List.replicate_succ, List.set_cons_zero, orFrom, orFrom_zero]
    simp
  | b :: bs, n + 1, z + 1, v, r, hz, hl => by
    rw [List.replicate_succ, List.set_cons_succ, orFrom, Nat.or_zero, ite_self, orFrom_one bs n z v r (by omega) (by simpa using hl)]
    simp
theorem walks_bit {M : Ma} {z v : Nat} (hR : InR M.es S) (h1 : 1 ≤ S) (hz : z < S) (hrs : M.rs = (List.replicate S 0).set z v) {j : Nat} {cur : List Bool} {r R : Nat} (h : Walks M S line j cur r R) : Cur line M.es S j cur →
    (R = r ||| v ∧ ∃ j' i, j ≤ j' ∧ j' ≤ line.size ∧ Path line M.es 0 i (z : Nat) j') ∨ (R = r ∧ ∀ j' i, j ≤ j' → j' ≤ line.size → ¬ Path line M.es 0 i (z : Nat) j') := by
  induction h with
  | last j cur cl r hj hclo =>
    intro hc
    have hclo' : Clo M.es (decide (j = 0)) (decide (j = line.size)) (cur.set 0 true) cl := by rw [show decide (j = line.size) = true by simp [hj]]; exact hclo
    obtain ⟨hlen, hcl⟩ := clo_path hR h1 hc hclo' (by omega)
    rw [hrs, orFrom_one cl S z v r hz hlen]
    by_cases hb : (cl[z]?).getD false = true
    · rw [if_pos hb]
      obtain ⟨_, i, hp⟩ := (hcl z).1 hb
      exact Or.inl ⟨rfl, j, i, Nat.le_refl _, by omega, hp⟩
    · rw [if_neg hb]
      refine Or.inr ⟨rfl, fun j' i g1 g2 hp => hb ((hcl z).2 ⟨hz, i, ?_⟩)⟩
      rw [show j = j' by omega]
      exact hp
  | step j cur cl r R hj hclo _ ih =>
    intro hc
    have hclo' : Clo M.es (decide (j = 0)) (decide (j = line.size)) (cur.set 0 true) cl := by rw [show decide (j = line.size) = false by simp; omega]; exact hclo
    obtain ⟨hlen, hcl⟩ := clo_path hR h1 hc hclo' (by omega)
    have ih := ih (cur_next hR h1 hc hclo' hj)
    rw [hrs, orFrom_one cl S z v r hz hlen] at ih
    by_cases hb : (cl[z]?).getD false = true
    · rw [if_pos hb] at ih
      obtain ⟨_, i, hp⟩ := (hcl z).1 hb
      refine Or.inl ⟨?_, j, i, Nat.le_refl _, by omega, hp⟩
      rcases ih with ⟨e, _⟩ | ⟨e, _⟩
      · rw [e, Nat.or_assoc, Nat.or_self]
      · exact e
    · rw [if_neg hb] at ih
      rcases ih with ⟨e, j', i, g1, g2, g3⟩ | ⟨e, hn⟩
      · exact Or.inl ⟨e, j', i, by omega, g2, g3⟩
      · refine Or.inr ⟨e, fun j' i g1 g2 hp => ?_⟩
        by_cases hjj : j' = j
        · subst hjj
          exact hb ((hcl z).2 ⟨hz, i, hp⟩)
        · exact hn j' i (by omega) g2 hp
theorem mach_meets {t : Tn} (hp : (plc t).2 = true) (k : Nat) {R : Nat} (h : Walks (mach t k) (lay t ⟨1, []⟩ 0).1.S line 0 (List.replicate (lay t ⟨1, []⟩ 0).1.S false) 0 R) :
    (R = 2 ^ k ∧ ∃ i j, j ≤ line.size ∧ Tk line t i j) ∨ (R = 0 ∧ ∀ i j, j ≤ line.size → ¬ Tk line t i j) := by
  obtain ⟨es, e1, l1⟩ := lay_fp (line := line) _ t (Nat.le_refl _) hp ⟨1, []⟩ 0 (by decide)
  have hes : (mach t k).es = es := by show (lay t ⟨1, []⟩ 0).1.es = es; rw [e1]; rfl
  have hz : (lay t ⟨1, []⟩ 0).2 < (lay t ⟨1, []⟩ 0).1.S := lay_lt t ⟨1, []⟩ 0 (by decide)
  have hR : InR (mach t k).es (lay t ⟨1, []⟩ 0).1.S := by
    have hrt := mach_right hp k
    obtain ⟨_, g2, g3⟩ := right_parts hrt
    have hS : (mach t k).S = ((lay t ⟨1, []⟩ 0).1.S : Nat) := rfl
    intro y hy
    have := g3 y hy
    omega
  have hb := walks_bit (line := line) (v := 2 ^ k) hR (by omega) hz rfl h ⟨by simp, fun q hq => ⟨fun h => by simp [hq] at h, fun ⟨i, j', p, e, _, g2, _⟩ => by omega⟩⟩
  rw [hes, Nat.zero_or] at hb
  have hpath : ∀ i j, Path line es 0 i ((lay t ⟨1, []⟩ 0).2 : Nat) j ↔ Tk line t i j := fun i j => l1.path i j
  rcases hb with ⟨e, j', i, _, g2, g3⟩ | ⟨e, hn⟩
  · exact Or.inl ⟨e, i, j', g2, (hpath i j').1 g3⟩
  · exact Or.inr ⟨e, fun i j hj ht => hn j i (Nat.zero_le _) hj ((hpath i j).2 ht)⟩
end
end Go.Proofs.YtmjnobdlgbojoaaGreatDoor


namespace Go.Proofs.YtmjnobdlgbojoaaGreatDoor
theorem kmov_moves (b e : Bool) (x : Eg) : kmov b e x = moves b e x := by
  rw [Bool.eq_iff_iff, moves_iff]
  unfold kmov
  simp only [Bool.or_eq_true, Bool.and_eq_true, decide_eq_true_eq]
  constructor
  · rintro ((h | h) | h)
    · exact Or.inl h
    · exact Or.inr (Or.inl h)
    · exact Or.inr (Or.inr h)
  · rintro (h | h | h)
    · exact Or.inl (Or.inl h)
    · exact Or.inl (Or.inr h)
    · exact Or.inr h
def OnOf (S : Nat) (l : List Bool) (f : Oct.S) : Prop := l.length = S ∧ ∀ s, f s = true ↔ s < S ∧ (l[s]?).getD false = true
theorem clo_of {es : List Eg} {S : Nat} {b e : Bool} {f g : Oct.S} {l : List Bool} (hE : InR es S) (hf : OnOf S l f) (hc : IsCl es (kmov b e) f g) : Clo es b e l (bsOf g S) := by
  have hlt : ∀ s, g s = true → s < S := fun s hs => by
    have h := (hc s).1 hs
    cases h with
    | base s h => exact ((hf.2 s).1 h).1
    | step y hy _ _ => have := hE y hy; omega
  refine ⟨⟨by rw [bsOf_len]; exact hf.1, fun i hi => ?_⟩, fun x hx hm ha => ?_, fun k hk hcl => ⟨by rw [bsOf_len]; exact hf.1.symm.trans hk.1, fun i hi => ?_⟩⟩
  · have hi2 : i < S := by
      rw [← hf.1]
      refine Nat.lt_of_not_le fun h => ?_
      rw [List.getElem?_eq_none h] at hi
      cases hi
    rw [bsOf_at g hi2]
    exact (hc i).2 (.base i ((hf.2 i).2 ⟨hi2, hi⟩))
  · have hb := hE x hx
    unfold at_ at ha ⊢
    rw [bsOf_at g (by omega)] at ha ⊢
    exact (hc _).2 (.step x hx (by rw [kmov_moves]; exact hm) ((hc _).1 ha))
  · have hi2 : i < S := by
      refine Nat.lt_of_not_le fun h => ?_
      rw [List.getElem?_eq_none (by rw [bsOf_len]; exact h)] at hi
      cases hi
    rw [bsOf_at g hi2] at hi
    have hr := (hc i).1 hi
    clear hi hi2
    induction hr with
    | base s h => exact hk.2 s ((hf.2 s).1 h).2
    | step y hy hm _ ih => exact hcl y hy (by rw [← kmov_moves]; exact hm) ih
theorem orFrom_bit : ∀ (bs : List Bool) (xs : List Nat) (r k : Nat), (orFrom r bs xs).testBit k = true ↔ r.testBit k = true ∨ ∃ i, i < xs.length ∧ (bs[i]?).getD false = true ∧ ((xs[i]?).getD 0).testBit k = true
  | [], xs, r, k => by
    rw [orFrom.eq_def]
    simp
  | b :: bs, [], r, k => by
    rw [orFrom.eq_def]
    simp
  | b :: bs, x :: xs, r, k => by
    rw [orFrom, orFrom_bit bs xs]
    constructor
    · rintro (h | ⟨i, h1, h2, h3⟩)
      · cases b with
        | false => exact Or.inl h
        | true =>
          rw [if_pos rfl, Nat.testBit_or, Bool.or_eq_true] at h
          rcases h with h | h
          · exact Or.inl h
          · exact Or.inr ⟨0, by simp, rfl, h⟩
      · exact Or.inr ⟨i + 1, by simp; omega, by simpa using h2, by simpa using h3⟩
    · rintro (h | ⟨i, h1, h2, h3⟩)
      · left
        cases b with
        | false => exact h
        | true => rw [if_pos rfl, Nat.testBit_or, h, Bool.true_or]
      · cases i with
        | zero =>
          left
          simp at h2 h3
          subst h2
          rw [if_pos rfl, Nat.testBit_or, h3, Bool.or_true]
        | succ i => exact Or.inr ⟨i, by simp at h1; omega, by simpa using h2, by simpa using h3⟩
theorem orFrom_rules {rs : List Nat} {S : Nat} (hS : rs.length = S) (g : Oct.S) (r : Nat) : orFrom r (bsOf g S) rs = r ||| rulesG rs g := by
  apply Nat.eq_of_testBit_eq
  intro k
  rw [Bool.eq_iff_iff, orFrom_bit, Nat.testBit_or, Bool.or_eq_true, rulesG_bit]
  constructor
  · rintro (h | ⟨i, h1, h2, h3⟩)
    · exact Or.inl h
    · rw [bsOf_at g (by omega)] at h2
      exact Or.inr ⟨i, h1, h2, h3⟩
  · rintro (h | ⟨i, h1, h2, h3⟩)
    · exact Or.inl h
    · exact Or.inr ⟨i, h1, by rw [bsOf_at g (by omega)]; exact h2, h3⟩
theorem rules_mono {rs : List Nat} {g h : Oct.S} (hs : ∀ s, g s = true → h s = true) : rulesG rs g ||| rulesG rs h = rulesG rs h := by
  apply Nat.eq_of_testBit_eq
  intro k
  rw [Bool.eq_iff_iff, Nat.testBit_or, Bool.or_eq_true]
  constructor
  · rintro (h1 | h1)
    · obtain ⟨s, a, b, c⟩ := (rulesG_bit _ _ _).1 h1
      exact (rulesG_bit _ _ _).2 ⟨s, a, hs s b, c⟩
    · exact h1
  · exact Or.inr
theorem onOf_zero {S : Nat} (h1 : 1 ≤ S) : OnOf S ((List.replicate S false).set 0 true) zeroS := by
  refine ⟨by simp, fun s => ?_⟩
  unfold zeroS
  rw [decide_eq_true_eq]
  by_cases e : s = 0
  · subst e
    rw [List.getElem?_set_self (by simp; omega)]
    simp
    omega
  · rw [List.getElem?_set_ne (fun h => e h.symm)]
    simp [e, List.getElem?_replicate]
    intro h
    simp [h]
theorem onOf_next {es : List Eg} {S b : Nat} {g : Oct.S} (hE : InR es S) (h1 : 1 ≤ S) : OnOf S ((nexts b (bsOf g S) es (List.replicate S false)).set 0 true) (nextS es b g) := by
  have hl : (nexts b (bsOf g S) es (List.replicate S false)).length = S := by rw [nexts_len]; simp
  refine ⟨by simp [hl], fun s => ?_⟩
  unfold nextS
  rw [Bool.or_eq_true, decide_eq_true_eq, List.any_eq_true]
  by_cases e : s = 0
  · subst e
    rw [List.getElem?_set_self (by omega)]
    simp
    omega
  · rw [List.getElem?_set_ne (fun h => e h.symm)]
    constructor
    · rintro (h | ⟨y, hy, h⟩)
      · exact absurd h e
      · simp only [Bool.and_eq_true, decide_eq_true_eq] at h
        obtain ⟨⟨⟨a1, a2⟩, a3⟩, a4⟩ := h
        have hb := hE y hy
        have hs : s < S := by omega
        refine ⟨hs, (nexts_at b (bsOf g S) es _ s (by simpa using hs)).2 (Or.inr ⟨y, hy, ?_, a4⟩)⟩
        unfold takesB at_
        rw [bsOf_at g (by omega)]
        simp [a1, a2, a3]
    · rintro ⟨hs, h⟩
      rcases (nexts_at b (bsOf g S) es _ s (by simpa using hs)).1 h with h | ⟨y, hy, h2, h3⟩
      · simp [hs] at h
      · refine Or.inr ⟨y, hy, ?_⟩
        have hb := hE y hy
        unfold takesB at_ at h2
        rw [bsOf_at g (by omega)] at h2
        simp only [Bool.and_eq_true, decide_eq_true_eq, Option.getD_some] at h2 ⊢
        exact ⟨⟨⟨h2.1.1, h2.1.2⟩, h2.2⟩, h3⟩
open Classical in
theorem isCl_ex (es : List Eg) (p : Eg → Bool) (f : Oct.S) : ∃ g, IsCl es p f g := ⟨fun s => decide (Rch es p f s), fun s => by simp⟩
theorem fits_inR {M : Ma} {S : Nat} (h : Fits M S) : InR M.es S := fun y hy => h.2.2.2.1 y hy
theorem line_steps {M : Ma} {S : Nat} {line : ByteArray} (hM : Fits M S) : ∀ (d j : Nat), line.size - j = d → j ≤ line.size → ∀ (cur : List Bool) (f g : Oct.S) (r' : Nat), OnOf S (cur.set 0 true) f → IsCl M.es (kmov (decide (j = 0)) false) f g → Mom M ((bts line).take j) g (r' ||| rulesG M.rs g) → ∃ R, Walks M S line j cur r' R ∧ LineOf M (bts line) R := by
  intro d
  induction d with
  | zero =>
    intro j hd hj cur f g r' hf hc hm
    have ej : j = line.size := by omega
    obtain ⟨h, hh⟩ := isCl_ex M.es (kmov (decide (j = 0)) true) g
    have hh2 : IsCl M.es (kmov (decide (j = 0)) true) f h := (hc.again (fun y hy => by
      unfold kmov at hy ⊢
      simp only [Bool.or_eq_true, Bool.and_eq_true, decide_eq_true_eq] at hy ⊢
      rcases hy with (h | h) | h
      · exact Or.inl (Or.inl h)
      · exact Or.inl (Or.inr h)
      · exact absurd h.2 (by decide))).1 hh
    refine ⟨_, .last j cur _ r' ej (clo_of (fits_inR hM) hf hh2), ?_⟩
    rw [orFrom_rules hM.2.2.1]
    have htk : (bts line).take j = bts line := List.take_of_length_le (by rw [bts_length]; omega)
    rw [htk] at hm
    refine ⟨g, _, hm, h, ?_, ?_⟩
    · have e : decide (bts line = []) = decide (j = 0) := by
        rw [Bool.eq_iff_iff, decide_eq_true_eq, decide_eq_true_eq, ← List.length_eq_zero_iff, bts_length]
        omega
      rw [e]
      exact hh
    · rw [Nat.or_assoc, rules_mono (fun s hs => (hh s).2 (.base s hs))]
  | succ d ih =>
    intro j hd hj cur f g r' hf hc hm
    have hjl : j < line.size := by omega
    obtain ⟨g2, hg2⟩ := isCl_ex M.es (kmov false false) (nextS M.es (byt line j) g)
    have hb : (bts line).take (j + 1) = (bts line).take j ++ [byt line j] := by rw [bts_take line hjl, byt_eq hjl]
    have hm2 : Mom M ((bts line).take (j + 1)) g2 ((r' ||| rulesG M.rs g) ||| rulesG M.rs g2) := by rw [hb]; exact .byte _ _ _ _ _ hm hg2
    have e0 : decide (j + 1 = 0) = false := by simp
    obtain ⟨R, h1, h2⟩ := ih (j + 1) (by omega) (by omega) (nexts (byt line j) (bsOf g S) M.es (List.replicate S false)) (nextS M.es (byt line j) g) g2 (r' ||| rulesG M.rs g) (onOf_next (fits_inR hM) hM.1) (by rw [e0]; exact hg2) hm2
    refine ⟨R, .step j cur (bsOf g S) r' R hjl (clo_of (fits_inR hM) hf hc) ?_, h2⟩
    rw [orFrom_rules hM.2.2.1]
    exact h1
theorem line_walks {M : Ma} {S : Nat} {line : ByteArray} {v : Nat} (hM : Fits M S) (h : LineOf M (bts line) v) : Walks M S line 0 (List.replicate S false) 0 v := by
  obtain ⟨g, hg⟩ := isCl_ex M.es (kmov true false) zeroS
  have hm : Mom M ((bts line).take 0) g (0 ||| rulesG M.rs g) := by rw [Nat.zero_or]; exact .beg g hg
  obtain ⟨R, h1, h2⟩ := line_steps (line := line) hM line.size 0 (by omega) (Nat.zero_le _) (List.replicate S false) zeroS g 0 (onOf_zero hM.1) hg hm
  rw [h.uniq h2]
  exact h1
end Go.Proofs.YtmjnobdlgbojoaaGreatDoor
