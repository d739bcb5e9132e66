/- Drawn regions in which a row is appended to in place, and whose last operation waits for all. -/
import Derived.Test.YtclcpblpmfijiaaG11
namespace Go.Proofs.Ytclcpblpmfijiaa
open Go.RowKit Go.Maps Rg

section
variable {P : Program} {ops : Array Oper} {Q : Exit → Act → World → Prop}
/-- what one operation does: its value; memory grows, or (the one operation s) blocks of X change -/
def DutyY (P : Program) (w0 : World) (s : Nat) (X : Nat → Prop) (pre : World → Prop) (D : Nat → Nat) (R : Nat → Value → World → Prop) (F0 : Act → Prop) (i : Nat) (o : Oper) : Prop :=
  o.dst = some (D i) ∧ (∀ e ∈ o.after, e.on < i) ∧ ∀ a w, F0 a → FrP X w0 w → (i = s → pre w) → (∀ e ∈ o.after, Region.binds .any e = true → R e.on (T a (D e.on)) w) →
    ∀ Q, o.wp P a w (fun a' w' => ∃ v, a' = a.put o.dst v ∧ (Below w.heap.size w w' ∨ (i = s ∧ FrP X w w')) ∧ R i v w') Q
theorem wp_region_lastx {id : Nat} {a : Act} {w0 : World} (hm : P.follows .mixedOrders = true) (n s : Nat) (X : Nat → Prop) (pre : World → Prop) (late : Nat → Bool) (hpre : pre w0) (hpreB : ∀ w w', pre w → Below w.heap.size w w' → pre w') (hn : ops.size = n + 1) (hsn : s < n) (D : Nat → Nat) (R : Nat → Value → World → Prop) (F0 : Act → Prop)
    (hupB : ∀ i v w w', R i v w → Below w.heap.size w w' → R i v w')
    (hupX : ∀ i v w w', i ≠ s → late i = false → R i v w → FrP X w0 w → FrP X w w' → R i v w')
    (hlate : ∀ j o, ops[j]? = some o → late j = true → j ≠ s → ∃ e ∈ o.after, Region.binds .any e = true ∧ e.on = s)
    (hF0 : ∀ a i v, i < n → F0 a → F0 (a.put (some (D i)) v)) (hsz : ∀ a i, i < n → F0 a → D i < a.tmps.size)
    (hinj : ∀ i j, i < n → j < n → D i = D j → i = j)
    (hcov : covers ops n = true)
    (hduty : AllFrom (fun i o => (i < n → o.guard = none ∧ DutyY P w0 s X pre D R F0 i o) ∧ (n ≤ i → o.guard = none ∧ (∀ e ∈ o.after, e.on < n) ∧ ∀ a w, F0 a → FrP X w0 w → (∀ i, i < n → R i (T a (D i)) w) → o.wp P a w (Q .normal) Q)) 0 ops.toList)
    (h0 : F0 a) : (Code.region id ops true).wp P Q a w0 := by
  have hd : ∀ i o, ops[i]? = some o → i < n → o.guard = none ∧ DutyY P w0 s X pre D R F0 i o := fun i o ho hi => by
    have := allFrom_at hduty i o (by simpa using ho)
    rw [Nat.zero_add] at this
    exact this.1 hi
  have hlast : ∀ o, ops[n]? = some o → o.guard = none ∧ (∀ e ∈ o.after, e.on < n) ∧ ∀ a w, F0 a → FrP X w0 w → (∀ i, i < n → R i (T a (D i)) w) → o.wp P a w (Q .normal) Q := fun o ho => by
    have := allFrom_at hduty n o (by simpa using ho)
    rw [Nat.zero_add] at this
    exact this.2 (Nat.le_refl _)
  refine wp_region_inv hm (fun L a w => (∀ i o e, ops[i]? = some o → e ∈ o.after → Region.binds .any e = true → L i = true → L e.on = true) ∧ (L n = true → Q .normal a w) ∧ (L n = false → F0 a ∧ FrP X w0 w ∧ (L s = false → pre w) ∧ ∀ i, i < n → L i = true → R i (T a (D i)) w)) ?wf ?step ?fin ?zero
  case wf =>
    intro i o e ho he _
    have hi := (Array.getElem?_eq_some_iff.1 ho).1
    by_cases hl : i < n
    · exact (hd i o ho hl).2.2.1 e he
    · have : i = n := by omega
      subst this
      exact (hlast o ho).2.1 e he
  case zero =>
    intro L hL
    refine ⟨fun i o e ho _ _ h => ?_, fun h => ?_, fun _ => ⟨h0, FrP.of_below X ((Below.refl _ _).drew), fun _ => hpreB _ _ hpre ((Below.refl _ _).drew), fun i hi h => ?_⟩⟩
    · rw [hL i (Array.getElem?_eq_some_iff.1 ho).1] at h; cases h
    · rw [hL n (by omega)] at h; cases h
    · rw [hL i (by omega)] at h; cases h
  case fin =>
    intro L a w hL hI
    exact hI.2.1 (hL n (by omega))
  case step =>
    intro i o ho
    have hi := (Array.getElem?_eq_some_iff.1 ho).1
    have hclose : ∀ L : Nat → Bool, (∀ i o e, ops[i]? = some o → e ∈ o.after → Region.binds .any e = true → L i = true → L e.on = true) → (∀ e ∈ o.after, Region.binds .any e = true → L e.on = true) → ∀ j p e, ops[j]? = some p → e ∈ p.after → Region.binds .any e = true → more L i j = true → more L i e.on = true := fun L h1 h2 j p e hp he hb hj => by
      unfold more at hj ⊢
      by_cases hji : j = i
      · subst hji
        rw [ho] at hp
        cases hp
        simp [h2 e he hb]
      · rw [if_neg hji] at hj
        simp [h1 j p e hp he hb hj]
    by_cases hl : i < n
    · obtain ⟨hg, hdst, hlt, hst⟩ := hd i o ho hl
      refine ⟨hg, fun L a w hI hLi hE => ?_⟩
      have hLn : L n = false := by
        cases h : L n with
        | false => rfl
        | true => rw [covers_all hcov hI.1 h i (by omega)] at hLi; cases hLi
      obtain ⟨hF, hB, hP, hR⟩ := hI.2.2 hLn
      have hw := hst a w hF hB (fun e => hP (by rw [← e]; exact hLi)) (fun e he hb => hR e.on (Nat.lt_trans (hlt e he) hl) (hE e he hb)) Q
      refine Oper.wp_mono ?_ hw
      rintro a' w' ⟨v, rfl, hb, hr⟩
      have hne : n ≠ i := by omega
      have hmn : more L i n = L n := by unfold more; rw [if_neg hne]
      refine ⟨hclose L hI.1 hE, fun h => absurd (hmn.symm.trans h) (by rw [hLn]; simp), fun _ => ?_⟩
      rw [hdst]
      refine ⟨hF0 a i v hl hF, ?_, fun hms => ?_, fun j hj hmj => ?_⟩
      · rcases hb with hb | ⟨_, hb⟩
        · exact hB.below hb
        · exact hB.trans hb (fun _ _ h => h)
      · have hsi : s ≠ i := fun e => by subst e; unfold more at hms; rw [if_pos rfl] at hms; cases hms
        have hLs : L s = false := by unfold more at hms; rwa [if_neg hsi] at hms
        rcases hb with hb | ⟨hs, _⟩
        · exact hpreB _ _ (hP hLs) hb
        · exact absurd hs.symm hsi
      · by_cases hji : j = i
        · subst hji
          unfold T
          rw [put_same (hsz a j hl hF)]
          exact hr
        · unfold T
          rw [put_other (fun e => hji (hinj i j hl hj e).symm)]
          have hLj : L j = true := by unfold more at hmj; rwa [if_neg hji] at hmj
          rcases hb with hb | ⟨hs, hb⟩
          · exact hupB j _ _ _ (hR j hj hLj) hb
          · have hjs : j ≠ s := by omega
            have hlj : late j = false := by
              cases hx : late j with
              | false => rfl
              | true =>
                obtain ⟨p, hp⟩ : ∃ p, ops[j]? = some p := ⟨_, Array.getElem?_eq_getElem (by omega)⟩
                obtain ⟨e, he, hbd, hes⟩ := hlate j p hp hx hjs
                have := hI.1 j p e hp he hbd hLj
                rw [hes, ← hs, hLi] at this
                cases this
            exact hupX j _ _ _ hjs hlj (hR j hj hLj) hB hb
    · have : i = n := by omega
      subst this
      obtain ⟨hg, hlt, hst⟩ := hlast o ho
      refine ⟨hg, fun L a w hI hLi hE => ?_⟩
      have hall : ∀ k, k < i → L k = true := fun k hk => by
        suffices hs : ∀ m j, j < i → i - j ≤ m → L j = true from hs (i - k) k hk (Nat.le_refl _)
        intro m
        induction m with
        | zero => intro j hj hk; omega
        | succ m ih =>
          intro j hj hk
          have h1 := List.all_eq_true.1 hcov j (List.mem_range.2 hj)
          obtain ⟨x, hx, h2⟩ := List.any_eq_true.1 h1
          have hx := List.mem_range.1 hx
          rw [Bool.and_eq_true] at h2
          have hjx := of_decide_eq_true h2.1
          have h3 := h2.2
          cases hox : ops[x]? with
          | none => rw [hox] at h3; cases h3
          | some o' =>
            rw [hox] at h3
            have h3 : (o'.after.any fun e => e.on == j && Region.binds .any e) = true := h3
            rw [Array.any_eq_true'] at h3
            obtain ⟨y, hy, h4⟩ := h3
            rw [Bool.and_eq_true] at h4
            have hey := eq_of_beq h4.1
            by_cases hxi : x = i
            · subst hxi
              rw [ho] at hox
              cases hox
              have := hE y hy h4.2
              rwa [hey] at this
            · have := hI.1 x o' y hox hy h4.2 (ih x (by omega) (by omega))
              rwa [hey] at this
      obtain ⟨hF, hB, _, hR⟩ := hI.2.2 hLi
      have hw := hst a w hF hB (fun k hk => hR k hk (hall k hk))
      refine Oper.wp_mono ?_ hw
      intro a' w' hq
      have hmn : more L i i = true := by unfold more; rw [if_pos rfl]
      exact ⟨hclose L hI.1 hE, fun _ => hq, fun h => by rw [hmn] at h; cases h⟩
end
def lateOk (ops : Array Oper) (s : Nat) (late : Nat → Bool) : Bool := (List.range ops.size).all fun j => !late j || j == s || match ops[j]? with
  | some o => o.after.any fun e => Region.binds .any e && e.on == s
  | none => true
theorem late_ok {ops : Array Oper} {s : Nat} {late : Nat → Bool} (h : lateOk ops s late = true) : ∀ j o, ops[j]? = some o → late j = true → j ≠ s → ∃ e ∈ o.after, Region.binds .any e = true ∧ e.on = s := fun j o ho hl hs => by
  have h1 := List.all_eq_true.1 h j (List.mem_range.2 (Array.getElem?_eq_some_iff.1 ho).1)
  rw [hl, ho] at h1
  have h2 : (j == s) = false := by simpa using hs
  rw [h2] at h1
  have h1 : (o.after.any fun e => Region.binds .any e && e.on == s) = true := h1
  rw [Array.any_eq_true'] at h1
  obtain ⟨e, he, h3⟩ := h1
  rw [Bool.and_eq_true] at h3
  exact ⟨e, he, h3.1, eq_of_beq h3.2⟩
theorem ev_T (a : Act) (k : Nat) : a.eval (.tmp k) = T a k := by
  unfold T
  simp [Act.eval]
theorem oby {P : Program} {o : Oper} {a : Act} {w : World} {s i : Nat} {X : Nat → Prop} {R : Value → World → Prop} {Q : Exit → Act → World → Prop} (h : o.wp P a w (Leaves R o a w) Q) : o.wp P a w (fun a' w' => ∃ v, a' = a.put o.dst v ∧ (Below w.heap.size w w' ∨ (i = s ∧ FrP X w w')) ∧ R v w') Q :=
  Oper.wp_mono (fun _ _ ⟨v, e, hb, hr⟩ => ⟨v, e, .inl hb, hr⟩) h
theorem append_ty {t t2 e : TypeId} (ht : Try.prog.underlying t = some (.slice e)) (ht2 : Try.prog.underlying t2 = some (.slice e)) (ty : TypeId) (x y : Option Addr) (n c m k : Nat) (w : World) : (Builtin.append_ #[t, t2] ty #[.slice x n c, .slice y m k]).run Try.prog w = (Builtin.append_ #[t, t] ty #[.slice x n c, .slice y m k]).run Try.prog w := by
  have h1 : ∀ v, (underlying t).run Try.prog v = .ok (.slice e) v := fun v => by
    simp [underlying, ht, go_sem]
  have h2 : ∀ v, (underlying t2).run Try.prog v = .ok (.slice e) v := fun v => by
    simp [underlying, ht2, go_sem]
  unfold Builtin.append_
  simp only [List.getElem?_toArray, List.getElem?_cons_zero, List.getElem?_cons_succ, Sem.run_bind, h1, h2, Result.andThen_ok]
/-- the append of such a region -/
theorem oby_append {o : Oper} {a : Act} {w : World} {s i : Nat} {X : Nat → Prop} {R : Value → World → Prop} {Q : Exit → Act → World → Prop} (his : i = s) (sl x : Operand) {t t2 e : TypeId} (ho : o.op = .call { callee := .builtin .append, args := #[sl, x], argTypes := #[t, t2] }) (z : Value) (bts : Nat) (ht : Try.prog.underlying t = some (.slice e)) (ht2 : Try.prog.underlying t2 = some (.slice e))
    (hin : (Try.prog.info? e).map (fun i => (i.zero, i.size, i.bytes)) = some (some z, 1, bts)) (hzc : z.cells.size = 1) (V : Value) (n : Nat) (xs : List Value) (hs : a.eval sl = V) (hown : w.ownsRow 0 e 1 V n xs) (Y : Value) (ys : List Value) (hx : a.eval x = Y) (hY : LAt w Y ys) (h1 : ∀ u ∈ ys, u.oneCell' = true)
    (h63 : n + ys.length ≤ maxLen) (hb : ((n + ys.length) + (n + ys.length) / 4 + 192) * bts ≤ 281474976710656) (hX : ∀ k, V.ownBlock = some k → X k)
    (hR : ∀ V' w', w'.ownsRow 0 e 1 V' (n + ys.length) (xs ++ ys) → Here w V V' → R V' w') : o.wp Try.prog a w (fun a' w' => ∃ v, a' = a.put o.dst v ∧ (Below w.heap.size w w' ∨ (i = s ∧ FrP X w w')) ∧ R v w') Q := by
  obtain ⟨V', w', hr, h2, h3, h4, h5⟩ := run_append_lat w t e o.type z bts ht hin hzc 0 V n xs hown Y ys hY h1 h63 hb (Nat.zero_le _)
  obtain ⟨v1, v2, hV1⟩ := own_form hown
  obtain ⟨y1, y2, hY1, _⟩ := hY
  rw [hV1, hY1, ← append_ty ht ht2, ← hV1, ← hY1] at hr
  unfold Oper.wp execOp
  simp only [ho, resolve, invoke, builtin, Sem.run_bind, Sem.run_pure, Result.andThen_ok, List.map_toArray, List.map_cons, List.map_nil, hs, hx, hr]
  exact ⟨V', rfl, .inr ⟨his, ⟨h3.os, h3.tape, h3.output, h3.size, fun k hk hn => h3.block k hk (fun e => hn (hX k e.symm))⟩⟩, hR V' w' h2 h5⟩
theorem cell_frp {X : Nat → Prop} {w u : World} (h : FrP X w u) {b j : Nat} {v : Value} (hb : ¬ X b) (hc : w.cell? ⟨b, j, none⟩ = some v) : u.cell? ⟨b, j, none⟩ = some v := by
  have hl : b < w.heap.size := World.block_lt_of_cell? w _ hc
  have := h.block b hl hb
  simp only [World.cell?] at hc ⊢
  rw [this]
  exact hc
theorem lat_frp {X : Nat → Prop} {w u : World} (h : FrP X w u) {b n c : Nat} {xs : List Value} (hb : ¬ X b) (hc : LAt w (.slice (some ⟨b, 0, none⟩) n c) xs) : LAt u (.slice (some ⟨b, 0, none⟩) n c) xs := by
  obtain ⟨a', c', e, h1, h2, h3⟩ := hc
  refine ⟨a', c', e, h1, h2, ?_⟩
  rcases h3 with h3 | ⟨b', off, e2, hc⟩
  · exact .inl h3
  · refine .inr ⟨b', off, e2, fun k v hv => cell_frp h ?_ (hc k v hv)⟩
    rw [e2] at e
    cases e
    exact hb
end Go.Proofs.Ytclcpblpmfijiaa
