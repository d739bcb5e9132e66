/- Plain: what a follower holds of a disk. -/
import Derived.Test.YtpikepifhnkmkaaG18
import Derived.Test.YtpikepifhnkmkaaG28
namespace Fo
open Sf Ln Go.Proofs.Ytpikepifhnkmkaa

/-- the line under way stands behind a newline, or at the beginning -/
def Stands (f : Fo) (bs : List UInt8) : Prop := ∃ p r, bs = p ++ (f.k.u ++ r) ∧ (p.length : Int) = f.m.o ∧ (∀ c ∈ f.k.u, c ≠ 10) ∧ (p = [] ∨ p.getLast? = some 10)
theorem Stands.grow {f : Fo} {a b : List UInt8} (h : Stands f a) (hb : a <+: b) : Stands f b := by
  obtain ⟨p, r, e, h1, h2, h3⟩ := h
  obtain ⟨t, rfl⟩ := hb
  exact ⟨p, r ++ t, by rw [e]; simp, h1, h2, h3⟩
structure Inv (f : Fo) (d : Dk) : Prop where
  low : f.m.n ≤ d.hi
  some : f.m.n ≠ 0 → ∀ x, d.ino f.m.n.toNat = some x → f.m.g ≤ x.gen ∧ (f.m.g = x.gen → Stands f x.bs)
theorem Inv.grow {f : Fo} {d d' : Dk} {C : Nat} (h : Inv f d) (hk : f.Ok C) (hg : Grow d d') : Inv f d' := by
  have := hg.hi
  have h1 := h.low
  have h2 := hk.m.n
  refine ⟨by omega, fun hn x' hx' => ?_⟩
  obtain ⟨x, hx, hi⟩ := hg.grow _ x' hx' (by omega)
  obtain ⟨a, b⟩ := h.some hn x hx
  rcases hi with hi | ⟨hi, hp⟩
  · exact ⟨by omega, fun e => by omega⟩
  · exact ⟨by omega, fun e => (b (by omega)).grow hp⟩
theorem inv_hold {f : Fo} {d : Dk} {n g : Int} (hn : n ≤ d.hi) (hg : n ≠ 0 → ∀ x, d.ino n.toNat = Option.some x → g = x.gen) : Inv (f.hold n g) d :=
  ⟨hn, fun h x hx => ⟨by have := hg h x hx; show g ≤ _; omega, fun _ => ⟨[], x.bs, rfl, rfl, fun c hc => (by cases hc), .inl rfl⟩⟩⟩
theorem inv_take {f : Fo} {d : Dk} {K : Nat} (hw : Wf d K) : Inv (f.takeUp d) d := by
  have h2 := hw.numLe f.nm
  refine inv_hold (by omega) (fun _ x hx => ?_)
  rw [Int.toNat_natCast] at hx
  unfold genOf
  rw [hx]
theorem getLast_snoc (a : List UInt8) (c : UInt8) : (a ++ [c]).getLast? = some c := by simp
/-- what a read with a newline in it is -/
theorem nl_parts {b : List UInt8} (h : nl b < b.length) : b = b.take (nl b) ++ 10 :: b.drop (nl b + 1) ∧ (∀ c ∈ b.take (nl b), c ≠ 10) ∧ (b.take (nl b)).length = nl b := by
  have hl : (b.take (nl b)).length = nl b := by rw [List.length_take]; omega
  have hb : ∀ c ∈ b.take (nl b), c ≠ 10 := fun c hc => by
    obtain ⟨j, hj, e⟩ := List.getElem_of_mem hc
    have hj1 : j < nl b := by omega
    obtain ⟨d, h1, h2⟩ := nl_not b j hj1
    have : (b.take (nl b))[j]? = some c := by rw [List.getElem?_eq_getElem hj, e]
    rw [List.getElem?_take_of_lt hj1, h1] at this
    cases this
    exact h2
  refine ⟨?_, hb, hl⟩
  have h1 := List.take_append_drop (nl b) b
  have h2 : b.drop (nl b) = 10 :: b.drop (nl b + 1) := by
    rw [List.drop_eq_getElem_cons h]
    have := nl_at b h
    rw [List.getElem?_eq_getElem h] at this
    rw [Option.some.inj this]
  rw [h2] at h1
  exact h1.symm
theorem no_nl {b : List UInt8} (h : ¬ nl b < b.length) : ∀ c ∈ b, c ≠ 10 := fun c hc => by
  obtain ⟨j, hj, e⟩ := List.getElem_of_mem hc
  obtain ⟨d, h1, h2⟩ := nl_not b j (by omega)
  rw [List.getElem?_eq_getElem hj, e] at h1
  cases h1
  exact h2
theorem feed_nl {k : Mk} {b : List UInt8} (h : nl b < b.length) : (k.feed b).u = [] := by unfold Mk.feed; rw [if_pos h]; rfl
theorem feed_no {k : Mk} {b : List UInt8} (h : ¬ nl b < b.length) : (k.feed b).u = k.u ++ b := by unfold Mk.feed; rw [if_neg h]; rfl
theorem took_nl {b : List UInt8} (h : nl b < b.length) : took b = nl b + 1 := by unfold took; rw [if_pos h]
/-- a read, by the parts of the file -/
theorem got_parts {f : Fo} {x : Ino} (h : Stands f x.bs) : ∃ p r r', x.bs = p ++ (f.k.u ++ r) ∧ (p.length : Int) = f.m.o ∧ (∀ c ∈ f.k.u, c ≠ 10) ∧ (p = [] ∨ p.getLast? = some 10) ∧ f.got x = r.take f.ck ∧ r = f.got x ++ r' := by
  obtain ⟨p, r, e, h1, h2, h3⟩ := h
  have hg : f.got x = r.take f.ck := by
    unfold Fo.got
    have e2 : (f.m.o + f.k.u.length).toNat = p.length + f.k.u.length := by omega
    rw [e2, e, ← List.append_assoc, List.drop_append_of_le_length (by simp), List.drop_of_length_le (by simp), List.nil_append]
  exact ⟨p, r, r.drop f.ck, e, h1, h2, h3, hg, by rw [hg, List.take_append_drop]⟩
theorem on_m {f : Fo} {b : List UInt8} : (f.on b).m.n = f.m.n ∧ (f.on b).m.g = f.m.g ∧ (f.on b).m.s = f.m.s ∧ (f.on b).k = f.k.feed b ∧ (f.on b).m.o = if nl b < b.length then f.m.o + f.k.u.length + took b else f.m.o := by
  unfold Fo.on
  by_cases h : nl b < b.length
  · rw [if_pos h, if_pos h]
    split <;> exact ⟨rfl, rfl, rfl, rfl, rfl⟩
  · rw [if_neg h, if_neg h]
    exact ⟨rfl, rfl, rfl, rfl, rfl⟩
theorem stands_on {f : Fo} {x : Ino} (h : Stands f x.bs) : Stands (f.on (f.got x)) x.bs := by
  obtain ⟨p, r, r', e, h1, h2, h3, hg, hr⟩ := got_parts h
  obtain ⟨b, hbe⟩ : ∃ b, f.got x = b := ⟨_, rfl⟩
  rw [hbe] at hr ⊢
  obtain ⟨o1, o2, o3, o4, o5⟩ := on_m (f := f) (b := b)
  unfold Stands
  rw [o4, o5]
  by_cases hn : nl b < b.length
  · obtain ⟨n1, n2, n3⟩ := nl_parts hn
    rw [if_pos hn, feed_nl hn, took_nl hn]
    refine ⟨p ++ (f.k.u ++ (b.take (nl b) ++ [10])), b.drop (nl b + 1) ++ r', ?_, ?_, fun c hc => (by cases hc), .inr ?_⟩
    · rw [e, hr, List.nil_append]
      conv => lhs; rw [n1]
      simp only [List.append_assoc, List.cons_append, List.nil_append]
    · simp only [List.length_append, n3, List.length_cons, List.length_nil]
      omega
    · rw [show p ++ (f.k.u ++ (b.take (nl b) ++ [10])) = (p ++ (f.k.u ++ b.take (nl b))) ++ [10] by simp]
      exact getLast_snoc _ _
  · rw [if_neg hn, feed_no hn]
    refine ⟨p, r', by rw [e, hr]; simp, h1, fun c hc => ?_, h3⟩
    rcases List.mem_append.1 hc with hc | hc
    · exact h2 c hc
    · exact no_nl hn c hc
theorem inv_step {f : Fo} {d : Dk} {K : Nat} (h : Inv f d) (hw : Wf d K) : Inv (f.step d) d := by
  unfold Fo.step
  split
  · split
    · exact inv_take hw
    · exact h
  · rename_i hn
    split
    · exact inv_hold (by omega) (fun e => absurd rfl e)
    · rename_i x hx
      obtain ⟨a1, a2, a3, a4, a5⟩ := inoZ_wf hw hx
      split
      · refine inv_hold h.low (fun _ y hy => ?_)
        rw [a3] at hy
        cases hy
        rfl
      · rename_i hge
        split
        · rename_i hb
          obtain ⟨o1, o2, o3, o4, o5⟩ := on_m (f := f) (b := f.got x)
          refine ⟨by rw [o1]; exact h.low, fun hn y hy => ?_⟩
          rw [o1] at hn hy
          rw [a3] at hy
          cases hy
          obtain ⟨b1, b2⟩ := h.some hn x a3
          rw [o2]
          exact ⟨b1, fun e => stands_on (b2 e)⟩
        · split
          · exact inv_take hw
          · exact h
/-- A LINE THAT IS ANSWERED -/
theorem line_stands {f : Fo} {d : Dk} {K : Nat} {t : List UInt8} (h : Inv f d) (hw : Wf d K) (hl : f.line d = some t) :
    ∃ x, d.ino f.m.n.toNat = some x ∧ (x.gen : Int) = f.m.g ∧ (x.bs.drop f.m.o.toNat).take (t.length + 1) = t ++ [10] ∧ (∀ c ∈ t, c ≠ 10) ∧ (f.m.o = 0 ∨ (x.bs.drop (f.m.o - 1).toNat).take 1 = [10]) ∧ t.length ≤ f.k.most ∧ (f.step d).m.o = f.m.o + t.length + 1 ∧ (f.step d).m.s = f.m.s ∧ (f.step d).m.n = f.m.n ∧ (f.step d).m.g = f.m.g ∧ f.m.n ≠ 0 := by
  unfold Fo.line at hl
  by_cases hn : f.m.n = 0
  · rw [if_pos hn] at hl; cases hl
  rw [if_neg hn] at hl
  cases hx : inoZ d f.m.n with
  | none => rw [hx] at hl; cases hl
  | some x =>
    have hst : f.step d = if (x.gen : Int) ≠ f.m.g then f.cut x.gen else if f.got x ≠ [] then f.on (f.got x) else if further f d then f.tail.takeUp d else f := by
      unfold Fo.step; rw [if_neg hn, hx]
    rw [hx] at hl
    simp only at hl
    obtain ⟨a1, a2, a3, a4, a5⟩ := inoZ_wf hw hx
    by_cases hg : (x.gen : Int) ≠ f.m.g
    · rw [if_pos hg] at hl; cases hl
    rw [if_neg hg] at hl hst
    by_cases hb : f.got x ≠ [] ∧ f.k.whole (f.got x) = true
    · rw [if_pos hb] at hl
      rw [if_pos hb.1] at hst
      have hl := Option.some.inj hl
      have hge : (x.gen : Int) = f.m.g := Classical.byContradiction fun e => hg e
      obtain ⟨p, r, r', e, h1, h2, h3, hgt, hr⟩ := got_parts ((h.some hn x a3).2 hge.symm)
      obtain ⟨o1, o2, o3, o4, o5⟩ := on_m (f := f) (b := f.got x)
      rw [hst]
      rw [o1, o2, o3, o5]
      obtain ⟨b, hbe⟩ : ∃ b, f.got x = b := ⟨_, rfl⟩
      rw [hbe] at hb hl hr ⊢
      have hwh := hb.2
      unfold Mk.whole at hwh
      rw [Bool.and_eq_true, decide_eq_true_eq, decide_eq_true_eq] at hwh
      obtain ⟨n1, n2, n3⟩ := nl_parts hwh.1
      have ht : t = f.k.u ++ b.take (nl b) := by
        rw [← hl]
        unfold Mk.text
        rw [if_pos hwh.1]
        exact Mk.held_yes (m := f.k.goOn (b.take (nl b))) (by show (f.k.u ++ b.take (nl b)).length ≤ f.k.most; rw [List.length_append, n3]; exact hwh.2)
      have htl : t.length = f.k.u.length + nl b := by rw [ht, List.length_append, n3]
      have eb : x.bs = p ++ (t ++ (10 :: (b.drop (nl b + 1) ++ r'))) := by
        rw [e, hr, ht]
        conv => lhs; rw [n1]
        simp only [List.append_assoc, List.cons_append]
      have ep : f.m.o.toNat = p.length := by omega
      refine ⟨x, a3, hge, ?_, fun c hc => ?_, ?_, ?_, ?_, rfl, rfl, rfl, hn⟩
      · rw [ep, eb, List.drop_left, show t ++ 10 :: (b.drop (nl b + 1) ++ r') = (t ++ [10]) ++ (b.drop (nl b + 1) ++ r') by simp, List.take_append_of_le_length (by simp), List.take_of_length_le (by simp)]
      · rw [ht] at hc
        rcases List.mem_append.1 hc with hc | hc
        · exact h2 c hc
        · exact n2 c hc
      · rcases h3 with h3 | h3
        · left
          rw [h3] at h1
          exact h1.symm
        · right
          have hpl : p ≠ [] := fun e => by rw [e] at h3; cases h3
          obtain ⟨q, c, rfl⟩ : ∃ q c, p = q ++ [c] := ⟨p.dropLast, p.getLast hpl, (List.dropLast_concat_getLast hpl).symm⟩
          rw [getLast_snoc] at h3
          cases h3
          have : (f.m.o - 1).toNat = q.length := by simp at h1; omega
          rw [this, eb, List.append_assoc, List.drop_left]
          rfl
      · rw [htl]; exact hwh.2
      · rw [if_pos hwh.1, took_nl hwh.1, htl]
        omega
    · rw [if_neg hb] at hl; cases hl
/-! ### places rise -/
def lt3 (a b : Mrk) : Prop := a.s < b.s ∨ (a.s = b.s ∧ (a.g < b.g ∨ (a.g = b.g ∧ a.o < b.o)))
def Behind (f : Fo) (l : Mrk) : Prop := (f.m.n ≠ 0 → lt3 l f.m) ∧ l.s ≤ f.m.s
theorem behind_step {f : Fo} {d : Dk} {K : Nat} {l : Mrk} (hb : Behind f l) (h : Inv f d) (hw : Wf d K) : Behind (f.step d) l := by
  obtain ⟨b1, b2⟩ := hb
  have htake : ∀ g : Fo, g.m.s = f.m.s → g.nm = f.nm → further f d = true → Behind (g.takeUp d) l := fun g e1 e2 hf => by
    have := (further_iff.1 hf).2
    refine ⟨fun _ => .inl ?_, ?_⟩
    · show l.s < (ser d g.nm : Int); rw [e2]; omega
    · show l.s ≤ (ser d g.nm : Int); rw [e2]; omega
  unfold Fo.step
  split
  · split
    · rename_i hf; exact htake f rfl rfl hf
    · exact ⟨b1, b2⟩
  · rename_i hn
    split
    · exact ⟨fun e => absurd rfl e, b2⟩
    · rename_i x hx
      obtain ⟨a1, a2, a3, a4, a5⟩ := inoZ_wf hw hx
      obtain ⟨c1, c2⟩ := h.some hn x a3
      split
      · rename_i hg
        refine ⟨fun _ => ?_, b2⟩
        rcases b1 hn with z | ⟨z, z2⟩
        · exact .inl z
        · refine .inr ⟨z, .inl ?_⟩
          show l.g < (x.gen : Int)
          rcases z2 with z2 | z2 <;> omega
      · split
        · rename_i hb
          obtain ⟨o1, o2, o3, o4, o5⟩ := on_m (f := f) (b := f.got x)
          refine ⟨fun _ => ?_, by rw [o3]; exact b2⟩
          have ho : f.m.o ≤ (f.on (f.got x)).m.o := by rw [o5]; split <;> omega
          unfold lt3
          rw [o3, o2]
          rcases b1 hn with z | ⟨z, z2⟩
          · exact .inl z
          · refine .inr ⟨z, ?_⟩
            rcases z2 with z2 | z2
            · exact .inl z2
            · exact .inr ⟨z2.1, by omega⟩
        · split
          · rename_i hf
            have e : f.tail.m.s = f.m.s ∧ f.tail.nm = f.nm := by unfold Fo.tail; split <;> exact ⟨rfl, rfl⟩
            exact htake f.tail e.1 e.2 hf
          · exact ⟨b1, b2⟩
theorem behind_line {f : Fo} {d : Dk} {K : Nat} {t : List UInt8} (h : Inv f d) (hw : Wf d K) (hl : f.line d = some t) : Behind (f.step d) f.m := by
  obtain ⟨x, _, _, _, _, _, _, h1, h2, h3, h4, h5⟩ := line_stands h hw hl
  exact ⟨fun _ => .inr ⟨h2.symm, .inr ⟨h4.symm, by omega⟩⟩, by omega⟩
/-! ### losses never fall -/
def Lle (a b : Mrk) : Prop := a.ms ≤ b.ms ∧ a.gn ≤ b.gn ∧ a.ct ≤ b.ct ∧ a.tl ≤ b.tl ∧ a.lg ≤ b.lg
theorem Lle.refl (a : Mrk) : Lle a a := ⟨Int.le_refl _, Int.le_refl _, Int.le_refl _, Int.le_refl _, Int.le_refl _⟩
theorem lle_step {f : Fo} {d : Dk} {C : Nat} (hk : f.Ok C) : Lle f.m (f.step d).m := by
  have r0 := Int.le_refl (0 : Int)
  have htake : ∀ g : Fo, g.m.s = f.m.s → g.nm = f.nm → g.m.ms = f.m.ms → further f d = true → g.m.ms ≤ (g.takeUp d).m.ms := fun g e1 e2 e3 hf => by
    have := (further_iff.1 hf).2
    show g.m.ms ≤ raise g.m.ms ((ser d g.nm : Int) - g.m.s - 1)
    rw [e3, e2, e1]
    exact (raise_in hk.m.ms (by omega)).2.2
  unfold Fo.step
  split
  · split
    · rename_i hf; exact ⟨htake f rfl rfl rfl hf, Int.le_refl _, Int.le_refl _, Int.le_refl _, Int.le_refl _⟩
    · exact Lle.refl _
  · split
    · exact ⟨Int.le_refl _, (raise_in hk.m.gn (k := 1) (by decide)).2.2, Int.le_refl _, Int.le_refl _, Int.le_refl _⟩
    · rename_i x hx
      split
      · exact ⟨Int.le_refl _, Int.le_refl _, (raise_in hk.m.ct (k := max ((x.gen : Int) - f.m.g) 0) (by omega)).2.2, Int.le_refl _, Int.le_refl _⟩
      · split
        · unfold Fo.on
          split
          · split
            · exact Lle.refl _
            · exact ⟨Int.le_refl _, Int.le_refl _, Int.le_refl _, Int.le_refl _, (raise_in hk.m.lg (k := 1) (by decide)).2.2⟩
          · exact Lle.refl _
        · split
          · rename_i hf
            have e : f.tail.m.s = f.m.s ∧ f.tail.nm = f.nm ∧ f.tail.m.ms = f.m.ms ∧ f.tail.m.gn = f.m.gn ∧ f.tail.m.ct = f.m.ct ∧ f.m.tl ≤ f.tail.m.tl ∧ f.tail.m.lg = f.m.lg := by
              unfold Fo.tail
              split
              · exact ⟨rfl, rfl, rfl, rfl, rfl, (raise_in hk.m.tl (k := 1) (by decide)).2.2, rfl⟩
              · exact ⟨rfl, rfl, rfl, rfl, rfl, Int.le_refl _, rfl⟩
            obtain ⟨e1, e2, e3, e4, e5, e6, e7⟩ := e
            have := htake f.tail e1 e2 e3 hf
            refine ⟨by rw [← e3]; exact this, ?_, ?_, ?_, ?_⟩
            · show f.m.gn ≤ f.tail.m.gn; omega
            · show f.m.ct ≤ f.tail.m.ct; omega
            · exact e6
            · show f.m.lg ≤ f.tail.m.lg; omega
          · exact Lle.refl _
end Fo
