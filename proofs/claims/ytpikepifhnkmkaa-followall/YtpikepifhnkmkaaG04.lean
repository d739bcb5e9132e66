/- A disk in memory: labels and inodes that are changed, that come and go. -/
import Derived.Test.YtpikepifhnkmkaaG03
namespace Go.Proofs.Ytpikepifhnkmkaa
open Go.RowKit Go.Maps Sf

section
variable {P : Nat → Prop} {w u : World} {B : Nat} {d : Dk} {L : Lay}
theorem more_low (h : DkAt P w B d L) (hs : w.heap.size ≤ u.heap.size) : ∀ k, More P w u k → k < u.heap.size := fun k hp => by
  rcases hp with hp | hp
  · exact Nat.lt_of_lt_of_le (h.low k hp) hs
  · exact hp.2
/-- A LABEL IS CHANGED. -/
theorem DkAt.putL {s : ByteArray} {q q' : Nat × Nat} (h : DkAt P w B d L) (hq : d.lab s = some q) (hl : LabAt u (L.an s) q') (hfr : FrP (fun k => k = L.an s) w u) : DkAt (More P w u) u B (Sf.putL d s q'.1 q'.2) L := by
  have hL := h.lb s q hq
  have ne : ∀ {t : TypeId} {k : Nat}, TyB w t k → t ≠ 82 → u.heap[k]? = w.heap[k]? := fun {t k} hk h1 => by
    obtain ⟨c, z, hc⟩ := hk
    refine hfr.block k (Array.getElem?_eq_some_iff.1 hc).1 ?_
    rintro e
    subst e; exact h1 (TyB.ne ⟨c, z, hc⟩ hL.ty)
  have nm : ∀ {k : Nat} {es : Array MapEntry} {c : Nat}, w.heap[k]? = some (.map es c) → u.heap[k]? = w.heap[k]? := fun {k es c} hk => by
    refine hfr.block k (Array.getElem?_eq_some_iff.1 hk).1 ?_
    rintro e
    subst e; exact map_ty hk hL.ty
  have hin : L.lab (Sf.putL d s q'.1 q'.2) = L.lab d := by
    funext t
    unfold Lay.lab Sf.putL
    by_cases e : t = s
    · subst e; simp [hq]
    · simp [e]
  have hlab : ∀ {t : ByteArray} {r : Nat × Nat}, (Sf.putL d s q'.1 q'.2).lab t = some r → ∃ r0, d.lab t = some r0 := fun {t r} hr => by
    by_cases e : t = s
    · subst e; exact ⟨q, hq⟩
    · exact ⟨r, by simpa [Sf.putL, e] using hr⟩
  refine ⟨(ne h.tyB (by decide)).trans h.db, ?_, ?_, fun m g hg => ?_, fun t r hr => ?_, ⟨.inl h.pB.1, .inl h.pB.2.1, .inl h.pB.2.2⟩, fun m g hg => ⟨.inl (h.pI m g hg).1, fun b hb => .inl ((h.pI m g hg).2 b hb)⟩, fun t r hr => ?_, more_low h hfr.size, h.aI, fun t t' r r' hr hr' => ?_, h.mm⟩
  · obtain ⟨es, c, hm⟩ := h.im.isMap
    exact h.im.same (nm hm)
  · rw [hin]
    obtain ⟨es, c, hm⟩ := h.nm.isMap
    exact h.nm.same (nm hm)
  · have hm := h.ib m g hg
    exact hm.keep (ne hm.ty (by decide)) (fun b hb _ => ne (hm.v.ty hb).1 (by decide))
  · by_cases e : t = s
    · subst e
      simp [Sf.putL] at hr
      subst hr
      exact hl
    · have hr : d.lab t = some r := by simpa [Sf.putL, e] using hr
      exact (hfr.block _ (h.lb t r hr).lt (fun x => h.aL t s r q hr hq e x)).trans (h.lb t r hr)
  · obtain ⟨r0, e0⟩ := hlab hr
    exact .inl (h.pL t r0 e0)
  · obtain ⟨r0, e0⟩ := hlab hr
    obtain ⟨r1, e1⟩ := hlab hr'
    exact h.aL t t' r0 r1 e0 e1
/-- A LABEL COMES. -/
theorem DkAt.addL {s : ByteArray} {q : Nat × Nat} {a : Nat} (h : DkAt P w B d L) (hq : d.lab s = none) (hl : LabAt u a q) (ha : w.heap.size ≤ a) (hm : MapB 9 kvS goodS (.pointer none) u L.mn (L.cn + 1) (fun t => if t = s then some (.pointer (some ⟨a, 0, none⟩)) else L.lab d t)) (hfr : FrP (fun k => k = L.mn) w u) :
    DkAt (More P w u) u B (Sf.putL d s q.1 q.2) { L with cn := L.cn + 1, an := fun t => if t = s then a else L.an t } := by
  have ne : ∀ {t : TypeId} {k : Nat}, TyB w t k → u.heap[k]? = w.heap[k]? := fun {t k} hk => by
    obtain ⟨c, z, hc⟩ := hk
    refine hfr.block k (Array.getElem?_eq_some_iff.1 hc).1 ?_
    rintro e
    subst e
    obtain ⟨es, c', hm'⟩ := h.nm.isMap
    exact map_ty hm' ⟨c, z, hc⟩
  have hin : ({ L with cn := L.cn + 1, an := fun t => if t = s then a else L.an t } : Lay).lab (Sf.putL d s q.1 q.2) = fun t => if t = s then some (.pointer (some ⟨a, 0, none⟩)) else L.lab d t := by
    funext t
    unfold Lay.lab Sf.putL
    by_cases e : t = s
    · subst e; simp
    · simp [e]
  have hne : ∀ {t : ByteArray} {r : Nat × Nat}, (Sf.putL d s q.1 q.2).lab t = some r → t ≠ s → d.lab t = some r := fun {t r} hr e => by simpa [Sf.putL, e] using hr
  refine ⟨(ne h.tyB).trans h.db, ?_, ?_, fun m g hg => ?_, fun t r hr => ?_, ⟨.inl h.pB.1, .inl h.pB.2.1, .inl h.pB.2.2⟩, fun m g hg => ⟨.inl (h.pI m g hg).1, fun b hb => .inl ((h.pI m g hg).2 b hb)⟩, fun t r hr => ?_, more_low h hfr.size, h.aI, fun t t' r r' hr hr' hd => ?_, h.mm⟩
  · exact h.im.same (hfr.block _ h.im.lt h.mm)
  · rw [hin]; exact hm
  · have hm := h.ib m g hg
    exact hm.keep (ne hm.ty) (fun b hb _ => ne (hm.v.ty hb).1)
  · by_cases e : t = s
    · subst e
      simp [Sf.putL] at hr
      subst hr
      simpa using hl
    · simp only [if_neg e]
      exact (ne (h.lb t r (hne hr e)).ty).trans (h.lb t r (hne hr e))
  · by_cases e : t = s
    · simp only [if_pos e]
      exact .inr ⟨ha, hl.lt⟩
    · simp only [if_neg e]
      exact .inl (h.pL t r (hne hr e))
  · by_cases e : t = s
    · have e' : t' ≠ s := fun x => hd (e.trans x.symm)
      simp only [if_pos e, if_neg e']
      have := (h.lb t' r' (hne hr' e')).lt
      omega
    · by_cases e' : t' = s
      · simp only [if_neg e, if_pos e']
        have := (h.lb t r (hne hr e)).lt
        omega
      · simp only [if_neg e, if_neg e']
        exact h.aL t t' r r' (hne hr e) (hne hr' e') hd
/-- AN INODE COMES. -/
theorem DkAt.addI {n : Nat} {f : Ino} {a : Nat} {V : Value} (h : DkAt P w B d L) (hn : d.ino n = none) (hi : InoAt u a n f V) (ha : w.heap.size ≤ a) (hv : ∀ b, V.ownBlock = some b → w.heap.size ≤ b) (hm : MapB 3 kvI goodI (.pointer none) u L.mi (L.ci + 1) (fun z : Int => if z = (n : Int) then some (.pointer (some ⟨a, 0, none⟩)) else L.ino d z)) (hfr : FrP (fun k => k = L.mi) w u) :
    DkAt (More P w u) u B (Sf.putI d n (some f)) { L with ci := L.ci + 1, ai := fun m => if m = n then a else L.ai m, vi := fun m => if m = n then V else L.vi m } := by
  have ne : ∀ {t : TypeId} {k : Nat}, TyB w t k → u.heap[k]? = w.heap[k]? := fun {t k} hk => by
    obtain ⟨c, z, hc⟩ := hk
    refine hfr.block k (Array.getElem?_eq_some_iff.1 hc).1 ?_
    rintro e
    subst e
    obtain ⟨es, c', hm'⟩ := h.im.isMap
    exact map_ty hm' ⟨c, z, hc⟩
  have hin : ({ L with ci := L.ci + 1, ai := fun m => if m = n then a else L.ai m, vi := fun m => if m = n then V else L.vi m } : Lay).ino (Sf.putI d n (some f)) = fun z : Int => if z = (n : Int) then some (.pointer (some ⟨a, 0, none⟩)) else L.ino d z := by
    funext z
    unfold Lay.ino Sf.putI
    by_cases e : z = (n : Int)
    · subst e; simp
    · by_cases hz : 0 ≤ z
      · have e2 : z.toNat ≠ n := by omega
        simp [e, e2, hz]
      · simp [e, hz]
  have hne : ∀ {m : Nat} {g : Ino}, (Sf.putI d n (some f)).ino m = some g → m ≠ n → d.ino m = some g := fun {m g} hr e => by simpa [Sf.putI, e] using hr
  refine ⟨(ne h.tyB).trans h.db, ?_, ?_, fun m g hg => ?_, fun t r hr => (ne (h.lb t r hr).ty).trans (h.lb t r hr), ⟨.inl h.pB.1, .inl h.pB.2.1, .inl h.pB.2.2⟩, fun m g hg => ?_, fun t r hr => .inl (h.pL t r hr), more_low h hfr.size, fun m k g g' hg hg' hd => ?_, h.aL, h.mm⟩
  · rw [hin]; exact hm
  · exact h.nm.same (hfr.block _ h.nm.lt (fun e => h.mm e.symm))
  · by_cases e : m = n
    · subst e
      simp [Sf.putI] at hg
      subst hg
      simpa using hi
    · have hm := h.ib m g (hne hg e)
      simp only [if_neg e]
      exact hm.keep (ne hm.ty) (fun b hb _ => ne (hm.v.ty hb).1)
  · by_cases e : m = n
    · simp only [if_pos e]
      exact ⟨.inr ⟨ha, hi.lt⟩, fun b hb => .inr ⟨hv b hb, (hi.v.ty hb).2⟩⟩
    · simp only [if_neg e]
      exact ⟨.inl (h.pI m g (hne hg e)).1, fun b hb => .inl ((h.pI m g (hne hg e)).2 b hb)⟩
  · by_cases e : m = n
    · have e' : k ≠ n := fun x => hd (e.trans x.symm)
      simp only [if_pos e, if_neg e']
      have h2 := h.ib k g' (hne hg' e')
      refine ⟨by have := h2.lt; omega, fun b hb hb2 => ?_⟩
      have := hv b hb
      have := (h2.v.ty hb2).2
      omega
    · by_cases e' : k = n
      · simp only [if_neg e, if_pos e']
        have h2 := h.ib m g (hne hg e)
        refine ⟨by have := h2.lt; omega, fun b hb hb2 => ?_⟩
        have := hv b hb2
        have := (h2.v.ty hb).2
        omega
      · simp only [if_neg e, if_neg e']
        exact h.aI m k g g' (hne hg e) (hne hg' e') hd
/-- AN INODE GOES. -/
theorem DkAt.delI {n : Nat} (h : DkAt P w B d L) (hm : MapB 3 kvI goodI (.pointer none) u L.mi L.ci (fun z : Int => if z = (n : Int) then none else L.ino d z)) (hfr : FrP (fun k => k = L.mi) w u) :
    DkAt (More P w u) u B (Sf.putI d n none) L := by
  have ne : ∀ {t : TypeId} {k : Nat}, TyB w t k → u.heap[k]? = w.heap[k]? := fun {t k} hk => by
    obtain ⟨c, z, hc⟩ := hk
    refine hfr.block k (Array.getElem?_eq_some_iff.1 hc).1 ?_
    rintro e
    subst e
    obtain ⟨es, c', hm'⟩ := h.im.isMap
    exact map_ty hm' ⟨c, z, hc⟩
  have hin : L.ino (Sf.putI d n none) = fun z : Int => if z = (n : Int) then none else L.ino d z := by
    funext z
    unfold Lay.ino Sf.putI
    by_cases e : z = (n : Int)
    · subst e; simp
    · by_cases hz : 0 ≤ z
      · have e2 : z.toNat ≠ n := by omega
        simp [e, e2, hz]
      · simp [e, hz]
  have hne : ∀ {m : Nat} {g : Ino}, (Sf.putI d n none).ino m = some g → d.ino m = some g := fun {m g} hr => by
    by_cases e : m = n
    · subst e; simp [Sf.putI] at hr
    · simpa [Sf.putI, e] using hr
  refine ⟨(ne h.tyB).trans h.db, by rw [hin]; exact hm, h.nm.same (hfr.block _ h.nm.lt (fun e => h.mm e.symm)), fun m g hg => ?_, fun t r hr => (ne (h.lb t r hr).ty).trans (h.lb t r hr), ⟨.inl h.pB.1, .inl h.pB.2.1, .inl h.pB.2.2⟩, fun m g hg => ⟨.inl (h.pI m g (hne hg)).1, fun b hb => .inl ((h.pI m g (hne hg)).2 b hb)⟩, fun t r hr => .inl (h.pL t r hr), more_low h hfr.size, fun m k g g' hg hg' hd => h.aI m k g g' (hne hg) (hne hg') hd, h.aL, h.mm⟩
  have hm := h.ib m g (hne hg)
  exact hm.keep (ne hm.ty) (fun b hb _ => ne (hm.v.ty hb).1)
/-- the highest number rises -/
theorem DkAt.up (h : DkAt P w B d L) : DkAt P (w.setCell ⟨B, 0, none⟩ (.int .i64 ((d.hi + 1 : Nat) : Nat))) B (Sf.up d) L := by
  have e : ∀ k, k ≠ B → (w.setCell ⟨B, 0, none⟩ (.int .i64 ((d.hi + 1 : Nat) : Nat))).heap[k]? = w.heap[k]? := fun k hk => Below.heap_setCell w ⟨B, 0, none⟩ _ k hk
  have ne : ∀ {t : TypeId} {k : Nat}, TyB w t k → t ≠ 62 → (w.setCell ⟨B, 0, none⟩ (.int .i64 ((d.hi + 1 : Nat) : Nat))).heap[k]? = w.heap[k]? := fun {t k} hk h1 => e k (fun x => by subst x; exact h1 (TyB.ne hk h.tyB))
  have nm : ∀ {k : Nat} {es : Array MapEntry} {c : Nat}, w.heap[k]? = some (.map es c) → (w.setCell ⟨B, 0, none⟩ (.int .i64 ((d.hi + 1 : Nat) : Nat))).heap[k]? = w.heap[k]? := fun {k es c} hk => e k (fun x => by subst x; exact map_ty hk h.tyB)
  refine ⟨by rw [heap_set h.db]; simp [Sf.up], ?_, ?_, fun m g hg => ?_, fun t r hr => (ne (h.lb t r hr).ty (by decide)).trans (h.lb t r hr), h.pB, h.pI, h.pL, fun k hp => by have := h.low k hp; simpa using this, h.aI, h.aL, h.mm⟩
  · obtain ⟨es, c, hm⟩ := h.im.isMap
    exact h.im.same (nm hm)
  · obtain ⟨es, c, hm⟩ := h.nm.isMap
    exact h.nm.same (nm hm)
  · have hm := h.ib m g hg
    exact hm.keep (ne hm.ty (by decide)) (fun b hb _ => ne (hm.v.ty hb).1 (by decide))
end
end Go.Proofs.Ytpikepifhnkmkaa
