/- A disk in memory: its block, two maps, inodes with their bytes, labels. -/
import Derived.Test.YtpikepifhnkmkaaG01
import Derived.Test.YtpikepifhnkmkaaG02
namespace Go.Proofs.Ytpikepifhnkmkaa
open Go.RowKit Go.Maps Sf

/-! ### all but some blocks stand -/
structure FrP (Q : Nat → Prop) (w u : World) : Prop where
  os : u.os = w.os
  tape : u.tape = w.tape
  output : u.output = w.output
  size : w.heap.size ≤ u.heap.size
  block : ∀ k, k < w.heap.size → ¬ Q k → u.heap[k]? = w.heap[k]?
section
variable {Q Q' : Nat → Prop} {w u v : World}
theorem FrP.refl (Q : Nat → Prop) (w : World) : FrP Q w w := ⟨rfl, rfl, rfl, Nat.le_refl _, fun _ _ _ => rfl⟩
theorem FrP.mono (h : FrP Q w u) (hq : ∀ k, k < w.heap.size → Q k → Q' k) : FrP Q' w u := ⟨h.os, h.tape, h.output, h.size, fun k hk hn => h.block k hk (fun e => hn (hq k hk e))⟩
theorem FrP.trans (h : FrP Q w u) (h2 : FrP Q' u v) (hq : ∀ k, k < w.heap.size → Q' k → Q k) : FrP Q w v :=
  ⟨h2.os.trans h.os, h2.tape.trans h.tape, h2.output.trans h.output, Nat.le_trans h.size h2.size, fun k hk hn => (h2.block k (Nat.lt_of_lt_of_le hk h.size) (fun e => hn (hq k hk e))).trans (h.block k hk hn)⟩
theorem FrP.below (h : FrP Q w u) (h2 : Below u.heap.size u v) : FrP Q w v :=
  ⟨h2.os.trans h.os, h2.tape.trans h.tape, h2.output.trans h.output, Nat.le_trans h.size h2.size, fun k hk hn => (h2.block k (Nat.lt_of_lt_of_le hk h.size)).trans (h.block k hk hn)⟩
theorem FrP.of_below (Q : Nat → Prop) (h : Below w.heap.size w u) : FrP Q w u := (FrP.refl Q w).below h
theorem FrP.set (h : FrP Q w u) {a : Nat} (ha : a < w.heap.size → Q a) (j : Nat) (x : Value) : FrP Q w (u.setCell ⟨a, j, none⟩ x) :=
  ⟨h.os, h.tape, h.output, by have := h.size; simpa using this, fun k hk hn => (Below.heap_setCell u ⟨a, j, none⟩ x k (fun e => hn (by subst e; exact ha hk))).trans (h.block k hk hn)⟩
theorem FrP.grown (h : FrP Q w u) {q : Option Nat} (h2 : u.grownBy v q) (hq : ∀ k, k < w.heap.size → q = some k → Q k) : FrP Q w v :=
  ⟨h2.os.trans h.os, h2.tape.trans h.tape, h2.output.trans h.output, Nat.le_trans h.size h2.size, fun k hk hn => (h2.block k (Nat.lt_of_lt_of_le hk h.size) (fun e => hn (hq k hk e.symm))).trans (h.block k hk hn)⟩
theorem FrP.toBelow (h : FrP (fun _ => False) w u) : Below w.heap.size w u := ⟨h.os, h.tape, h.output, h.size, fun k hk => h.block k hk id⟩
end
/-! ### bytes, inodes, labels -/
def uv (l : List UInt8) : List Value := l.map fun b => Value.int .u8 (b.toNat : Nat)
theorem uv_len (l : List UInt8) : (uv l).length = l.length := by simp [uv]
theorem uv_app (l m : List UInt8) : uv (l ++ m) = uv l ++ uv m := by simp [uv]
theorem uv_one (l : List UInt8) : ∀ u ∈ uv l, u.oneCell' = true := fun u hu => by obtain ⟨z, _, rfl⟩ := List.mem_map.1 hu; rfl
theorem uv_take (l : List UInt8) (n : Nat) : uv (l.take n) = (uv l).take n := by simp [uv, List.map_take]
theorem uv_drop (l : List UInt8) (n : Nat) : uv (l.drop n) = (uv l).drop n := by simp [uv, List.map_drop]
def inoC (n : Nat) (f : Ino) (V : Value) : Array Value := #[.int .i64 (n : Nat), .string f.nm, .int .i64 (f.gen : Nat), V, .int .i64 (f.ls : Nat)]
def labC (q : Nat × Nat) : Array Value := #[.int .i64 (q.1 : Nat), .int .i64 (q.2 : Nat)]
def OwnB (w : World) (V : Value) (l : List UInt8) : Prop := w.ownsRow 0 5 1 V l.length (uv l)
/-- block a is inode n -/
structure InoAt (w : World) (a n : Nat) (f : Ino) (V : Value) : Prop where
  b : w.heap[a]? = some (.cells (inoC n f V) 86 (0, 0))
  v : OwnB w V f.bs
def LabAt (w : World) (a : Nat) (q : Nat × Nat) : Prop := w.heap[a]? = some (.cells (labC q) 82 (0, 0))
section
variable {w u : World} {a n : Nat} {f : Ino} {V : Value} {q : Nat × Nat} {l : List UInt8}
theorem OwnB.keep (h : OwnB w V l) (hk : ∀ b, V.ownBlock = some b → b < w.heap.size → u.heap[b]? = w.heap[b]?) : OwnB u V l := ownsRow_keep h (fun b hb _ hl => hk b hb hl)
theorem OwnB.ty (h : OwnB w V l) {b : Nat} (hb : V.ownBlock = some b) : TyB w 5 b ∧ b < w.heap.size := by
  rcases h.2 with ⟨rfl, _⟩ | ⟨g, cap, cur, rfl, _, hg, _⟩
  · simp [Value.ownBlock] at hb
  · simp [Value.ownBlock] at hb
    subst hb
    exact ⟨⟨_, _, hg⟩, (Array.getElem?_eq_some_iff.1 hg).1⟩
theorem OwnB.form (h : OwnB w V l) : ∃ a c, V = .slice a l.length c ∧ l.length ≤ c ∧ c ≤ 9223372036854775807 := by
  obtain ⟨a, c, e, h1, h2, _⟩ := owns_lat h
  rw [uv_len] at e h1
  exact ⟨a, c, e, h1, h2⟩
theorem InoAt.lt (h : InoAt w a n f V) : a < w.heap.size := (Array.getElem?_eq_some_iff.1 h.b).1
theorem InoAt.ty (h : InoAt w a n f V) : TyB w 86 a := ⟨_, _, h.b⟩
theorem LabAt.lt (h : LabAt w a q) : a < w.heap.size := (Array.getElem?_eq_some_iff.1 h).1
theorem LabAt.ty (h : LabAt w a q) : TyB w 82 a := ⟨_, _, h⟩
theorem InoAt.keep (h : InoAt w a n f V) (ha : u.heap[a]? = w.heap[a]?) (hk : ∀ b, V.ownBlock = some b → b < w.heap.size → u.heap[b]? = w.heap[b]?) : InoAt u a n f V := ⟨ha.trans h.b, h.v.keep hk⟩
theorem InoAt.ne (h : InoAt w a n f V) {b : Nat} (hb : V.ownBlock = some b) : b ≠ a := fun e => by subst e; exact absurd (TyB.ne (h.v.ty hb).1 h.ty) (by decide)
theorem InoAt.cells (h : InoAt w a n f V) : w.cell? ⟨a, 0, none⟩ = some (.int .i64 (n : Nat)) ∧ w.cell? ⟨a, 1, none⟩ = some (.string f.nm) ∧ w.cell? ⟨a, 2, none⟩ = some (.int .i64 (f.gen : Nat)) ∧ w.cell? ⟨a, 3, none⟩ = some V ∧ w.cell? ⟨a, 4, none⟩ = some (.int .i64 (f.ls : Nat)) := by
  simp [World.cell?, h.b, inoC]
theorem InoAt.frozen (h : InoAt w a n f V) (j : Nat) : w.frozen? ⟨a, j, none⟩ = false := by simp [World.frozen?, h.b]
theorem LabAt.cells (h : LabAt w a q) : w.cell? ⟨a, 0, none⟩ = some (.int .i64 (q.1 : Nat)) ∧ w.cell? ⟨a, 1, none⟩ = some (.int .i64 (q.2 : Nat)) := by
  simp [World.cell?, show w.heap[a]? = _ from h, labC]
theorem LabAt.frozen (h : LabAt w a q) (j : Nat) : w.frozen? ⟨a, j, none⟩ = false := by simp [World.frozen?, show w.heap[a]? = _ from h]
theorem LabAt.put0 (h : LabAt w a q) (x : Nat) : LabAt (w.setCell ⟨a, 0, none⟩ (.int .i64 (x : Nat))) a (x, q.2) := by unfold LabAt; rw [heap_set h]; simp [labC]
theorem LabAt.put1 (h : LabAt w a q) (x : Nat) : LabAt (w.setCell ⟨a, 1, none⟩ (.int .i64 (x : Nat))) a (q.1, x) := by unfold LabAt; rw [heap_set h]; simp [labC]
theorem InoAt.set (h : InoAt w a n f V) (j : Nat) (x : Value) {f' : Ino} {V' : Value} (hc : (inoC n f V).setIfInBounds j x = inoC n f' V') (hv : OwnB w V' f'.bs) : InoAt (w.setCell ⟨a, j, none⟩ x) a n f' V' := by
  refine ⟨by rw [heap_set h.b, hc], hv.keep fun b hb _ => Below.heap_setCell w ⟨a, j, none⟩ x b (fun e => ?_)⟩
  subst e
  exact absurd (TyB.ne (hv.ty hb).1 h.ty) (by decide)
end
/-! ### a disk -/
structure Lay where
  mi : Nat
  mn : Nat
  ci : Nat
  cn : Nat
  ai : Nat → Nat
  vi : Nat → Value
  an : ByteArray → Nat
def Lay.ino (L : Lay) (d : Dk) (z : Int) : Option Value := if 0 ≤ z then (d.ino z.toNat).map fun _ => .pointer (some ⟨L.ai z.toNat, 0, none⟩) else none
def Lay.lab (L : Lay) (d : Dk) (s : ByteArray) : Option Value := (d.lab s).map fun _ => .pointer (some ⟨L.an s, 0, none⟩)
structure DkAt (P : Nat → Prop) (w : World) (B : Nat) (d : Dk) (L : Lay) : Prop where
  db : w.heap[B]? = some (.cells #[.int .i64 (d.hi : Nat), .map (some L.mi), .map (some L.mn)] 62 (0, 0))
  im : MapB 3 kvI goodI (.pointer none) w L.mi L.ci (L.ino d)
  nm : MapB 9 kvS goodS (.pointer none) w L.mn L.cn (L.lab d)
  ib : ∀ n f, d.ino n = some f → InoAt w (L.ai n) n f (L.vi n)
  lb : ∀ s q, d.lab s = some q → LabAt w (L.an s) q
  pB : P B ∧ P L.mi ∧ P L.mn
  pI : ∀ n f, d.ino n = some f → P (L.ai n) ∧ ∀ b, (L.vi n).ownBlock = some b → P b
  pL : ∀ s q, d.lab s = some q → P (L.an s)
  low : ∀ k, P k → k < w.heap.size
  aI : ∀ n m f g, d.ino n = some f → d.ino m = some g → n ≠ m → L.ai n ≠ L.ai m ∧ ∀ b, (L.vi n).ownBlock = some b → (L.vi m).ownBlock ≠ some b
  aL : ∀ s t q r, d.lab s = some q → d.lab t = some r → s ≠ t → L.an s ≠ L.an t
  mm : L.mi ≠ L.mn
/-- a disk's blocks, behind a call -/
def More (P : Nat → Prop) (w u : World) : Nat → Prop := fun k => P k ∨ (w.heap.size ≤ k ∧ k < u.heap.size)
section
variable {P : Nat → Prop} {w u : World} {B : Nat} {d : Dk} {L : Lay}
theorem map_ty {t : TypeId} {b : Nat} {es : Array MapEntry} {c : Nat} (h : w.heap[b]? = some (.map es c)) : ¬ TyB w t b := by
  rintro ⟨c, z, h2⟩
  rw [h] at h2
  cases h2
theorem DkAt.keep (h : DkAt P w B d L) (hk : ∀ k, P k → u.heap[k]? = w.heap[k]?) (hs : w.heap.size ≤ u.heap.size) : DkAt P u B d L :=
  ⟨(hk B h.pB.1).trans h.db, h.im.same (hk _ h.pB.2.1), h.nm.same (hk _ h.pB.2.2), fun n f hf => (h.ib n f hf).keep (hk _ (h.pI n f hf).1) (fun b hb _ => hk b ((h.pI n f hf).2 b hb)), fun s q hq => (hk _ (h.pL s q hq)).trans (h.lb s q hq), h.pB, h.pI, h.pL, fun k hp => Nat.lt_of_lt_of_le (h.low k hp) hs, h.aI, h.aL, h.mm⟩
theorem DkAt.later (h : DkAt P w B d L) (hb : Below w.heap.size w u) : DkAt P u B d L := h.keep (fun k hp => hb.block k (h.low k hp)) hb.size
theorem DkAt.mono {P' : Nat → Prop} (h : DkAt P w B d L) (hp : ∀ k, P k → P' k) (hl : ∀ k, P' k → k < w.heap.size) : DkAt P' w B d L :=
  ⟨h.db, h.im, h.nm, h.ib, h.lb, ⟨hp _ h.pB.1, hp _ h.pB.2.1, hp _ h.pB.2.2⟩, fun n f hf => ⟨hp _ (h.pI n f hf).1, fun b hb => hp _ ((h.pI n f hf).2 b hb)⟩, fun s q hq => hp _ (h.pL s q hq), hl, h.aI, h.aL, h.mm⟩
theorem DkAt.more (h : DkAt P w B d L) (hb : Below w.heap.size w u) : DkAt (More P w u) u B d L :=
  (h.later hb).mono (fun _ hp => .inl hp) (fun k hp => by rcases hp with hp | hp; exact Nat.lt_of_lt_of_le (h.low k hp) hb.size; exact hp.2)
theorem DkAt.tyB (h : DkAt P w B d L) : TyB w 62 B := ⟨_, _, h.db⟩
theorem DkAt.lt (h : DkAt P w B d L) : B < w.heap.size := h.low B h.pB.1
theorem DkAt.cells (h : DkAt P w B d L) : w.cell? ⟨B, 0, none⟩ = some (.int .i64 (d.hi : Nat)) ∧ w.cell? ⟨B, 1, none⟩ = some (.map (some L.mi)) ∧ w.cell? ⟨B, 2, none⟩ = some (.map (some L.mn)) := by
  simp [World.cell?, h.db]
theorem DkAt.frozen (h : DkAt P w B d L) (j : Nat) : w.frozen? ⟨B, j, none⟩ = false := by simp [World.frozen?, h.db]
/-- AN INODE IS CHANGED (its bytes in the same row, or in a new one): all else stands. -/
theorem DkAt.putI {n : Nat} {f f' : Ino} {V' : Value} (h : DkAt P w B d L) (hf : d.ino n = some f) (hi : InoAt u (L.ai n) n f' V') (hv : ∀ b, V'.ownBlock = some b → (L.vi n).ownBlock = some b ∨ w.heap.size ≤ b) (hfr : FrP (fun k => k = L.ai n ∨ (L.vi n).ownBlock = some k) w u) :
    DkAt (More P w u) u B (Sf.putI d n (some f')) { L with vi := fun m => if m = n then V' else L.vi m } := by
  have hI := h.ib n f hf
  have ne : ∀ {t : TypeId} {k : Nat}, TyB w t k → t ≠ 86 → t ≠ 5 → u.heap[k]? = w.heap[k]? := fun {t k} hk h1 h2 => by
    obtain ⟨c, z, hc⟩ := hk
    refine hfr.block k (Array.getElem?_eq_some_iff.1 hc).1 ?_
    rintro (e | e)
    · subst e; exact h1 (TyB.ne ⟨c, z, hc⟩ hI.ty)
    · exact h2 (TyB.ne ⟨c, z, hc⟩ (hI.v.ty e).1)
  have nm : ∀ {k : Nat} {es : Array MapEntry} {c : Nat}, w.heap[k]? = some (.map es c) → u.heap[k]? = w.heap[k]? := fun {k es c} hk => by
    refine hfr.block k (Array.getElem?_eq_some_iff.1 hk).1 ?_
    rintro (e | e)
    · subst e; exact map_ty hk hI.ty
    · exact map_ty hk (hI.v.ty e).1
  have hin : ({ L with vi := fun m => if m = n then V' else L.vi m } : Lay).ino (Sf.putI d n (some f')) = L.ino d := by
    funext z
    unfold Lay.ino Sf.putI
    by_cases hz : 0 ≤ z
    · rw [if_pos hz, if_pos hz]
      by_cases e : z.toNat = n
      · simp [e, hf]
      · simp [e]
    · rw [if_neg hz, if_neg hz]
  refine ⟨(ne h.tyB (by decide) (by decide)).trans h.db, ?_, ?_, fun m g hg => ?_, fun s q hq => ?_, ⟨.inl h.pB.1, .inl h.pB.2.1, .inl h.pB.2.2⟩, fun m g hg => ?_, fun s q hq => .inl (h.pL s q hq), fun k hp => ?_, fun m k g g' hg hg' hne => ?_, h.aL, h.mm⟩
  · rw [hin]
    obtain ⟨es, c, hm⟩ := h.im.isMap
    exact h.im.same (nm hm)
  · obtain ⟨es, c, hm⟩ := h.nm.isMap
    exact h.nm.same (nm hm)
  · by_cases e : m = n
    · subst e
      simp [Sf.putI] at hg
      subst hg
      simpa using hi
    · have hg : d.ino m = some g := by simpa [Sf.putI, e] using hg
      have hm := h.ib m g hg
      obtain ⟨a1, a2⟩ := h.aI m n g f hg hf e
      simp only [if_neg e]
      refine hm.keep (hfr.block _ hm.lt ?_) (fun b hb hl => hfr.block b hl ?_)
      · rintro (x | x)
        · exact a1 x
        · exact absurd (TyB.ne hm.ty (hI.v.ty x).1) (by decide)
      · rintro (x | x)
        · subst x; exact absurd (TyB.ne (hm.v.ty hb).1 hI.ty) (by decide)
        · exact a2 b hb x
  · exact (ne (h.lb s q hq).ty (by decide) (by decide)).trans (h.lb s q hq)
  · by_cases e : m = n
    · subst e
      refine ⟨.inl (h.pI m f hf).1, fun b hb => ?_⟩
      simp only [if_pos] at hb
      rcases hv b hb with x | x
      · exact .inl ((h.pI m f hf).2 b x)
      · exact .inr ⟨x, (hi.v.ty hb).2⟩
    · have hg : d.ino m = some g := by simpa [Sf.putI, e] using hg
      simp only [if_neg e]
      exact ⟨.inl (h.pI m g hg).1, fun b hb => .inl ((h.pI m g hg).2 b hb)⟩
  · rcases hp with hp | hp
    · exact Nat.lt_of_lt_of_le (h.low k hp) hfr.size
    · exact hp.2
  · have h1 : ∀ {m : Nat} {g : Ino}, (Sf.putI d n (some f')).ino m = some g → ∃ g0, d.ino m = some g0 := fun {m g} hg => by
      by_cases e : m = n
      · subst e; exact ⟨f, hf⟩
      · exact ⟨g, by simpa [Sf.putI, e] using hg⟩
    obtain ⟨g0, e0⟩ := h1 hg
    obtain ⟨g1, e1⟩ := h1 hg'
    obtain ⟨a1, a2⟩ := h.aI m k g0 g1 e0 e1 hne
    refine ⟨a1, fun b hb hb2 => ?_⟩
    by_cases em : m = n
    · subst em
      have ek : k ≠ m := fun e => hne e.symm
      simp only [if_pos] at hb
      simp only [if_neg ek] at hb2
      rcases hv b hb with x | x
      · exact a2 b x hb2
      · have := ((h.ib k g1 e1).v.ty hb2).2; omega
    · by_cases ek : k = n
      · subst ek
        simp only [if_neg em] at hb
        simp only [if_pos] at hb2
        rcases hv b hb2 with x | x
        · exact a2 b hb x
        · have := ((h.ib m g0 e0).v.ty hb).2; omega
      · simp only [if_neg em] at hb
        simp only [if_neg ek] at hb2
        exact a2 b hb hb2
end
end Go.Proofs.Ytpikepifhnkmkaa
