/- What PastGrows' walk holds on to. -/
import Derived.Test.YtobbcgendjakiaaG43
namespace Go.Proofs.Ytobbcgendjakiaa
open Go.RowKit Go.Maps Sf

structure Op5Good (w : World) (o : Op5) : Prop where
  ok : o.Ok
  kv : LAt w o.kv (ints o.keep)
  of : goodI o.off
/-- the events of an argument -/
structure OpsA (w : World) (a : Option Addr) (ops : List Op5) : Prop where
  cells : ops = [] ∨ ∃ b off, a = some ⟨b, off, none⟩ ∧ ∀ i o, ops[i]? = some o → ∀ k v, o.cells[k]? = some v → w.cell? ⟨b, off + i * 8 + k, none⟩ = some v
  good : ∀ o ∈ ops, Op5Good w o
  len : ops.length ≤ 17592186043904
/-- a disk and a past apart, and both apart from the blocks from b0 up to b2 -/
structure GrS (w : World) (b0 b2 : Nat) (Pd Pp : Nat → Prop) (Bd Bp : Nat) (d : Dk) (p : Pv) (K C : Nat) (u : World) : Prop where
  dk : Dsk Pd u Bd d K
  pa : Pst Pp u Bp p C
  lo : Below w.heap.size w u
  hd : ∀ k, Pd k → w.heap.size ≤ k
  hp : ∀ k, Pp k → w.heap.size ≤ k
  ap : ∀ k, Pp k → ¬ Pd k
  gap : ∀ k, Pd k ∨ Pp k → k < b0 ∨ b2 ≤ k
  sz : b2 ≤ u.heap.size
section
variable {w u v : World} {b0 b2 : Nat} {Pd Pp : Nat → Prop} {Bd Bp K C K' C' : Nat} {d d' : Dk} {p p' : Pv}
theorem GrS.later (h : GrS w b0 b2 Pd Pp Bd Bp d p K C u) (hb : Below u.heap.size u v) : GrS w b0 b2 Pd Pp Bd Bp d p K C v :=
  ⟨h.dk.later hb, h.pa.later hb, below_step h.lo hb, h.hd, h.hp, h.ap, h.gap, Nat.le_trans h.sz hb.size⟩
theorem GrS.does (h : GrS w b0 b2 Pd Pp Bd Bp d p K C u) (hd : DkTo Pd u Bd d' (K + 1) v) (hw : Wf d' (K + 1)) (hK : K < 1000000) : GrS w b0 b2 (More Pd u v) Pp Bd Bp d' p (K + 1) C v ∧ ∀ k, b0 ≤ k → k < b2 → v.heap[k]? = u.heap[k]? := by
  have hl := lo_step h.lo hd.2 h.hd
  have hlow := h.pa.low
  refine ⟨⟨hd.dsk hw hK, h.pa.keep (fun k hk => hd.2.block k (hlow k hk) (h.ap k hk)) hd.2.size, hl.1, hl.2, h.hp, fun k hk x => ?_, fun k hk => ?_, Nat.le_trans h.sz hd.2.size⟩, fun k h1 h2 => hd.2.block k (Nat.lt_of_lt_of_le h2 h.sz) (fun x => by have := h.gap k (.inl x); omega)⟩
  · rcases x with x | x
    · exact h.ap k hk x
    · have := hlow k hk; omega
  · have := h.sz
    rcases hk with (hk | hk) | hk
    · exact h.gap k (.inl hk)
    · exact .inr (by omega)
    · exact h.gap k (.inr hk)
theorem GrS.sees (h : GrS w b0 b2 Pd Pp Bd Bp d p K C u) (hp : PaTo Pp u Bp p' C' v) : GrS w b0 b2 Pd (More Pp u v) Bd Bp d p' K C' v ∧ ∀ k, b0 ≤ k → k < b2 → v.heap[k]? = u.heap[k]? := by
  have hl := lo_step h.lo hp.2 h.hp
  have hlow := h.dk.m.low
  refine ⟨⟨h.dk.keep (fun k hk => hp.2.block k (hlow k hk) (fun x => h.ap k x hk)) hp.2.size, hp.1, hl.1, h.hd, hl.2, fun k hk x => ?_, fun k hk => ?_, Nat.le_trans h.sz hp.2.size⟩, fun k h1 h2 => hp.2.block k (Nat.lt_of_lt_of_le h2 h.sz) (fun x => by have := h.gap k (.inr x); omega)⟩
  · rcases hk with hk | hk
    · exact h.ap k hk x
    · have := hlow k x; omega
  · have := h.sz
    rcases hk with hk | hk | hk
    · exact h.gap k (.inl hk)
    · exact h.gap k (.inr hk)
    · exact .inr (by omega)
theorem GrS.upC (h : GrS w b0 b2 Pd Pp Bd Bp d p K C u) (hc : C ≤ C') (h2 : C' ≤ 1000000000) : GrS w b0 b2 Pd Pp Bd Bp d p K C' u := ⟨h.dk, h.pa.up hc h2, h.lo, h.hd, h.hp, h.ap, h.gap, h.sz⟩
theorem GrS.upK (h : GrS w b0 b2 Pd Pp Bd Bp d p K C u) (hc : K ≤ K') (h2 : K' ≤ 1000000) : GrS w b0 b2 Pd Pp Bd Bp d p K' C u := ⟨⟨h.dk.wf.up hc, h.dk.m.up hc, h2⟩, h.pa, h.lo, h.hd, h.hp, h.ap, h.gap, h.sz⟩
theorem nm_len {d : Dk} {K : Nat} (h : Wf d K) : (nmL d).length ≤ K + 1 := by
  have x := keysUp_len d
  have y := h.hi
  unfold nmL
  rw [List.length_mergeSort, List.length_map]
  omega
/-- See, as the law calls it -/
theorem GrS.call (h : GrS w b0 b2 Pd Pp Bd Bp d p K C u) (hK : K ≤ 100) (hC : C ≤ 900000000) : Calls Try.prog 7 #[.pointer (some ⟨Bp, 0, none⟩), .pointer (some ⟨Bd, 0, none⟩)] u fun e v => e = .returned (.tuple #[]) ∧ GrS w b0 b2 Pd (More Pp u v) Bd Bp d (Pv.see d p) K (C + 1000) v ∧ ∀ k, b0 ≤ k → k < b2 → v.heap[k]? = u.heap[k]? := by
  have hn := nm_len h.dk.wf
  refine (see_any h.pa h.dk h.ap (by omega)).mono fun e v x => ⟨x.1, ?_⟩
  obtain ⟨h1, h2⟩ := h.sees x.2
  exact ⟨h1.upC (by omega) (by omega), h2⟩
end
theorem lat_off5 {P : Nat → Prop} {w u : World} {V : Value} {xs : List Value} (h : LAt w V xs) (hl : Below w.heap.size w u) (hp : ∀ k, P k → w.heap.size ≤ k) : LAtX (fun k => ¬ P k) u V xs := by
  refine ⟨h.later hl, fun b off n c e hx hb => ?_⟩
  have := hp b hb
  obtain ⟨a', c', e', _, _, h3⟩ := h
  rw [e] at e'
  cases e'
  rcases h3 with h3 | ⟨b', off', e2, hc⟩
  · exact hx h3
  · cases e2
    cases xs with
    | nil => exact hx rfl
    | cons x r =>
      have hc0 := hc 0 x rfl
      have := World.block_lt_of_cell? w _ hc0
      have : b < w.heap.size := this
      omega
/-! ### lists that were answered, kept in lists -/
def KepL (b0 : Nat) (V9 V10 : Value) (fs : List (List (Nat × List UInt8))) (u : World) : Prop :=
  ∃ Vs Ws, u.ownsRow b0 38 1 V9 fs.length Vs ∧ u.ownsRow b0 34 1 V10 fs.length Ws ∧ ∀ (k : Nat) f, fs[k]? = some f → ∃ V W, Vs[k]? = some V ∧ Ws[k]? = some W ∧ u.ownsRow b0 9 1 V f.length (lnS f) ∧ u.ownsRow b0 3 1 W f.length (lnI f)
def KepN (b1 : Nat) (V11 : Value) (gs : List (List Int)) (u : World) : Prop :=
  ∃ Us, u.ownsRow b1 34 1 V11 gs.length Us ∧ ∀ (k : Nat) l, gs[k]? = some l → ∃ U, Us[k]? = some U ∧ u.ownsRow b1 3 1 U l.length (ints l)
theorem own_lt {u : World} {b0 : Nat} {e : TypeId} {z : Nat} {V : Value} {n : Nat} {xs : List Value} (h : u.ownsRow b0 e z V n xs) {g : Nat} (hg : V.ownBlock = some g) : b0 ≤ g ∧ g < u.heap.size := by
  rcases h.2 with ⟨rfl, _⟩ | ⟨g', cap, cur, rfl, hb, hh, _⟩
  · simp [Value.ownBlock] at hg
  · have : g' = g := Option.some.inj hg
    subst this
    exact ⟨hb, (Array.getElem?_eq_some_iff.1 hh).1⟩
theorem KepL.keep {b0 b2 : Nat} {V9 V10 : Value} {fs : List (List (Nat × List UInt8))} {u v : World} (h : KepL b0 V9 V10 fs u) (hs : u.heap.size ≤ b2) (hk : ∀ k, b0 ≤ k → k < b2 → v.heap[k]? = u.heap[k]?) : KepL b0 V9 V10 fs v := by
  obtain ⟨Vs, Ws, h1, h2, h3⟩ := h
  have q : ∀ {e : TypeId} {V : Value} {n : Nat} {xs : List Value}, u.ownsRow b0 e 1 V n xs → v.ownsRow b0 e 1 V n xs := fun r => ownsRow_keep r (fun g _ x1 x2 => hk g x1 (by omega))
  refine ⟨Vs, Ws, q h1, q h2, fun k f hf => ?_⟩
  obtain ⟨V, W, a1, a2, a3, a4⟩ := h3 k f hf
  exact ⟨V, W, a1, a2, q a3, q a4⟩
theorem KepL.later {b0 : Nat} {V9 V10 : Value} {fs : List (List (Nat × List UInt8))} {u v : World} (h : KepL b0 V9 V10 fs u) (hb : Below u.heap.size u v) : KepL b0 V9 V10 fs v := h.keep (Nat.le_refl _) (fun k _ hk => hb.block k hk)
theorem KepN.keep {b0 b2 : Nat} {V11 : Value} {gs : List (List Int)} {u v : World} (h : KepN b0 V11 gs u) (hs : u.heap.size ≤ b2) (hk : ∀ k, b0 ≤ k → k < b2 → v.heap[k]? = u.heap[k]?) : KepN b0 V11 gs v := by
  obtain ⟨Us, h1, h3⟩ := h
  have q : ∀ {e : TypeId} {V : Value} {n : Nat} {xs : List Value}, u.ownsRow b0 e 1 V n xs → v.ownsRow b0 e 1 V n xs := fun r => ownsRow_keep r (fun g _ x1 x2 => hk g x1 (by omega))
  refine ⟨Us, q h1, fun k f hf => ?_⟩
  obtain ⟨U, a1, a2⟩ := h3 k f hf
  exact ⟨U, a1, q a2⟩
theorem KepN.later {b0 : Nat} {V11 : Value} {gs : List (List Int)} {u v : World} (h : KepN b0 V11 gs u) (hb : Below u.heap.size u v) : KepN b0 V11 gs v := h.keep (Nat.le_refl _) (fun k _ hk => hb.block k hk)
theorem row_ne {u : World} {b0 b1 : Nat} {e e' : TypeId} {V V' : Value} {n n' : Nat} {xs xs' : List Value} (h : u.ownsRow b0 e 1 V n xs) (h' : u.ownsRow b1 e' 1 V' n' xs') (he : e ≠ e') {g : Nat} (hg : V.ownBlock = some g) : some g ≠ V'.ownBlock := by
  rcases h.2 with ⟨rfl, _⟩ | ⟨g', cap, cur, rfl, _, hh, _⟩
  · simp [Value.ownBlock] at hg
  · have : g' = g := Option.some.inj hg
    subst this
    exact row_not h' hh he
/-- a list of lines and their places come to the kept ones -/
theorem KepL.snoc {b0 : Nat} {V9 V10 V9' V10' V W : Value} {fs : List (List (Nat × List UInt8))} {f : List (Nat × List UInt8)} {u u1 u2 v1 v2 : World} {Vs Ws : List Value}
    (h1 : u.ownsRow b0 38 1 V9 fs.length Vs) (h2 : u.ownsRow b0 34 1 V10 fs.length Ws) (h3 : ∀ (k : Nat) g, fs[k]? = some g → ∃ V W, Vs[k]? = some V ∧ Ws[k]? = some W ∧ u.ownsRow b0 9 1 V g.length (lnS g) ∧ u.ownsRow b0 3 1 W g.length (lnI g))
    (hV : u.ownsRow b0 9 1 V f.length (lnS f)) (hW : u.ownsRow b0 3 1 W f.length (lnI f)) (k1 : Below u.heap.size u u1) (g1 : u1.grownBy v1 V9.ownBlock) (r1 : v1.ownsRow b0 38 1 V9' (fs.length + 1) (Vs ++ [V])) (k2 : Below v1.heap.size v1 u2) (g2 : u2.grownBy v2 V10.ownBlock) (r2 : v2.ownsRow b0 34 1 V10' (fs.length + 1) (Ws ++ [W])) (hn9 : ∀ g, V9'.ownBlock = some g → V9.ownBlock = some g ∨ u1.heap.size ≤ g) : KepL b0 V9' V10' (fs ++ [f]) v2 := by
  have s1 := k1.size
  have s2 := g1.size
  have s3 := k2.size
  have hl1 : Vs.length = fs.length := by have := h1.1; omega
  have hl2 : Ws.length = fs.length := by have := h2.1; omega
  have keep : ∀ {e : TypeId} {X : Value} {n : Nat} {xs : List Value}, e ≠ 38 → e ≠ 34 → u.ownsRow b0 e 1 X n xs → v2.ownsRow b0 e 1 X n xs := fun {e X n xs} ne1 ne2 r => ownsRow_keep r (fun g hg _ hl => by
    rw [g2.block g (by omega) (row_ne r h2 ne2 hg), k2.block g (by omega), g1.block g (by omega) (row_ne r h1 ne1 hg), k1.block g hl])
  refine ⟨Vs ++ [V], Ws ++ [W], ?_, by rw [List.length_append]; exact r2, fun k g hg => ?_⟩
  · rw [List.length_append]
    refine ownsRow_keep r1 (fun g hg _ hl => ?_)
    rw [g2.block g (by omega) (fun e => ?_), k2.block g hl]
    rcases hn9 g hg with x | x
    · exact row_ne h1 h2 (by decide) x e
    · have := (own_lt h2 e.symm).2
      omega
  · by_cases hk : k < fs.length
    · rw [List.getElem?_append_left hk] at hg
      obtain ⟨V1, W1, a1, a2, a3, a4⟩ := h3 k g hg
      exact ⟨V1, W1, by rw [List.getElem?_append_left (by omega)]; exact a1, by rw [List.getElem?_append_left (by omega)]; exact a2, keep (by decide) (by decide) a3, keep (by decide) (by decide) a4⟩
    · have hk2 : k = fs.length := by
        have := (List.getElem?_eq_some_iff.1 hg).1
        rw [List.length_append] at this
        simp at this
        omega
      subst hk2
      simp at hg
      subst hg
      exact ⟨V, W, by rw [← hl1]; simp, by rw [← hl2]; simp, keep (by decide) (by decide) hV, keep (by decide) (by decide) hW⟩
/-- the lists of lines of the inodes and generations up to one -/
def fsN (p : Pv) (m : Nat) : List (List (Nat × List UInt8)) := (List.range m).map fun k => lines (p.sh (((k / 10 : Nat) : Int), ((k % 10 : Nat) : Int)))
theorem fsN_len (p : Pv) (m : Nat) : (fsN p m).length = m := by simp [fsN]
theorem fsN_succ (p : Pv) (n g : Nat) (hg : g < 10) : fsN p (10 * n + g + 1) = fsN p (10 * n + g) ++ [lines (p.sh ((n : Int), (g : Int)))] := by
  unfold fsN
  rw [List.range_succ, List.map_append]
  have h1 : (10 * n + g) / 10 = n := by omega
  have h2 : (10 * n + g) % 10 = g := by omega
  simp only [List.map_cons, List.map_nil, h1, h2]
def gsN (p : Pv) (ops : List Op5) (q : Nat) : List (List Int) := (ops.take q).map fun o => (p.lb o.nm).2
theorem gsN_succ (p : Pv) {ops : List Op5} {q : Nat} {o : Op5} (h : ops[q]? = some o) : gsN p ops (q + 1) = gsN p ops q ++ [(p.lb o.nm).2] := by
  obtain ⟨hl, e⟩ := List.getElem?_eq_some_iff.1 h
  unfold gsN
  rw [List.take_succ_eq_append_getElem hl, List.map_append, e]
  rfl
theorem gsN_len (p : Pv) (ops : List Op5) (q : Nat) (h : q ≤ ops.length) : (gsN p ops q).length = q := by unfold gsN; rw [List.length_map, List.length_take]; omega
theorem KepN.snoc {b0 : Nat} {V11 V11' U : Value} {gs : List (List Int)} {l : List Int} {u u1 v1 : World} {Us : List Value} (h1 : u.ownsRow b0 34 1 V11 gs.length Us) (h3 : ∀ (k : Nat) g, gs[k]? = some g → ∃ U, Us[k]? = some U ∧ u.ownsRow b0 3 1 U g.length (ints g)) (hU : u.ownsRow b0 3 1 U l.length (ints l)) (k1 : Below u.heap.size u u1) (g1 : u1.grownBy v1 V11.ownBlock) (r1 : v1.ownsRow b0 34 1 V11' (gs.length + 1) (Us ++ [U])) : KepN b0 V11' (gs ++ [l]) v1 := by
  have s1 := k1.size
  have hl1 : Us.length = gs.length := by have := h1.1; omega
  have keep : ∀ {e : TypeId} {X : Value} {n : Nat} {xs : List Value}, e ≠ 34 → u.ownsRow b0 e 1 X n xs → v1.ownsRow b0 e 1 X n xs := fun {e X n xs} ne1 r => ownsRow_keep r (fun g hg _ hl => by
    rw [g1.block g (by omega) (row_ne r h1 ne1 hg), k1.block g hl])
  refine ⟨Us ++ [U], by rw [List.length_append]; exact r1, fun k g hg => ?_⟩
  by_cases hk : k < gs.length
  · rw [List.getElem?_append_left hk] at hg
    obtain ⟨V1, a1, a3⟩ := h3 k g hg
    exact ⟨V1, by rw [List.getElem?_append_left (by omega)]; exact a1, keep (by decide) a3⟩
  · have hk2 : k = gs.length := by
      have := (List.getElem?_eq_some_iff.1 hg).1
      rw [List.length_append] at this
      simp at this
      omega
    subst hk2
    simp at hg
    subst hg
    exact ⟨U, by rw [← hl1]; simp, keep (by decide) hU⟩
theorem own_alloc {u : World} {b0 : Nat} {e : TypeId} {V : Value} {n : Nat} {xs : List Value} (h : u.ownsRow b0 e 1 V n xs) (ob : Obj) : (u.alloc ob).ownsRow b0 e 1 V n xs := ownsRow_keep h (fun g _ _ hl => Below.heap_alloc u ob g hl)
theorem own_base {u : World} {b0 b1 : Nat} {e : TypeId} {V : Value} {n : Nat} {xs : List Value} (h : u.ownsRow b1 e 1 V n xs) (hb : b0 ≤ b1) : u.ownsRow b0 e 1 V n xs := by
  refine ⟨h.1, ?_⟩
  rcases h.2 with x | ⟨g, cap, cur, e1, e2, r⟩
  · exact .inl x
  · exact .inr ⟨g, cap, cur, e1, by omega, r⟩
theorem below_grow {b : Nat} {w u v : World} {q : Option Nat} (h : Below b w u) (hg : u.grownBy v q) (hb : b ≤ u.heap.size) (hq : ∀ k, q = some k → b ≤ k) : Below b w v := h.grown hg hb hq
end Go.Proofs.Ytobbcgendjakiaa
