/- heronlaw08's Book: lists of lists of states. -/
import Derived.Test.YtmjnobdlgbojoaaDoorG19
import Derived.Test.YtmjnobdlgbojoaaDoorG11
namespace Go.Proofs.YtmjnobdlgbojoaaDoor
open Go.RowKit
attribute [local go_sem ↓] Go.wp_at_zero Go.wp_at_succ

def RowV (T : TypeId) (w : World) (base : Nat) (V : Value) (vs : List Value) : Prop := w.ownsRow base T 1 V vs.length vs
section
variable {T : TypeId} {w w' : World} {base : Nat} {V : Value} {vs : List Value}
theorem rowV_nil (T : TypeId) (w : World) (base : Nat) : RowV T w base (.slice none 0 0) [] := World.ownsRow_nil w base T 1
theorem RowV.ty (h : RowV T w base V vs) : ∀ b, V.ownBlock = some b → base ≤ b ∧ TyB w T b := by
  rcases h.2 with ⟨rfl, _⟩ | ⟨g, cap, cur, rfl, hB, hg, _⟩
  · intro b hb; cases hb
  · intro b hb; cases hb; exact ⟨hB, _, _, hg⟩
theorem RowV.keep (h : RowV T w base V vs) (hk : ∀ b, b < w.heap.size → TyB w T b → w'.heap[b]? = w.heap[b]?) : RowV T w' base V vs := by
  refine ⟨h.1, ?_⟩
  rcases h.2 with h6 | ⟨g, cap, cur, hv, hB, hg, rest⟩
  · exact Or.inl h6
  · exact Or.inr ⟨g, cap, cur, hv, hB, (hk g (Array.getElem?_eq_some_iff.1 hg).1 ⟨_, _, hg⟩).trans hg, rest⟩
theorem RowV.later (h : RowV T w base V vs) (hb : Below w.heap.size w w') : RowV T w' base V vs := h.keep (fun b hlt _ => hb.block b hlt)
theorem RowV.grown (h : RowV T w base V vs) {r : Option Nat} (hg : w.grownBy w' r) {S : TypeId} (hr : ∀ k, r = some k → TyB w S k) (hS : S ≠ T) : RowV T w' base V vs :=
  h.keep (fun b hlt hb => hg.block b hlt (fun e => hS (TyB.ne (hr b e.symm) hb)))
theorem RowV.form (h : RowV T w base V vs) : ∃ a c, V = .slice a vs.length c := by
  rcases h.2 with ⟨rfl, h0⟩ | ⟨g, cap, cur, rfl, _⟩
  · exact ⟨none, 0, by rw [h0]⟩
  · exact ⟨_, _, rfl⟩
theorem RowV.nth (h : RowV T w base V vs) {i : Nat} {v : Value} (hi : vs[i]? = some v) : ∃ g c, V = .slice (some ⟨g, 0, none⟩) vs.length c ∧ w.cell? ⟨g, i, none⟩ = some v := by
  have hl := (List.getElem?_eq_some_iff.1 hi).1
  rcases h.2 with ⟨rfl, h0⟩ | ⟨g, cap, cur, rfl, _, hg, h1, h2, h3, h4⟩
  · omega
  · refine ⟨g, cap, rfl, ?_⟩
    rw [← h4, List.getElem?_take_of_lt (by omega), Array.getElem?_toList] at hi
    simp [World.cell?, hg, hi]
end
theorem infoLI : (Tryd.prog.info? 39).map (fun i => (i.zero, i.size, i.bytes)) = some (some (.slice none 0 0), 1, 24) := by kernel_rfl
/-- two lists more -/
theorem wpList_append_two {w : World} {ops : Array Oper} {rest : List Oper} {o : Oper} {a : Act} {Q : Exit → Act → World → Prop} (hgd : o.guard = none) (s y : Operand)
    (ho : o.op = .call { callee := .builtin .append, args := #[s, y], argTypes := #[53, 53] }) (base : Nat) (V : Value) (vs : List Value) (h : RowV 39 w base V vs) (hb : base ≤ w.heap.size) (hl : vs.length ≤ 1000) (hs : a.eval s = V) (ad : Addr) (k : Nat) (b1 b2 : Option Addr) (n1 n2 c1 c2 : Nat) (hy : a.eval y = .slice (some ad) 2 k) (hc1 : w.cell? (ad.add 0) = some (.slice b1 n1 c1)) (hc2 : w.cell? (ad.add 1) = some (.slice b2 n2 c2))
    (hk : ∀ g c w', RowV 39 w' base (.slice (some ⟨g, 0, none⟩) (vs.length + 2) c) (vs ++ [.slice b1 n1 c1, .slice b2 n2 c2]) → w.grownBy w' V.ownBlock → (V.ownBlock = some g ∨ g = w.heap.size) → wpList Tryd.prog ops Q rest (a.put o.dst (.slice (some ⟨g, 0, none⟩) (vs.length + 2) c)) w') : wpList Tryd.prog ops Q (o :: rest) a w := by
  refine wpList_plain hgd fun K hK => ?_
  obtain ⟨i0, hi, hz0, hz1, hz2⟩ := info_parts infoLI
  obtain ⟨g, cap', w', hr, ho2, hg, hgg, hlt⟩ := run_append_lies (P := Tryd.prog) w 53 o.type base 39 i0 _ 1 24 Tryd.underlying53 hi hz0 hz1 hz2 rfl (by decide) V vs.length vs h ad 2 k [.slice b1 n1 c1, .slice b2 n2 c2] rfl
    (fun j v hj => by
      match j, hj with
      | 0, hj => simp at hj; subst hj; exact hc1
      | 1, hj => simp at hj; subst hj; exact hc2
      | j + 2, hj => simp at hj) (fun v hv => by simp at hv; rcases hv with rfl | rfl <;> rfl) (by decide) (by simp only [maxLen]; omega) (by omega) hb w.heap.size rfl
  unfold Oper.wp execOp
  simp only [ho, resolve, invoke, builtin, Sem.run_bind, Sem.run_pure, Result.andThen_ok, List.map_toArray, List.map_cons, List.map_nil, hs, hy, hr]
  refine hK _ _ (hk g cap' w' ?_ hg hgg)
  unfold RowV
  rw [List.length_append]
  exact ho2
/-- the book's block -/
def BKB (w : World) (K : Nat) (VR VW : Value) : Prop := w.heap[K]? = some (.cells #[VR, VW] 55 (0, 0))
theorem BKB.cells {w : World} {K : Nat} {VR VW : Value} (h : BKB w K VR VW) : w.cell? ⟨K, 0, none⟩ = some VR ∧ w.cell? ⟨K, 1, none⟩ = some VW := by
  unfold BKB at h
  simp [World.cell?, h]
theorem BKB.lt {w : World} {K : Nat} {VR VW : Value} (h : BKB w K VR VW) : K < w.heap.size := (Array.getElem?_eq_some_iff.1 h).1
theorem BKB.ty {w : World} {K : Nat} {VR VW : Value} (h : BKB w K VR VW) : TyB w 55 K := ⟨_, _, h⟩
theorem BKB.frozen {w : World} {K : Nat} {VR VW : Value} (h : BKB w K VR VW) (i : Nat) : w.frozen? ⟨K, i, none⟩ = false := by
  unfold BKB at h
  simp [World.frozen?, h]
theorem BKB.later {w w' : World} {K : Nat} {VR VW : Value} (h : BKB w K VR VW) (hb : Below w.heap.size w w') : BKB w' K VR VW := (hb.block K h.lt).trans h
/-- one list of states in the book -/
structure Ent where
  g : Nat
  c : Nat
  h : Nat
  d : Nat
  l : List Nat
def Ent.raw (e : Ent) : Value := .slice (some ⟨e.g, 0, none⟩) e.l.length e.c
def Ent.was (e : Ent) : Value := .slice (some ⟨e.h, 0, none⟩) e.l.length e.d
/-- THE BOOK: lists that were answered, each in a block of its own, and what they were. -/
structure Bk (b0 : Nat) (w : World) (K : Nat) (VR VW : Value) (es : List Ent) : Prop where
  blk : BKB w K VR VW
  low : b0 ≤ K
  raw : RowV 39 w b0 VR (es.map Ent.raw)
  was : RowV 39 w b0 VW (es.map Ent.was)
  sep : ∀ b, VR.ownBlock = some b → VW.ownBlock ≠ some b
  rows : ∀ e ∈ es, Stk w b0 e.raw e.l ∧ Stk w b0 e.was e.l
  apart : (es.map Ent.g).Nodup
  other : ∀ e ∈ es, ∀ f ∈ es, e.g ≠ f.h
theorem Bk.later {b0 : Nat} {w w' : World} {K : Nat} {VR VW : Value} {es : List Ent} (h : Bk b0 w K VR VW es) (hb : Below w.heap.size w w') : Bk b0 w' K VR VW es :=
  ⟨h.blk.later hb, h.low, h.raw.later hb, h.was.later hb, h.sep, fun e he => ⟨(h.rows e he).1.keep (fun k _ hl => hb.block k hl), (h.rows e he).2.keep (fun k _ hl => hb.block k hl)⟩, h.apart, h.other⟩
end Go.Proofs.YtmjnobdlgbojoaaDoor

/- heronlaw08's Book.at: what it leaves. -/
namespace Go.Proofs.YtmjnobdlgbojoaaDoor
open Go.RowKit
attribute [local go_sem ↓] Go.wp_at_zero Go.wp_at_succ

/-- what a book's growth leaves: all below b0, and all that is no book and no list of lists -/
structure Fbk (b0 : Nat) (w u : World) : Prop where
  os : u.os = w.os
  tape : u.tape = w.tape
  output : u.output = w.output
  size : w.heap.size ≤ u.heap.size
  block : ∀ k, k < w.heap.size → (k < b0 ∨ (¬ TyB w 39 k ∧ ¬ TyB w 55 k)) → u.heap[k]? = w.heap[k]?
theorem TyB.back {w u : World} {t k : Nat} (e : u.heap[k]? = w.heap[k]?) (h : TyB u t k) : TyB w t k := by
  obtain ⟨c, f, hc⟩ := h
  exact ⟨c, f, e ▸ hc⟩
theorem Fbk.below {b0 : Nat} {w u : World} (h : Below w.heap.size w u) : Fbk b0 w u := ⟨h.os, h.tape, h.output, h.size, fun k hk _ => h.block k hk⟩
theorem Fbk.later {b0 : Nat} {w u v : World} (h : Fbk b0 w u) (hb : Below u.heap.size u v) : Fbk b0 w v := ⟨hb.os.trans h.os, hb.tape.trans h.tape, hb.output.trans h.output, Nat.le_trans h.size hb.size, fun k hk ho => (hb.block k (Nat.lt_of_lt_of_le hk h.size)).trans (h.block k hk ho)⟩
theorem Fbk.grown {b0 : Nat} {w u v : World} {r : Option Nat} (h : Fbk b0 w u) (hg : u.grownBy v r) (hr : ∀ k, r = some k → b0 ≤ k ∧ TyB u 39 k) : Fbk b0 w v :=
  ⟨hg.os.trans h.os, hg.tape.trans h.tape, hg.output.trans h.output, Nat.le_trans h.size hg.size, fun k hk ho => by
    have h1 := h.block k hk ho
    refine (hg.block k (Nat.lt_of_lt_of_le hk h.size) (fun e => ?_)).trans h1
    obtain ⟨h2, h3⟩ := hr k e.symm
    rcases ho with ho | ho
    · omega
    · exact ho.1 (h3.back h1)⟩
theorem Fbk.set {b0 : Nat} {w u : World} {K : Nat} (h : Fbk b0 w u) (hK : b0 ≤ K) (ht : TyB u 55 K) (i : Nat) (v : Value) : Fbk b0 w (u.setCell ⟨K, i, none⟩ v) :=
  ⟨h.os, h.tape, h.output, by simpa [World.setCell] using h.size, fun k hk ho => by
    have h1 := h.block k hk ho
    refine (Below.heap_setCell u ⟨K, i, none⟩ v k (fun e => ?_)).trans h1
    have e2 : k = K := e
    subst e2
    rcases ho with ho | ho
    · omega
    · exact ho.2 (ht.back h1)⟩
theorem RowV.keepB {T : TypeId} {w w' : World} {base : Nat} {V : Value} {vs : List Value} (h : RowV T w base V vs) (hk : ∀ b, V.ownBlock = some b → w'.heap[b]? = w.heap[b]?) : RowV T w' base V vs := by
  refine ⟨h.1, ?_⟩
  rcases h.2 with h6 | ⟨g, cap, cur, rfl, hB, hg, rest⟩
  · exact Or.inl h6
  · exact Or.inr ⟨g, cap, cur, rfl, hB, (hk g rfl).trans hg, rest⟩
theorem TyB.lt {w : World} {t k : Nat} (h : TyB w t k) : k < w.heap.size := by
  obtain ⟨_, _, h⟩ := h
  exact (Array.getElem?_eq_some_iff.1 h).1
theorem Fbk.from {b0 : Nat} {w u v : World} (h : Fbk b0 u v) (hb : Below w.heap.size w u) : Fbk b0 w v :=
  ⟨h.os.trans hb.os, h.tape.trans hb.tape, h.output.trans hb.output, Nat.le_trans hb.size h.size, fun k hk ho => (h.block k (Nat.lt_of_lt_of_le hk hb.size) (ho.imp id (fun h => ⟨fun t => h.1 (t.back (hb.block k hk)), fun t => h.2 (t.back (hb.block k hk))⟩))).trans (hb.block k hk)⟩
theorem Fbk.stk {b0 base : Nat} {w u : World} {V : Value} {l : List Nat} (h : Fbk b0 w u) (hs : Stk w base V l) : Stk u base V l := by
  have h2 : RowI w base V l := hs
  exact h2.keep (fun b _ hl ht => h.block b hl (Or.inr ⟨fun t => absurd (TyB.ne ht t) (by decide), fun t => absurd (TyB.ne ht t) (by decide)⟩))
theorem stk_low {w : World} {b b' : Nat} {V : Value} {l : List Nat} (h : Stk w b V l) (hb : b' ≤ b) : Stk w b' V l := ownsRow_low h hb
theorem WkAt.fbk {base b0 : Nat} {w u : World} {Wb : Nat} {M : Ma} {S : Nat} {g : Oct.S} {r : Nat} {bg : Bool} (h : WkAt base w Wb M S g r bg) (hf : Fbk b0 w u) : WkAt base u Wb M S g r bg :=
  h.keep (fun k _ hl hc => hf.block k hl (Or.inr (by
    have ht := h.ty
    rcases hc with rfl | hc | hc | hc | hc
    · exact ⟨fun t => absurd (TyB.ne ht t) (by decide), fun t => absurd (TyB.ne ht t) (by decide)⟩
    · exact ⟨fun t => absurd (TyB.ne hc t) (by decide), fun t => absurd (TyB.ne hc t) (by decide)⟩
    · exact ⟨fun t => absurd (TyB.ne hc t) (by decide), fun t => absurd (TyB.ne hc t) (by decide)⟩
    · exact ⟨fun t => absurd (TyB.ne hc t) (by decide), fun t => absurd (TyB.ne hc t) (by decide)⟩
    · exact ⟨fun t => hc.no _ t, fun t => hc.no _ t⟩)))
theorem RkAt.fbk {b1 b0 : Nat} {w u : World} {B : Nat} {x : Nf} {S : Nat} {g : Oct.S} {r : Nat} {f : Bool} (h : RkAt b1 w B x S g r f) (hf : Fbk b0 w u) : RkAt b1 u B x S g r f := by
  obtain ⟨gb, c, h0, h1, h2⟩ := h
  exact ⟨gb, c, h0, (hf.block B h1.lt (Or.inr ⟨fun t => absurd (TyB.ne h1.ty t) (by decide), fun t => absurd (TyB.ne h1.ty t) (by decide)⟩)).trans h1, h2.same (hf.block gb h2.lt.1 (Or.inr ⟨fun t => absurd (TyB.ne h2.ty t) (by decide), fun t => absurd (TyB.ne h2.ty t) (by decide)⟩))⟩
open Classical in
theorem endOf_ex (M : Ma) (b : Bool) (g : Oct.S) (r : Nat) : ∃ z, EndOf M b g r z := ⟨_, fun s => decide (Rch M.es (kmov b true) g s), fun s => by simp, rfl⟩
theorem EndOf.lt {M : Ma} {S : Nat} {b : Bool} {g : Oct.S} {r z : Nat} (hM : Fits M S) (hr : r < 4294967296) (h : EndOf M b g r z) : z < 4294967296 := by
  obtain ⟨h, _, e⟩ := h
  rw [e]
  exact or_lt32 hr (rulesG_lt hM.2.2.2.2)
end Go.Proofs.YtmjnobdlgbojoaaDoor
