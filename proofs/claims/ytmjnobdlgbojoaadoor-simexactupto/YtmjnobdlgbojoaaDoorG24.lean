/- SimExact: what its walk carries. -/
import Derived.Test.YtmjnobdlgbojoaaDoorG23
namespace Go.Proofs.YtmjnobdlgbojoaaDoor
open Go.RowKit
attribute [local go_sem ↓] Go.wp_at_zero Go.wp_at_succ

/-- a walk stands where two elder blocks are written -/
theorem WkAt.fr2 {base A B : Nat} {w u : World} {Wb : Nat} {M : Ma} {S : Nat} {g : Oct.S} {r : Nat} {bg : Bool} (h : WkAt base w Wb M S g r bg) (hf : Fr2 A B w u) (hA : A < base) (hB : B < base) : WkAt base u Wb M S g r bg :=
  h.keep (fun k hb hl _ => hf.block k hl (by omega) (by omega))
theorem RkAt.fr2 {b1 A B : Nat} {w u : World} {Q : Nat} {x : Nf} {S : Nat} {g : Oct.S} {r : Nat} {f : Bool} (h : RkAt b1 w Q x S g r f) (hf : Fr2 A B w u) (hA : TyB w 34 A) (hB : TyB w 28 B) : RkAt b1 u Q x S g r f := by
  obtain ⟨gb, c, h0, h1, h2⟩ := h
  refine ⟨gb, c, h0, (hf.block Q h1.lt ?_ ?_).trans h1, h2.same (hf.block gb h2.lt.1 ?_ ?_)⟩
  · intro e; subst e; exact absurd (TyB.ne h1.ty hA) (by decide)
  · intro e; subst e; exact absurd (TyB.ne h1.ty hB) (by decide)
  · intro e; subst e; exact absurd (TyB.ne h2.ty hA) (by decide)
  · intro e; subst e; exact absurd (TyB.ne h2.ty hB) (by decide)
theorem Fbk.to {b0 : Nat} {w u : World} (h : Fbk b0 w u) (hb : b0 ≤ w.heap.size) : Below b0 w u := ⟨h.os, h.tape, h.output, h.size, fun k hk => h.block k (by omega) (Or.inl hk)⟩
/-- the book stands where a block of another type is written -/
theorem Bk.past {b0 : Nat} {w w' : World} {K A : Nat} {VR VW : Value} {es : List Ent} {t : TypeId} (h : Bk b0 w K VR VW es) (hg : w.grownBy w' (some A)) (hA : TyB w t A) (h1 : t ≠ 55) (h2 : t ≠ 39) (h3 : t ≠ 3) : Bk b0 w' K VR VW es := by
  have hb : ∀ k t', k < w.heap.size → TyB w t' k → t ≠ t' → w'.heap[k]? = w.heap[k]? := fun k t' hl ht hne => hg.block k hl (fun e => by cases e; exact hne (TyB.ne hA ht))
  have hs : ∀ (V : Value) (l : List Nat), Stk w b0 V l → Stk w' b0 V l := fun V l hst => by
    have h4 : RowI w b0 V l := hst
    exact h4.keep (fun b _ hl ht => hb b _ hl ht h3)
  exact ⟨(hb K _ h.blk.lt h.blk.ty h1).trans h.blk, h.low, h.raw.keep (fun b hl ht => hb b _ hl ht h2), h.was.keep (fun b hl ht => hb b _ hl ht h2), h.sep, fun e he => ⟨hs _ _ (h.rows e he).1, hs _ _ (h.rows e he).2⟩, h.apart, h.other⟩
/-- one of the two walks with the document's beside it, behind some bytes -/
def Wx (b c W B S : Nat) (x : Nf) (M : Ma) (u : World) (l : List Nat) : Prop := ∃ g r, Mom M l g r ∧ WkAt b u W M S g r (!decide (l = [])) ∧ RkAt c u B x S g r (decide (l = []))
theorem Wx.later {b c W B S : Nat} {x : Nf} {M : Ma} {u u' : World} {l : List Nat} (h : Wx b c W B S x M u l) (hb : Below u.heap.size u u') : Wx b c W B S x M u' l := by
  obtain ⟨g, r, h1, h2, h3⟩ := h
  exact ⟨g, r, h1, h2.later hb, h3.later hb⟩
theorem Wx.fbk {b0 b c W B S : Nat} {x : Nf} {M : Ma} {u u' : World} {l : List Nat} (h : Wx b c W B S x M u l) (hb : Fbk b0 u u') : Wx b c W B S x M u' l := by
  obtain ⟨g, r, h1, h2, h3⟩ := h
  exact ⟨g, r, h1, h2.fbk hb, h3.fbk hb⟩
/-- all that is carried through the two lines -/
structure Ex (b0 b1 b2 c1 c2 K W1 W2 B1 B2 S N : Nat) (x : Nf) (M : Ma) (w u : World) (l1 l2 : List Nat) : Prop where
  low : Below b0 w u
  k1 : Wx b1 c1 W1 B1 S x M u l1
  k2 : Wx b2 c2 W2 B2 S x M u l2
  bk : ∃ VR VW es, Bk b0 u K VR VW es ∧ es.length ≤ N ∧ ∀ e ∈ es, e.l.length ≤ 1048576
theorem Ex.later {b0 b1 b2 c1 c2 K W1 W2 B1 B2 S N : Nat} {x : Nf} {M : Ma} {w u u' : World} {l1 l2 : List Nat} (h : Ex b0 b1 b2 c1 c2 K W1 W2 B1 B2 S N x M w u l1 l2) (hb : Below u.heap.size u u') (h0 : b0 ≤ u.heap.size) : Ex b0 b1 b2 c1 c2 K W1 W2 B1 B2 S N x M w u' l1 l2 := by
  obtain ⟨h1, h2, h3, VR, VW, es, h4, h5, h6⟩ := h
  exact ⟨h1.trans (hb.mono h0), h2.later hb, h3.later hb, VR, VW, es, h4.later hb, h5, h6⟩
/-- a copy's lists: as a machine, as room -/
theorem CopO.cop {base : Nat} {w : World} {M : Ma} {eb ec rb rc n rn : Nat} {S : Int} (h : CopO base w M eb ec rb rc) (hS : S = M.S) (hn : n = M.es.length) (hr : rn = M.rs.length) : Cop (fun _ => True) w M ⟨S, some ⟨eb, 0, none⟩, n, ec, some ⟨rb, 0, none⟩, rn, rc⟩ := by
  have h1 : M.es.length + 1 ≤ ec ∧ ec ≤ maxLen := by
    rcases h.1.2 with ⟨hv, _⟩ | ⟨g, cap, cur, hv, _, _, h1, h2, _⟩
    · cases hv
    · obtain ⟨e1, e2, e3⟩ := Value.slice.inj hv
      subst e3
      rw [← e2] at h1
      exact ⟨h1, h2⟩
  have h2 : M.rs.length + 1 ≤ rc ∧ rc ≤ maxLen := by
    rcases h.2.2 with ⟨hv, _⟩ | ⟨g, cap, cur, hv, _, _, h1, h2, _⟩
    · cases hv
    · obtain ⟨e1, e2, e3⟩ := Value.slice.inj hv
      subst e3
      rw [← e2] at h1
      exact ⟨h1, h2⟩
  exact ⟨hS, hn, hr, h.1.at.2.keep (fun _ _ _ => trivial) (fun _ _ _ => rfl), h.2.at.2.keep (fun _ _ _ => trivial) (fun _ _ _ => rfl), h1, h2⟩
theorem CopO.room {base : Nat} {w : World} {M : Ma} {eb ec rb rc : Nat} (h : CopO base w M eb ec rb rc) : Room w eb 34 (M.es.length * 7) ∧ Room w rb 28 M.rs.length ∧ base ≤ eb ∧ base ≤ rb := by
  rcases h.1.2 with ⟨hv, _⟩ | ⟨g, cap, cur, hv, hb, hg, h1, h2, h3, _⟩
  · cases hv
  obtain ⟨e1, e2, e3⟩ := Value.slice.inj hv
  cases e1
  subst e3
  rw [← e2] at h1
  rcases h.2.2 with ⟨hv, _⟩ | ⟨g', cap', cur', hv, hb', hg', h1', h2', h3', _⟩
  · cases hv
  obtain ⟨e1, e2, e3⟩ := Value.slice.inj hv
  cases e1
  subst e3
  rw [← e2] at h1'
  exact ⟨⟨cur, hg, by omega⟩, ⟨cur', hg', by omega⟩, hb, hb'⟩
theorem CopO.later {base : Nat} {w u : World} {M : Ma} {eb ec rb rc : Nat} (h : CopO base w M eb ec rb rc) (hb : Below w.heap.size w u) : CopO base u M eb ec rb rc := ⟨h.1.later hb, h.2.later hb⟩
theorem CopO.low {base b : Nat} {w : World} {M : Ma} {eb ec rb rc : Nat} (h : CopO base w M eb ec rb rc) (hb : b ≤ base) : CopO b w M eb ec rb rc := ⟨ownsRow_low h.1 hb, ownsRow_low h.2 hb⟩
/-- ahead of the walks -/
structure Pr (A X : Nat) (x : Nf) (eb ec rb rc : Nat) (M : Ma) (w u : World) : Prop where
  low : Below w.heap.size w u
  nx : NFB u A x
  ny : NFB u X ⟨x.S, some ⟨eb, 0, none⟩, x.en, ec, some ⟨rb, 0, none⟩, x.rn, rc⟩
  cop : CopO w.heap.size u M eb ec rb rc
theorem Pr.later {A X : Nat} {x : Nf} {eb ec rb rc : Nat} {M : Ma} {w u u' : World} (h : Pr A X x eb ec rb rc M w u) (hb : Below u.heap.size u u') : Pr A X x eb ec rb rc M w u' :=
  ⟨below_step h.low hb, h.nx.later hb, h.ny.later hb, h.cop.later hb⟩
/-- what the two walks are to one another -/
structure Sd (b0 b1 b2 W1 W2 B1 B2 : Nat) : Prop where
  w12 : W1 ≠ W2
  b12 : B1 ≠ B2
  w1 : b0 ≤ W1
  w2 : b0 ≤ W2
  q1 : b0 ≤ B1
  q2 : b0 ≤ B2
  p : 0 < b0
  p1 : b1 ≠ 0
  p2 : b2 ≠ 0
theorem Sd.swap {b0 b1 b2 W1 W2 B1 B2 : Nat} (h : Sd b0 b1 b2 W1 W2 B1 B2) : Sd b0 b2 b1 W2 W1 B2 B1 := ⟨h.w12.symm, h.b12.symm, h.w2, h.w1, h.q2, h.q1, h.p, h.p2, h.p1⟩
theorem Ex.swap {b0 b1 b2 c1 c2 K W1 W2 B1 B2 S N : Nat} {x : Nf} {M : Ma} {w u : World} {l1 l2 : List Nat} (h : Ex b0 b1 b2 c1 c2 K W1 W2 B1 B2 S N x M w u l1 l2) : Ex b0 b2 b1 c2 c1 K W2 W1 B2 B1 S N x M w u l2 l1 := ⟨h.low, h.k2, h.k1, h.bk⟩
/-- what is fixed -/
structure Fx (b0 S : Nat) (x : Nf) (M : Ma) (w : World) : Prop where
  x : MaAt (fun k => k < b0) w M x
  f : Fits M S
  t : Tab w
  e : M.es.length ≤ 1048576
  s : S ≤ 1048576
  b : b0 = w.heap.size
theorem Ex.at1 {b0 b1 b2 c1 c2 K W1 W2 B1 B2 S N : Nat} {x : Nf} {M : Ma} {w u : World} {l1 l2 : List Nat} (h : Ex b0 b1 b2 c1 c2 K W1 W2 B1 B2 S N x M w u l1 l2) (f : Fx b0 S x M w) (hp : 0 < b0) (hN : N ≤ 600) :
    Calls Tryd.prog 19 #[.pointer (some ⟨K, 0, none⟩), .pointer (some ⟨W1, 0, none⟩), .pointer (some ⟨B1, 0, none⟩)] u fun e u' => e = .returned (.bool true) ∧ Ex b0 b1 b2 c1 c2 K W1 W2 B1 B2 S (N + 2) x M w u' l1 l2 := by
  obtain ⟨low, k1, k2, VR, VW, es, bk, hes, hel⟩ := h
  obtain ⟨g, r, m, kw, kq⟩ := k1
  have hsz : b0 ≤ u.heap.size := by rw [f.b]; exact low.size
  have hmx : MaAt (fun k => k < b0) u M x := f.x.keep (fun _ h _ => h) (fun b hb _ => low.block b hb)
  refine (at_any K W1 B1 u bk kw kq hmx f.f (f.t.low low hp) f.e f.s (m.r32 f.f) (m.lt f.f) m.cnt m.zero hsz hp (by omega)).mono ?_
  rintro e u' ⟨rfl, hf, VR', VW', e1, e2, hbk, h1, h2⟩
  refine ⟨rfl, low.trans (hf.to hsz), ⟨g, r, m, kw.fbk hf, kq.fbk hf⟩, k2.fbk hf, VR', VW', _, hbk, ?_, ?_⟩
  · rw [List.length_append]; simp; omega
  · intro e he
    rcases List.mem_append.1 he with he | he
    · exact hel e he
    · simp only [List.mem_cons, List.not_mem_nil, or_false] at he
      rcases he with rfl | rfl
      · exact h1
      · exact h2
theorem Ex.at2 {b0 b1 b2 c1 c2 K W1 W2 B1 B2 S N : Nat} {x : Nf} {M : Ma} {w u : World} {l1 l2 : List Nat} (h : Ex b0 b1 b2 c1 c2 K W1 W2 B1 B2 S N x M w u l1 l2) (f : Fx b0 S x M w) (hp : 0 < b0) (hN : N ≤ 600) :
    Calls Tryd.prog 19 #[.pointer (some ⟨K, 0, none⟩), .pointer (some ⟨W2, 0, none⟩), .pointer (some ⟨B2, 0, none⟩)] u fun e u' => e = .returned (.bool true) ∧ Ex b0 b1 b2 c1 c2 K W1 W2 B1 B2 S (N + 2) x M w u' l1 l2 :=
  (h.swap.at1 f hp hN).mono fun _ _ ⟨h1, h2⟩ => ⟨h1, h2.swap⟩
theorem Ex.byte1 {b0 b1 b2 c1 c2 K W1 W2 B1 B2 S N : Nat} {x : Nf} {M : Ma} {w u : World} {l1 l2 : List Nat} (h : Ex b0 b1 b2 c1 c2 K W1 W2 B1 B2 S N x M w u l1 l2) (f : Fx b0 S x M w) (d : Sd b0 b1 b2 W1 W2 B1 B2) (b : Nat) (hb : b < 256) :
    Calls Tryd.prog 12 #[.pointer (some ⟨W1, 0, none⟩), .int .u8 (b : Nat)] u fun e u' => e = .returned (.tuple #[]) ∧
      Calls Tryd.prog 20 #[.pointer (some ⟨B1, 0, none⟩), .int .u8 (b : Nat)] u' fun e2 u2 => e2 = .returned (.tuple #[]) ∧ Ex b0 b1 b2 c1 c2 K W1 W2 B1 B2 S N x M w u2 (l1 ++ [b]) l2 := by
  obtain ⟨low, k1, k2, VR, VW, es, bk, hes, hel⟩ := h
  obtain ⟨g, r, m, kw, kq⟩ := k1
  obtain ⟨g2, r2, m2, kw2, kq2⟩ := k2
  have he := f.e
  have hS := f.s
  have hsz : b0 ≤ u.heap.size := by rw [f.b]; exact low.size
  refine (byte_any W1 b u kw f.f (f.t.low low d.p) d.p1 hb (by omega) (by omega) (m.r32 f.f) (m.lt f.f)).mono ?_
  rintro e v1 ⟨rfl, hg, g3, hc, hw3⟩
  refine ⟨rfl, ?_⟩
  have low1 : Below b0 w v1 := low.grown hg hsz (fun k e => by cases e; exact d.w1)
  have kq' := kq.other hg kw.ty (by decide) (fun e => by subst e; exact absurd (TyB.ne kq.ty kw.ty) (by decide))
  have kq2' := kq2.other hg kw.ty (by decide) (fun e => by subst e; exact absurd (TyB.ne kq2.ty kw.ty) (by decide))
  have kw2' := kw2.other hg kw.ty (by decide) (by decide) (by decide) d.w12
  have bk' := bk.past hg kw.ty (by decide) (by decide) (by decide)
  have hmx : MaAt (fun k => k ≠ B1) v1 M x := f.x.keep (fun k hk _ e => by have := d.q1; omega) (fun b hb _ => low1.block b hb)
  have hc1 : c1 ≤ v1.heap.size := by
    obtain ⟨_, _, h0, _⟩ := id kq'
    have := kq'.lt
    omega
  have hsz1 : b0 ≤ v1.heap.size := by rw [f.b]; exact low1.size
  refine (rbyte_any B1 b v1 kq' hmx f.f f.e f.s (m.r32 f.f) (m.lt f.f) hb hc1).mono ?_
  rintro e2 v2 ⟨rfl, hg2, g4, hc4, hq4⟩
  have hgg : g4 = g3 := hc4.uniq hc
  subst hgg
  have ed : decide (l1 ++ [b] = []) = false := by simp
  refine ⟨rfl, low1.grown hg2 hsz1 (fun k e => by cases e; exact d.q1), ⟨g4, r ||| rulesG M.rs g4, .byte _ _ _ _ _ m hc, ?_, ?_⟩, ⟨g2, r2, m2, ?_, ?_⟩, VR, VW, es, ?_, hes, hel⟩
  · rw [ed]
    exact hw3.other hg2 kq'.ty (by decide) (by decide) (by decide) (fun e => by subst e; exact absurd (TyB.ne kq.ty kw.ty) (by decide))
  · rw [ed]
    exact hq4
  · exact kw2'.other hg2 kq'.ty (by decide) (by decide) (by decide) (fun e => by subst e; exact absurd (TyB.ne kq.ty kw2.ty) (by decide))
  · exact kq2'.other hg2 kq'.ty (by decide) d.b12.symm
  · exact bk'.past hg2 kq'.ty (by decide) (by decide) (by decide)
theorem Ex.byte2 {b0 b1 b2 c1 c2 K W1 W2 B1 B2 S N : Nat} {x : Nf} {M : Ma} {w u : World} {l1 l2 : List Nat} (h : Ex b0 b1 b2 c1 c2 K W1 W2 B1 B2 S N x M w u l1 l2) (f : Fx b0 S x M w) (d : Sd b0 b1 b2 W1 W2 B1 B2) (b : Nat) (hb : b < 256) :
    Calls Tryd.prog 12 #[.pointer (some ⟨W2, 0, none⟩), .int .u8 (b : Nat)] u fun e u' => e = .returned (.tuple #[]) ∧
      Calls Tryd.prog 20 #[.pointer (some ⟨B2, 0, none⟩), .int .u8 (b : Nat)] u' fun e2 u2 => e2 = .returned (.tuple #[]) ∧ Ex b0 b1 b2 c1 c2 K W1 W2 B1 B2 S N x M w u2 l1 (l2 ++ [b]) :=
  (h.swap.byte1 f d.swap b hb).mono fun _ _ ⟨h1, h2⟩ => ⟨h1, h2.mono fun _ _ ⟨h3, h4⟩ => ⟨h3, h4.swap⟩⟩
theorem line_two {M : Ma} {l : List Nat} {a b : Nat} (h : if rightOf M then LineOf M l a else a = 0) (h2 : if rightOf M then LineOf M l b else b = 0) : a = b := by
  split at h
  · exact h.uniq (by simpa [*] using h2)
  · simp [*] at h2
    omega
theorem bts_past {s : ByteArray} {i : Nat} (h : s.size ≤ i) : (bts s).take (i + 1) = (bts s).take i := by
  rw [List.take_of_length_le (by rw [bts_length]; omega), List.take_of_length_le (by rw [bts_length]; omega)]
end Go.Proofs.YtmjnobdlgbojoaaDoor
