/- Book.whole: the book while its lists are written over. -/
import Derived.Test.YtmjnobdlgbojoaaDoorG21
import Derived.Deep.DeepAppendRoom
namespace Go.Proofs.YtmjnobdlgbojoaaDoor
open Go.RowKit

def Il (F : Nat → Int) (n : Nat) : List Value := (List.range n).map fun t => Value.int .i64 (F t)
theorem Il_length (F : Nat → Int) (n : Nat) : (Il F n).length = n := by simp [Il]
theorem Il_at (F : Nat → Int) {n t : Nat} (h : t < n) : (Il F n)[t]? = some (.int .i64 (F t)) := by simp [Il, h]
theorem Il_set (F : Nat → Int) (n t : Nat) (x : Int) : (Il F n).set t (.int .i64 x) = Il (fun s => if s = t then x else F s) n := by
  apply List.ext_getElem?
  intro k
  rw [List.getElem?_set]
  by_cases hk : k < n
  · rw [Il_at _ hk, Il_at _ hk, Il_length]
    by_cases e : t = k
    · subst e; simp [hk]
    · simp [e, show ¬ k = t from fun h => e h.symm]
  · rw [List.getElem?_eq_none (by rw [Il_length]; omega), List.getElem?_eq_none (by rw [Il_length]; omega), Il_length]
    split
    · split
      · omega
      · rfl
    · rfl
theorem ints_Il (l : List Nat) : ints l = Il (fun t => ((l.getD t 0 : Nat) : Int)) l.length := by
  apply List.ext_getElem?
  intro k
  by_cases hk : k < l.length
  · rw [Il_at _ hk]
    simp [ints, hk]
  · rw [List.getElem?_eq_none (by rw [ints_length]; omega), List.getElem?_eq_none (by rw [Il_length]; omega)]
/-- THE BOOK, its lists by their numbers. -/
structure Wh (b0 : Nat) (w u : World) (K : Nat) (VR VW : Value) (es : List Ent) (F : Nat → Nat → Int) : Prop where
  blk : BKB u K VR VW
  raw : RowV 39 u b0 VR (es.map Ent.raw)
  rows : ∀ (p : Nat) (e : Ent), es[p]? = some e → u.ownsRow b0 3 1 e.raw e.l.length (Il (F p) e.l.length)
  apart : (es.map Ent.g).Nodup
  low : Below b0 w u
theorem Bk.wh {b0 : Nat} {w u : World} {K : Nat} {VR VW : Value} {es : List Ent} (h : Bk b0 u K VR VW es) (hl : Below b0 w u) : Wh b0 w u K VR VW es (fun p t => (((es.map Ent.l).getD p []).getD t 0 : Nat)) := by
  refine ⟨h.blk, h.raw, fun p e hp => ?_, h.apart, hl⟩
  have h1 := (h.rows e (List.mem_of_getElem? hp)).1
  unfold Stk at h1
  rw [ints_Il] at h1
  have e2 : (es.map Ent.l).getD p [] = e.l := by simp [List.getD, hp]
  rw [e2]
  exact h1
theorem Wh.ty {b0 : Nat} {w u : World} {K : Nat} {VR VW : Value} {es : List Ent} {F : Nat → Nat → Int} (h : Wh b0 w u K VR VW es F) {p : Nat} {e : Ent} (hp : es[p]? = some e) : b0 ≤ e.g ∧ TyB u 3 e.g := by
  rcases (h.rows p e hp).2 with ⟨hv, _⟩ | ⟨g, cap, cur, hv, hbg, hg, _⟩
  · cases hv
  · unfold Ent.raw at hv
    cases hv
    exact ⟨hbg, _, _, hg⟩
theorem Wh.cell {b0 : Nat} {w u : World} {K : Nat} {VR VW : Value} {es : List Ent} {F : Nat → Nat → Int} (h : Wh b0 w u K VR VW es F) {p t : Nat} {e : Ent} (hp : es[p]? = some e) (ht : t < e.l.length) : u.cell? ⟨e.g, t, none⟩ = some (.int .i64 (F p t)) ∧ u.frozen? ⟨e.g, t, none⟩ = false := by
  rcases (h.rows p e hp).2 with ⟨hv, _⟩ | ⟨g, cap, cur, hv, hbg, hg, h1, h2, h3, h4⟩
  · cases hv
  · unfold Ent.raw at hv
    cases hv
    refine ⟨?_, by simp [World.frozen?, hg]⟩
    have e1 := Il_at (F p) ht
    rw [← h4, List.getElem?_take_of_lt (by omega)] at e1
    simp only [World.cell?, hg]
    simpa using e1
theorem ent_one {es : List Ent} (h : (es.map Ent.g).Nodup) {p p' : Nat} {e e' : Ent} (hp : es[p]? = some e) (hp' : es[p']? = some e') (hg : e.g = e'.g) : p = p' := by
  have h1 : (es.map Ent.g)[p]? = some e.g := by rw [List.getElem?_map, hp]; rfl
  have h2 : (es.map Ent.g)[p']? = some e.g := by rw [List.getElem?_map, hp', hg]; rfl
  have l1 := (List.getElem?_eq_some_iff.1 h1).1
  exact (List.getElem?_inj l1 h).1 (h1.trans h2.symm)
theorem Wh.put {b0 : Nat} {w u : World} {K : Nat} {VR VW : Value} {es : List Ent} {F : Nat → Nat → Int} (h : Wh b0 w u K VR VW es F) {p t : Nat} {e : Ent} (hp : es[p]? = some e) (x : Int) : Wh b0 w (u.setCell ⟨e.g, t, none⟩ (.int .i64 x)) K VR VW es (fun p' t' => if p' = p then (if t' = t then x else F p t') else F p' t') := by
  have hty := h.ty hp
  have oth : ∀ b, b ≠ e.g → (u.setCell ⟨e.g, t, none⟩ (.int .i64 x)).heap[b]? = u.heap[b]? := fun b hb => Below.heap_setCell u ⟨e.g, t, none⟩ _ b hb
  have ne : ∀ {b : Nat} {T : TypeId}, TyB u T b → T ≠ 3 → b ≠ e.g := fun {b T} hb hT hbe => hT (TyB.ne (hbe ▸ hb) hty.2)
  refine ⟨(oth K (ne h.blk.ty (by decide))).trans h.blk, h.raw.keep (fun b _ ht => oth b (ne ht (by decide))), fun p' e' hp' => ?_, h.apart, h.low.setCell hty.1 _⟩
  by_cases hpp : p' = p
  · subst hpp
    rw [hp] at hp'
    cases hp'
    have h1 := World.ownsRow.stored (h.rows p' e hp) t (.int .i64 x)
    rw [Il_set] at h1
    simp only [if_true]
    exact h1.1
  · simp only [if_neg hpp]
    refine ownsRow_keep (h.rows p' e' hp') (fun g hg _ _ => oth g (fun hge => hpp ?_))
    have hg2 : e'.g = g := by simpa [Ent.raw, Value.ownBlock] using hg
    exact (ent_one h.apart hp' hp (hg2.trans hge))
theorem Wh.later {b0 : Nat} {w u u' : World} {K : Nat} {VR VW : Value} {es : List Ent} {F : Nat → Nat → Int} (h : Wh b0 w u K VR VW es F) (hb0 : b0 ≤ u.heap.size) (hb : Below u.heap.size u u') : Wh b0 w u' K VR VW es F :=
  ⟨h.blk.later hb, h.raw.later hb, fun p e hp => ownsRow_keep (h.rows p e hp) (fun g _ _ hlt => hb.block g hlt), h.apart, h.low.trans (hb.mono hb0)⟩
end Go.Proofs.YtmjnobdlgbojoaaDoor

/- Book.whole: one number more behind a list: the list itself stands, and where the longer one lies. -/
namespace Go.Proofs.YtmjnobdlgbojoaaDoor
open Go.RowKit

theorem row_append_keeps {w w' : World} {B n g cap : Nat} {v' : Value} {xs : List Value} (h : w.ownsRow B 3 1 (.slice (some ⟨g, 0, none⟩) n cap) n xs) (ty : TypeId) (ad : Addr) (c : Nat) (x : Value) (hx1 : x.oneCell' = true) (hx : w.cell? (ad.add 0) = some x) (hl : n ≤ 1048576)
    (hrun : (Builtin.append_ #[39, 39] ty #[.slice (some ⟨g, 0, none⟩) n cap, .slice (some ad) 1 c]).run Tryd.prog w = .ok v' w') : w'.ownsRow B 3 1 (.slice (some ⟨g, 0, none⟩) n cap) n xs := by
  obtain ⟨h1, h2⟩ := h
  refine ⟨h1, ?_⟩
  rcases h2 with ⟨hv, hn⟩ | ⟨g', cap', cur, hv, hbg, hgc, hn1, hn2, hn3, hn4⟩
  · cases hv
  · cases hv
    obtain ⟨i0, hi, hz0, hz1, hz2⟩ := info_parts info3
    have hnews : ∀ j u, [x][j]? = some u → w.cell? (ad.add j) = some u := by
      intro j u hj
      cases j with
      | zero => simp at hj; subst hj; exact hx
      | succ j => simp at hj
    have hlen : (cur.toList.take (n * 1)).length = n * 1 := by
      have hcl : cur.toList.length = cur.size := Array.length_toList
      rw [List.length_take, hcl, hn3]
      exact Nat.min_eq_left (Nat.mul_le_mul_right _ hn1)
    by_cases hroom : n + 1 ≤ cap
    · have hfit : n * i0.size + [x].length ≤ cur.size := by rw [hz1, hn3]; simp; omega
      have hr := run_append_room (P := Tryd.prog) w 39 ty 3 i0 Tryd.underlying39 hi g n cap cur hgc ad 1 c [x] (by rw [hz1]; rfl) hnews (fun u hu => by simp at hu; subst hu; exact hx1) hroom hfit
      rw [hrun] at hr
      cases hr
      rw [hz1] at *
      refine Or.inr ⟨g, cap, _, rfl, hbg, setRow_heap w g cur _ _ (0, 0) hgc, hn1, hn2, ?_, ?_⟩
      · simp only [List.size_toArray, List.length_append, hlen, List.length_drop, Array.length_toList]
        simp only [List.length_cons, List.length_nil] at hfit ⊢
        omega
      · rw [← hn4, List.append_assoc, List.take_append_of_le_length (by rw [hlen]; exact Nat.le_refl _), List.take_take, Nat.min_self]
    · have hr := run_append_grow (P := Tryd.prog) w 39 ty 3 i0 _ Tryd.underlying39 hi hz0 ⟨g, 0, none⟩ n cap (cur.toList.take (n * 1)) (by rw [hz1]; exact hlen) (by
          intro j v hj
          have hlt : j < n * 1 := by
            have := (List.getElem?_eq_some_iff.1 hj).1
            rw [List.length_take] at this
            omega
          rw [List.getElem?_take_of_lt hlt, Array.getElem?_toList] at hj
          rw [Go.WideShapes.add_plain, Nat.zero_add]
          simp [World.cell?, hgc, hj]) ad 1 c [x] (by rw [hz1]; rfl) hnews (by omega) (by omega) (by
        rw [hz2]
        have e1 := nextslicecap_le (need := n + 1) (old := cap) (by omega)
        omega)
      rw [hrun] at hr
      cases hr
      exact Or.inr ⟨g, cap, cur, rfl, hbg, (heap_alloc_old w.drew _ (Array.getElem?_eq_some_iff.1 hgc).1).trans hgc, hn1, hn2, hn3, hn4⟩
theorem wpList_append_num {w : World} {ops : Array Oper} {rest : List Oper} {o : Oper} {a : Act} {Q : Exit → Act → World → Prop} (hgd : o.guard = none) (s y : Operand)
    (ho : o.op = .call { callee := .builtin .append, args := #[s, y], argTypes := #[39, 39] }) (B g n cap : Nat) (xs : List Value) (h : w.ownsRow B 3 1 (.slice (some ⟨g, 0, none⟩) n cap) n xs) (hs : a.eval s = .slice (some ⟨g, 0, none⟩) n cap) (ad : Addr) (c : Nat) (x : Int) (hy : a.eval y = .slice (some ad) 1 c) (hx : w.cell? (ad.add 0) = some (.int .i64 x)) (hl : n ≤ 1048576) (hB : B ≤ w.heap.size)
    (hk : ∀ g' c' w', w'.ownsRow B 3 1 (.slice (some ⟨g', 0, none⟩) (n + 1) c') (n + 1) (xs ++ [.int .i64 x]) → w'.ownsRow B 3 1 (.slice (some ⟨g, 0, none⟩) n cap) n xs → w.grownBy w' (some g) → (g = g' ∨ g' = w.heap.size) → wpList Tryd.prog ops Q rest (a.put o.dst (.slice (some ⟨g', 0, none⟩) (n + 1) c')) w') : wpList Tryd.prog ops Q (o :: rest) a w := by
  refine wpList_plain hgd fun K hK => ?_
  obtain ⟨i0, hi, hz0, hz1, hz2⟩ := info_parts info3
  have hnews : ∀ j u, [Value.int .i64 x][j]? = some u → w.cell? (ad.add j) = some u := by
    intro j u hj
    cases j with
    | zero => simp at hj; subst hj; exact hx
    | succ j => simp at hj
  obtain ⟨g', c', w', hr, ho2, hg, hgg, hlt⟩ := run_append_lies (P := Tryd.prog) w 39 o.type B 3 i0 _ 1 8 Tryd.underlying39 hi hz0 hz1 hz2 rfl (by decide) (.slice (some ⟨g, 0, none⟩) n cap) n xs h ad 1 c [.int .i64 x] rfl hnews
    (fun v hv => by simp at hv; subst hv; rfl) (by decide) (by simp only [maxLen]; omega) (by omega) hB w.heap.size rfl
  unfold Oper.wp execOp
  simp only [ho, resolve, invoke, builtin, Sem.run_bind, Sem.run_pure, Result.andThen_ok, List.map_toArray, List.map_cons, List.map_nil, hs, hy, hr]
  refine hK _ _ (hk g' c' w' ho2 (row_append_keeps h o.type ad c (.int .i64 x) rfl hx hl hr) hg ?_)
  rcases hgg with e | e
  · exact .inl (by simpa [Value.ownBlock] using e)
  · exact .inr e
end Go.Proofs.YtmjnobdlgbojoaaDoor

/- Book.whole: the lists lengthened: 'more'. -/
namespace Go.Proofs.YtmjnobdlgbojoaaDoor
open Go.RowKit

/-- one list more -/
theorem wpList_append_one {w : World} {ops : Array Oper} {rest : List Oper} {o : Oper} {a : Act} {Q : Exit → Act → World → Prop} (hgd : o.guard = none) (s y : Operand)
    (ho : o.op = .call { callee := .builtin .append, args := #[s, y], argTypes := #[53, 53] }) (base : Nat) (V : Value) (vs : List Value) (h : RowV 39 w base V vs) (hb : base ≤ w.heap.size) (hl : vs.length ≤ 1000) (hs : a.eval s = V) (ad : Addr) (k : Nat) (b1 : Option Addr) (n1 c1 : Nat) (hy : a.eval y = .slice (some ad) 1 k) (hc1 : w.cell? (ad.add 0) = some (.slice b1 n1 c1))
    (hk : ∀ g c w', RowV 39 w' base (.slice (some ⟨g, 0, none⟩) (vs.length + 1) c) (vs ++ [.slice b1 n1 c1]) → w.grownBy w' V.ownBlock → (V.ownBlock = some g ∨ g = w.heap.size) → wpList Tryd.prog ops Q rest (a.put o.dst (.slice (some ⟨g, 0, none⟩) (vs.length + 1) c)) w') : wpList Tryd.prog ops Q (o :: rest) a w := by
  refine wpList_plain hgd fun K hK => ?_
  obtain ⟨i0, hi, hz0, hz1, hz2⟩ := info_parts infoLI
  obtain ⟨g, cap', w', hr, ho2, hg, hgg, hlt⟩ := run_append_lies (P := Tryd.prog) w 53 o.type base 39 i0 _ 1 24 Tryd.underlying53 hi hz0 hz1 hz2 rfl (by decide) V vs.length vs h ad 1 k [.slice b1 n1 c1] rfl
    (fun j v hj => by
      match j, hj with
      | 0, hj => simp at hj; subst hj; exact hc1
      | j + 1, hj => simp at hj) (fun v hv => by simp at hv; subst hv; rfl) (by decide) (by simp only [maxLen]; omega) (by omega) hb w.heap.size rfl
  unfold Oper.wp execOp
  simp only [ho, resolve, invoke, builtin, Sem.run_bind, Sem.run_pure, Result.andThen_ok, List.map_toArray, List.map_cons, List.map_nil, hs, hy, hr]
  refine hK _ _ (hk g cap' w' ?_ hg hgg)
  unfold RowV
  rw [List.length_append]
  exact ho2
/-- a list of 'more' -/
structure Mt where
  g : Nat
  n : Nat
  c : Nat
def Mt.val (m : Mt) : Value := .slice (some ⟨m.g, 0, none⟩) m.n m.c
structure Mo (b0 : Nat) (w u : World) (K : Nat) (VR VW VM : Value) (es : List Ent) (F : Nat → Nat → Int) (ms : List Mt) : Prop where
  wh : Wh b0 w u K VR VW es F
  more : RowV 39 u b0 VM (ms.map Mt.val)
  two : ∀ b, VM.ownBlock = some b → VR.ownBlock ≠ some b
  len : ∀ (p : Nat) (m : Mt) (e : Ent), ms[p]? = some m → es[p]? = some e → m.n = e.l.length + 1
  rows : ∀ (p : Nat) (m : Mt), ms[p]? = some m → u.ownsRow b0 3 1 m.val m.n (Il (fun _ => -(p : Int) - 1) m.n)
  apart : (ms.map Mt.g).Nodup
  cross : ∀ (p q : Nat) (m : Mt) (e : Ent), ms[p]? = some m → es[q]? = some e → m.g = e.g → p = q
theorem Mo.start {b0 : Nat} {w u : World} {K : Nat} {VR VW : Value} {es : List Ent} {F : Nat → Nat → Int} (h : Wh b0 w u K VR VW es F) : Mo b0 w u K VR VW (.slice none 0 0) es F [] :=
  ⟨h, rowV_nil _ _ _, (fun b hb => nomatch hb), (fun p m e hm => by rw [List.getElem?_nil] at hm; exact nomatch hm), (fun p m hm => by rw [List.getElem?_nil] at hm; exact nomatch hm), List.nodup_nil, (fun p q m e hm => by rw [List.getElem?_nil] at hm; exact nomatch hm)⟩
theorem Mo.ty {b0 : Nat} {w u : World} {K : Nat} {VR VW VM : Value} {es : List Ent} {F : Nat → Nat → Int} {ms : List Mt} (h : Mo b0 w u K VR VW VM es F ms) {p : Nat} {m : Mt} (hp : ms[p]? = some m) : TyB u 3 m.g := by
  rcases (h.rows p m hp).2 with ⟨hv, _⟩ | ⟨g, cap, cur, hv, hbg, hg, _⟩
  · cases hv
  · unfold Mt.val at hv
    cases hv
    exact ⟨_, _, hg⟩
theorem Mo.later {b0 : Nat} {w u u' : World} {K : Nat} {VR VW VM : Value} {es : List Ent} {F : Nat → Nat → Int} {ms : List Mt} (h : Mo b0 w u K VR VW VM es F ms) (hb0 : b0 ≤ u.heap.size) (hb : Below u.heap.size u u') : Mo b0 w u' K VR VW VM es F ms :=
  ⟨h.wh.later hb0 hb, h.more.later hb, h.two, h.len, fun p m hp => ownsRow_keep (h.rows p m hp) (fun g _ _ hlt => hb.block g hlt), h.apart, h.cross⟩
theorem Il_more (x : Int) (n : Nat) : Il (fun _ => x) n ++ [.int .i64 x] = Il (fun _ => x) (n + 1) := by
  unfold Il
  rw [List.range_succ, List.map_append]
  rfl
theorem Il_eq {F G : Nat → Int} {n : Nat} (h : ∀ t, t < n → F t = G t) : Il F n = Il G n := by
  unfold Il
  refine List.map_congr_left fun t ht => ?_
  rw [h t (List.mem_range.1 ht)]
theorem below_grew {B : Nat} {u u' : World} {r : Option Nat} (h : u.grownBy u' r) (hB : B ≤ u.heap.size) (hr : ∀ k, r = some k → B ≤ k) : Below B u u' :=
  ⟨h.os, h.tape, h.output, h.size, fun k hk => h.block k (Nat.lt_of_lt_of_le hk hB) (fun e => absurd (hr k e.symm) (Nat.not_le.2 hk))⟩
theorem Mo.cell {b0 : Nat} {w u : World} {K : Nat} {VR VW VM : Value} {es : List Ent} {F : Nat → Nat → Int} {ms : List Mt} (h : Mo b0 w u K VR VW VM es F ms) {p t : Nat} {m : Mt} (hp : ms[p]? = some m) (ht : t < m.n) : u.cell? ⟨m.g, t, none⟩ = some (.int .i64 (-(p : Int) - 1)) := by
  rcases (h.rows p m hp).2 with ⟨hv, _⟩ | ⟨g, cap, cur, hv, hbg, hg, h1, h2, h3, h4⟩
  · cases hv
  · unfold Mt.val at hv
    cases hv
    have e1 := Il_at (fun _ => -(p : Int) - 1) ht
    rw [← h4, List.getElem?_take_of_lt (by omega)] at e1
    simp only [World.cell?, hg]
    simpa using e1
/-- the inner append: the book and what 'more' holds so far stand -/
theorem Mo.inner {b0 : Nat} {w u u' : World} {K : Nat} {VR VW VM : Value} {es : List Ent} {F : Nat → Nat → Int} {ms : List Mt} (h : Mo b0 w u K VR VW VM es F ms) {e : Ent} (he : es[ms.length]? = some e)
    (ho : u'.ownsRow b0 3 1 e.raw e.l.length (Il (F ms.length) e.l.length)) (hg : u.grownBy u' (some e.g)) (hl : Below b0 u u') : Mo b0 w u' K VR VW VM es F ms := by
  have hty := h.wh.ty he
  have oth : ∀ b, b < u.heap.size → b ≠ e.g → u'.heap[b]? = u.heap[b]? := fun b hlt hne => hg.block b hlt (fun e1 => hne (by cases e1; rfl))
  have ne : ∀ {b : Nat} {T : TypeId}, TyB u T b → T ≠ 3 → b ≠ e.g := fun {b T} hb hT hbe => hT (TyB.ne (hbe ▸ hb) hty.2)
  refine ⟨⟨(oth K h.wh.blk.lt (ne h.wh.blk.ty (by decide))).trans h.wh.blk, h.wh.raw.keep (fun b hlt ht => oth b hlt (ne ht (by decide))), fun p' e' hp' => ?_, h.wh.apart, h.wh.low.trans hl⟩, h.more.keep (fun b hlt ht => oth b hlt (ne ht (by decide))), h.two, h.len, fun p m hm => ?_, h.apart, h.cross⟩
  · by_cases hpp : p' = ms.length
    · subst hpp
      rw [he] at hp'
      cases hp'
      exact ho
    · refine ownsRow_keep (h.wh.rows p' e' hp') (fun g hg2 _ hlt => oth g hlt (fun hge => hpp ?_))
      have hg3 : e'.g = g := by simpa [Ent.raw, Value.ownBlock] using hg2
      exact (ent_one h.wh.apart hp' he (hg3.trans hge))
  · refine ownsRow_keep (h.rows p m hm) (fun g hg2 _ hlt => oth g hlt (fun hge => ?_))
    have hg3 : m.g = g := by simpa [Mt.val, Value.ownBlock] using hg2
    have hlt2 := (List.getElem?_eq_some_iff.1 hm).1
    have := h.cross p ms.length m e hm he (hg3.trans hge)
    omega
/-- the outer append: one list more in 'more' -/
theorem Mo.outer {b0 : Nat} {w u u' : World} {K : Nat} {VR VW VM : Value} {es : List Ent} {F : Nat → Nat → Int} {ms : List Mt} (h : Mo b0 w u K VR VW VM es F ms) {e : Ent} (he : es[ms.length]? = some e) {g' c' : Nat}
    (hn : u.ownsRow b0 3 1 (.slice (some ⟨g', 0, none⟩) (e.l.length + 1) c') (e.l.length + 1) (Il (fun _ => -(ms.length : Int) - 1) (e.l.length + 1)))
    (hx : g' = e.g ∨ ((∀ m ∈ ms, m.g ≠ g') ∧ ∀ e' ∈ es, e'.g ≠ g')) {G C : Nat} (hr : RowV 39 u' b0 (.slice (some ⟨G, 0, none⟩) (ms.length + 1) C) (ms.map Mt.val ++ [.slice (some ⟨g', 0, none⟩) (e.l.length + 1) c'])) (hg : u.grownBy u' VM.ownBlock) (hG : VM.ownBlock = some G ∨ G = u.heap.size) (hl : Below b0 u u') :
    Mo b0 w u' K VR VW (.slice (some ⟨G, 0, none⟩) (ms.length + 1) C) es F (ms ++ [⟨g', e.l.length + 1, c'⟩]) := by
  have oth : ∀ b, b < u.heap.size → VM.ownBlock ≠ some b → u'.heap[b]? = u.heap[b]? := fun b hlt hne => hg.block b hlt (fun e1 => hne e1.symm)
  have ne : ∀ {b : Nat} {T : TypeId}, TyB u T b → T ≠ 39 → VM.ownBlock ≠ some b := fun {b T} hb hT hbe => hT (TyB.ne hb (h.more.ty b hbe).2)
  have k3 : ∀ {V : Value} {n : Nat} {xs : List Value}, u.ownsRow b0 3 1 V n xs → u'.ownsRow b0 3 1 V n xs := fun {V n xs} hV => by
    refine ⟨hV.1, ?_⟩
    rcases hV.2 with h6 | ⟨g, cap, cur, hv, hB, hg1, rest⟩
    · exact Or.inl h6
    · exact Or.inr ⟨g, cap, cur, hv, hB, (oth g (Array.getElem?_eq_some_iff.1 hg1).1 (ne ⟨_, _, hg1⟩ (by decide))).trans hg1, rest⟩
  have hlast : ∀ {p : Nat} {m : Mt}, (ms ++ [⟨g', e.l.length + 1, c'⟩])[p]? = some m → ms[p]? = some m ∨ (p = ms.length ∧ m = ⟨g', e.l.length + 1, c'⟩) := by
    intro p m hm
    by_cases hlt : p < ms.length
    · rw [List.getElem?_append_left hlt] at hm
      exact .inl hm
    · rw [List.getElem?_append_right (by omega)] at hm
      have hp0 : p - ms.length < 1 := (List.getElem?_eq_some_iff.1 hm).1
      have hp : p = ms.length := by omega
      subst hp
      simp at hm
      exact .inr ⟨rfl, hm.symm⟩
  have hfresh : ∀ m ∈ ms, m.g ≠ g' := by
    rcases hx with rfl | ⟨h1, _⟩
    · intro m hm hmg
      obtain ⟨p, hp⟩ := List.getElem?_of_mem hm
      have hlt := (List.getElem?_eq_some_iff.1 hp).1
      have := h.cross p ms.length m e hp he hmg
      omega
    · exact h1
  refine ⟨⟨(oth K h.wh.blk.lt (ne h.wh.blk.ty (by decide))).trans h.wh.blk, ?_, fun p e' hp => k3 (h.wh.rows p e' hp), h.wh.apart, h.wh.low.trans hl⟩, ?_, fun b hb hV => ?_, fun p m e' hm he' => ?_, fun p m hm => ?_, ?_, fun p q m e' hm he' hge => ?_⟩
  · refine ⟨h.wh.raw.1, ?_⟩
    rcases h.wh.raw.2 with h6 | ⟨g, cap, cur, hv, hB, hg1, rest⟩
    · exact Or.inl h6
    · exact Or.inr ⟨g, cap, cur, hv, hB, (oth g (Array.getElem?_eq_some_iff.1 hg1).1 (fun hV => h.two g hV (by rw [hv]; rfl))).trans hg1, rest⟩
  · have e1 : (ms ++ [(⟨g', e.l.length + 1, c'⟩ : Mt)]).map Mt.val = ms.map Mt.val ++ [.slice (some ⟨g', 0, none⟩) (e.l.length + 1) c'] := by simp [Mt.val]
    rw [e1]
    exact hr
  · have hb2 : G = b := by simpa [Value.ownBlock] using hb
    subst hb2
    rcases hG with h1 | h1
    · exact h.two _ h1 hV
    · obtain ⟨_, _, _, h2⟩ := h.wh.raw.ty G hV
      have := (Array.getElem?_eq_some_iff.1 h2).1
      omega
  · rcases hlast hm with h1 | ⟨rfl, rfl⟩
    · exact h.len p m e' h1 he'
    · rw [he] at he'
      cases he'
      rfl
  · rcases hlast hm with h1 | ⟨rfl, rfl⟩
    · exact k3 (h.rows p m h1)
    · exact k3 hn
  · rw [List.map_append, List.nodup_append]
    refine ⟨h.apart, by simp, fun a ha b hb2 => ?_⟩
    simp at hb2
    subst hb2
    obtain ⟨m, hm, rfl⟩ := List.mem_map.1 ha
    exact hfresh m hm
  · rcases hlast hm with h1 | ⟨rfl, rfl⟩
    · exact h.cross p q m e' h1 he' hge
    · rcases hx with hx | ⟨_, hx⟩
      · exact (ent_one h.wh.apart he' he (hge.symm.trans hx)).symm
      · exact absurd hge.symm (hx e' (List.mem_of_getElem? he'))
end Go.Proofs.YtmjnobdlgbojoaaDoor
