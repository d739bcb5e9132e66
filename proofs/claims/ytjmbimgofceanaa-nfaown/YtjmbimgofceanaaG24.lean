/- Trees in new memory; rows of nodes of the call's own; a list of nodes that is filled. -/
import Derived.Test.YtjmbimgofceanaaG16
import Derived.Test.YtjmbimgofceanaaG23
import Derived.Test.YtjmbimgofceanaaG22
namespace Go.Proofs.Ytjmbimgofceanaa
open Go.RowKit
attribute [local go_sem ↓] Go.wp_at_zero Go.wp_at_succ

/-- A TREE IN MEMORY, whose lists lie in blocks of a kind. -/
inductive NwAt (X : Nat → Prop) (w : World) : Tn → Nd → Prop
  | mk (k : Int) (s : Oct.S) (subs : List Tn) (mn mx : Int) (a : Option Addr) (n c : Nat) (vs : List Nd) (hn : n = subs.length) (hl : vs.length = n) (hm : n ≤ 1000000) (hr : RowAt X w a vs)
      (hs : ∀ (i : Nat) (t : Tn) (v : Nd), subs[i]? = some t → vs[i]? = some v → NwAt X w t v) : NwAt X w (.mk k s subs mn mx) ⟨k, s, a, n, c, mn, mx⟩
theorem NwAt.keep {X Y : Nat → Prop} {w w' : World} {t : Tn} {x : Nd} (h : NwAt X w t x) (hXY : ∀ b, X b → b < w.heap.size → Y b) (hk : ∀ b, X b → b < w.heap.size → w'.heap[b]? = w.heap[b]?) : NwAt Y w' t x := by
  induction h with
  | mk k s subs mn mx a n c vs hn hl hm hr hs ih => exact .mk k s subs mn mx a n c vs hn hl hm (hr.keep hXY hk) (fun i t v ht hv => ih i t v ht hv)
theorem NwAt.later {X : Nat → Prop} {w w' : World} {t : Tn} {x : Nd} (h : NwAt X w t x) (hb : Below w.heap.size w w') : NwAt X w' t x := h.keep (fun _ h _ => h) (fun b _ hlt => hb.block b hlt)
theorem NwAt.inAt {X : Nat → Prop} {w : World} {t : Tn} {x : Nd} (h : NwAt X w t x) : InAt w t x := by
  induction h with
  | mk k s subs mn mx a n c vs hn hl hm hr hs ih => exact .mk k s subs mn mx a n c vs hn hl hm (hr.keep (fun _ _ _ => trivial) (fun _ _ _ => rfl)) (fun i t v ht hv => ih i t v ht hv)
theorem NwAt.kind {X : Nat → Prop} {w : World} {t : Tn} {x : Nd} (h : NwAt X w t x) : x.k = kindT t := by
  cases h
  rfl
theorem NwAt.leaf (X : Nat → Prop) (w : World) (k : Int) (s : Oct.S) (mn mx : Int) (a : Option Addr) (c : Nat) : NwAt X w (.mk k s [] mn mx) ⟨k, s, a, 0, c, mn, mx⟩ :=
  .mk k s [] mn mx a 0 c [] rfl rfl (Nat.zero_le _) (Or.inl rfl) (fun i t v h => by simp at h)
theorem infoN : (Try.prog.info? 30).map (fun i => (i.zero, i.size, i.bytes)) = some (some (.agg #[.int .i64 0, .int .u64 0, .int .u64 0, .int .u64 0, .int .u64 0, .slice none 0 0, .int .i64 0, .int .i64 0]), 8, 80) := by kernel_rfl
/-- A ROW OF NODES OF THE CALL's OWN. -/
def RowN (w : World) (base : Nat) (V : Value) (ts : List Tn) : Prop :=
  ∃ vs : List Nd, vs.length = ts.length ∧ w.ownsRow base 30 8 V ts.length (flatN vs) ∧ ∀ (i : Nat) (t : Tn) (v : Nd), ts[i]? = some t → vs[i]? = some v → NwAt (fun b => base ≤ b ∧ V.ownBlock ≠ some b) w t v
theorem rowN_nil (w : World) (base : Nat) : RowN w base (.slice none 0 0) [] := ⟨[], rfl, World.ownsRow_nil w base 30 8, fun i t v h => by simp at h⟩
theorem RowN.keep {w w' : World} {base : Nat} {V : Value} {ts : List Tn} (h : RowN w base V ts) (hk : ∀ b, base ≤ b → b < w.heap.size → w'.heap[b]? = w.heap[b]?) : RowN w' base V ts := by
  obtain ⟨vs, h1, h2, h3⟩ := h
  exact ⟨vs, h1, ownsRow_keep h2 (fun g _ hb hlt => hk g hb hlt), fun i t v ht hv => (h3 i t v ht hv).keep (fun _ h _ => h) (fun b hb hlt => hk b hb.1 hlt)⟩
theorem RowN.form {w : World} {base : Nat} {V : Value} {ts : List Tn} (h : RowN w base V ts) : ∃ (a : Option Addr) (c : Nat), V = .slice a ts.length c ∧ ts.length ≤ c ∧ c ≤ maxLen := by
  obtain ⟨vs, _, h2, _⟩ := h
  rcases h2.2 with ⟨hv, hn⟩ | ⟨g, cap, cur, hv, hbg, hg, h1, h2, h3, h4⟩
  · exact ⟨none, 0, by rw [hv, hn], by omega, by decide⟩
  · exact ⟨_, cap, hv, h1, h2⟩
theorem RowN.own {w : World} {base : Nat} {V : Value} {ts : List Tn} (h : RowN w base V ts) : ∀ k, V.ownBlock = some k → base ≤ k ∧ k < w.heap.size := by
  obtain ⟨vs, _, h2, _⟩ := h
  intro k hk
  rcases h2.2 with ⟨rfl, _⟩ | ⟨g, _, _, rfl, hb, hg, _⟩
  · simp [Value.ownBlock] at hk
  · simp [Value.ownBlock] at hk
    subst hk
    exact ⟨hb, (Array.getElem?_eq_some_iff.1 hg).1⟩
/-- a node's list out of a row -/
theorem RowN.node {w : World} {base n c : Nat} {a : Option Addr} {ts : List Tn} (h : RowN w base (.slice a n c) ts) (hn : n = ts.length) (hm : n ≤ 1000000) (k : Int) (mn mx : Int) : NwAt (fun b => base ≤ b) w (.mk k Oct.none ts mn mx) ⟨k, Oct.none, a, n, c, mn, mx⟩ := by
  obtain ⟨vs, h1, h2, h3⟩ := h
  refine .mk k Oct.none ts mn mx a n c vs hn (by omega) hm ?_ (fun i t v ht hv => (h3 i t v ht hv).keep (fun b hb _ => hb.1) (fun _ _ _ => rfl))
  rcases h2.2 with ⟨hv, hz⟩ | ⟨g, cap, cur, hv, hbg, hg, g1, g2, g3, g4⟩
  · exact Or.inl (List.length_eq_zero_iff.1 (h1.trans hz))
  · cases hv
    refine Or.inr ⟨g, 0, rfl, hbg, fun j v hj => ?_⟩
    have hlt := (List.getElem?_eq_some_iff.1 hj).1
    rw [flatN_length] at hlt
    rw [← g4, List.getElem?_take_of_lt (by omega)] at hj
    simp only [World.cell?, hg, Nat.zero_add]
    simpa using hj
theorem RowN.first {w : World} {base c : Nat} {a : Option Addr} {t : Tn} (h : RowN w base (.slice a 1 c) [t]) : ∃ g x, a = some ⟨g, 0, none⟩ ∧ NwAt (fun b => base ≤ b) w t x ∧ (∀ j v, x.cells[j]? = some v → w.cell? ⟨g, j, none⟩ = some v) := by
  obtain ⟨vs, h1, h2, h3⟩ := h
  match vs, h1 with
  | [x], _ =>
    rcases h2.2 with ⟨hv, hz⟩ | ⟨g, cap, cur, hv, hbg, hg, g1, g2, g3, g4⟩
    · simp at hz
    · cases hv
      refine ⟨g, x, rfl, (h3 0 t x rfl rfl).keep (fun b hb _ => hb.1) (fun _ _ _ => rfl), fun j v hj => ?_⟩
      have e : flatN [x] = x.cells := by simp [flatN]
      have hlt := (List.getElem?_eq_some_iff.1 hj).1
      have hl : x.cells.length = 8 := rfl
      rw [← e, ← g4, List.getElem?_take_of_lt (by simp; omega)] at hj
      simp only [World.cell?, hg]
      simpa using hj
theorem run_append_nodeN (w : World) (ty : TypeId) (base : Nat) (V : Value) (ts : List Tn) (h : RowN w base V ts) (ad : Addr) (cap : Nat) (x : Nd) (t : Tn) (hx : NwAt (fun b => base ≤ b ∧ V.ownBlock ≠ some b) w t x) (hc : ∀ j v, x.cells[j]? = some v → w.cell? (ad.add j) = some v) (hl : ts.length ≤ 1000000) (hb : base ≤ w.heap.size) :
    ∃ g cap' w', (Builtin.append_ #[28, 28] ty #[V, .slice (some ad) 1 cap]).run Try.prog w = .ok (.slice (some ⟨g, 0, none⟩) (ts.length + 1) cap') w' ∧ RowN w' base (.slice (some ⟨g, 0, none⟩) (ts.length + 1) cap') (ts ++ [t]) ∧ w.grownBy w' V.ownBlock := by
  have hvb := h.own
  obtain ⟨vs, h1, h2, h5⟩ := h
  obtain ⟨i0, hi, hz0, hz1, hz2⟩ := info_parts infoN
  obtain ⟨g, cap', w', hr, ho, hg, hgg, hlt⟩ := run_append_lies (P := Try.prog) w 28 ty base 30 i0 _ 8 80 Try.underlying28 hi hz0 hz1 hz2 rfl (by decide) V ts.length (flatN vs) h2 ad 1 cap x.cells rfl hc
    (by have := flatN_one [x]; simpa [flatN] using this) (by decide) (by simp only [maxLen]; omega) (by omega) hb w.heap.size rfl
  have hkeep : ∀ (t' : Tn) (v' : Nd), NwAt (fun b => base ≤ b ∧ V.ownBlock ≠ some b) w t' v' → NwAt (fun b => base ≤ b ∧ (Value.slice (some ⟨g, 0, none⟩) (ts.length + 1) cap').ownBlock ≠ some b) w' t' v' := fun t' v' hn =>
    hn.keep (fun b hb hlt => ⟨hb.1, by
      simp only [Value.ownBlock, ne_eq, Option.some.injEq]
      rcases hgg with hgg | hgg
      · intro e; subst e; exact hb.2 hgg
      · omega⟩) (fun b hb hlt => hg.block b hlt (fun e => hb.2 e.symm))
  refine ⟨g, cap', w', hr, ⟨vs ++ [x], by simp [h1], ?_, fun i t' v' ht hv => ?_⟩, hg⟩
  · rw [flatN_append, List.length_append]
    have e : flatN [x] = x.cells := by simp [flatN]
    rw [e]
    exact ho
  · by_cases hlt2 : i < ts.length
    · rw [List.getElem?_append_left hlt2] at ht
      rw [List.getElem?_append_left (by omega)] at hv
      exact hkeep t' v' (h5 i t' v' ht hv)
    · rw [List.getElem?_append_right (by omega)] at ht
      rw [List.getElem?_append_right (by omega), h1] at hv
      have e0 : i - ts.length = 0 := by
        have := (List.getElem?_eq_some_iff.1 ht).1
        simp at this
        omega
      rw [e0] at ht hv
      simp at ht hv
      subst ht hv
      exact hkeep t x hx
theorem wpList_append_nodeN {w : World} {ops : Array Oper} {rest : List Oper} {o : Oper} {a : Act} {Q : Exit → Act → World → Prop} (hgd : o.guard = none) (s y : Operand)
    (ho : o.op = .call { callee := .builtin .append, args := #[s, y], argTypes := #[28, 28] })
    (base : Nat) (V : Value) (ts : List Tn) (hs : a.eval s = V) (hn : RowN w base V ts) (ad : Addr) (cap : Nat) (x : Nd) (t : Tn) (hy : a.eval y = .slice (some ad) 1 cap) (hx : NwAt (fun b => base ≤ b ∧ V.ownBlock ≠ some b) w t x) (hc : ∀ j v, x.cells[j]? = some v → w.cell? (ad.add j) = some v) (hl : ts.length ≤ 1000000) (hb : base ≤ w.heap.size)
    (h : ∀ g cap' w', RowN w' base (.slice (some ⟨g, 0, none⟩) (ts.length + 1) cap') (ts ++ [t]) → w.grownBy w' V.ownBlock → wpList Try.prog ops Q rest (a.put o.dst (.slice (some ⟨g, 0, none⟩) (ts.length + 1) cap')) w') : wpList Try.prog ops Q (o :: rest) a w := by
  refine wpList_plain hgd fun K hK => ?_
  obtain ⟨g, cap', w', hr, h2, h3⟩ := run_append_nodeN w o.type base V ts hn ad cap x t hx hc hl hb
  unfold Oper.wp execOp
  simp only [ho, resolve, invoke, builtin, Sem.run_bind, Sem.run_pure, Result.andThen_ok, List.map_toArray, List.map_cons, List.map_nil, hs, hy, hr]
  exact hK _ _ (h g cap' w' h2 h3)
theorem cells_newN (u : World) (x : Nd) : ∀ j v, x.cells[j]? = some v → (u.alloc (.cells #[.int .i64 x.k, .int .u64 (Oct.word x.s 0 : Nat), .int .u64 (Oct.word x.s 1 : Nat), .int .u64 (Oct.word x.s 2 : Nat), .int .u64 (Oct.word x.s 3 : Nat), .slice x.a x.n x.c, .int .i64 x.mn, .int .i64 x.mx] 30)).cell? ((⟨u.heap.size, 0, none⟩ : Addr).add j) = some v := by
  intro j v hj
  rw [Go.WideShapes.add_plain, Nat.zero_add, World.cell?_alloc_mark]
  simpa [Nd.cells] using hj
/-- a list of one node, as it is made -/
theorem rowN_one {u : World} {base : Nat} {t : Tn} {x : Nd} (hx : NwAt (fun b => base ≤ b) u t x) (hb : base ≤ u.heap.size) : RowN (u.alloc (.cells #[.int .i64 x.k, .int .u64 (Oct.word x.s 0 : Nat), .int .u64 (Oct.word x.s 1 : Nat), .int .u64 (Oct.word x.s 2 : Nat), .int .u64 (Oct.word x.s 3 : Nat), .slice x.a x.n x.c, .int .i64 x.mn, .int .i64 x.mx] 30)) base (.slice (some ⟨u.heap.size, 0, none⟩) 1 1) [t] := by
  refine ⟨[x], rfl, ⟨by rw [flatN_length]; rfl, Or.inr ⟨u.heap.size, 1, _, rfl, hb, heap_alloc_new u _, Nat.le_refl _, by simp [maxLen], rfl, by simp [flatN, Nd.cells]⟩⟩, fun i t' v' h1 h2 => ?_⟩
  cases i with
  | zero =>
    simp at h1 h2
    subst h1 h2
    exact hx.keep (fun b hb2 hlt => ⟨hb2, by simp [Value.ownBlock]; omega⟩) (fun b _ hlt => ((Below.refl _ u).alloc (Nat.le_refl _) _).block b hlt)
  | succ i => simp at h1
/-! ### a list that is filled -/
/-- the first of n nodes of a block are written -/
def Fil (w : World) (base G n : Nat) (ts : List Tn) : Prop := base ≤ G ∧ n ≤ 1000000 ∧ ∃ (cur : Array Value) (vs : List Nd), w.heap[G]? = some (.cells cur 30 (0, 0)) ∧ cur.size = n * 8 ∧ vs.length = ts.length ∧ ts.length ≤ n ∧ cur.toList.take (ts.length * 8) = flatN vs ∧ ∀ (i : Nat) (t : Tn) (v : Nd), ts[i]? = some t → vs[i]? = some v → NwAt (fun b => base ≤ b ∧ b ≠ G) w t v
theorem Fil.lt {w : World} {base G n : Nat} {ts : List Tn} (h : Fil w base G n ts) : G < w.heap.size := by
  obtain ⟨_, _, cur, vs, h1, _⟩ := h
  exact (Array.getElem?_eq_some_iff.1 h1).1
theorem Fil.later {w w' : World} {base G n : Nat} {ts : List Tn} (h : Fil w base G n ts) (hb : Below w.heap.size w w') : Fil w' base G n ts := by
  have hlt := h.lt
  obtain ⟨h0, h00, cur, vs, h1, h2, h3, h4, h5, h6⟩ := h
  exact ⟨h0, h00, cur, vs, (hb.block G hlt).trans h1, h2, h3, h4, h5, fun i t v ht hv => (h6 i t v ht hv).later hb⟩
theorem Fil.cell {w : World} {base G n : Nat} {ts : List Tn} (h : Fil w base G n ts) (j : Nat) (hj : j < n * 8) : ∃ v, w.cell? ⟨G, j, none⟩ = some v := by
  obtain ⟨h0, h00, cur, vs, h1, h2, h3, h4, h5, h6⟩ := h
  refine ⟨cur[j]'(by omega), ?_⟩
  simp [World.cell?, h1, show j < cur.size by omega]
theorem Fil.frozen {w : World} {base G n : Nat} {ts : List Tn} (h : Fil w base G n ts) (j : Nat) : w.frozen? ⟨G, j, none⟩ = false := by
  obtain ⟨h0, h00, cur, vs, h1, h2⟩ := h
  simp [World.frozen?, h1]
/-- a node stored into a list, as the walk leaves it -/
def putN (w : World) (A o : Nat) (x : Nd) : World := ((((((((w.setCell ⟨A, o, none⟩ (.int .i64 x.k)).setCell ⟨A, o + 1, none⟩ (.int .u64 (Oct.word x.s 0 : Nat))).setCell ⟨A, o + 2, none⟩ (.int .u64 (Oct.word x.s 1 : Nat))).setCell ⟨A, o + 3, none⟩ (.int .u64 (Oct.word x.s 2 : Nat))).setCell ⟨A, o + 4, none⟩ (.int .u64 (Oct.word x.s 3 : Nat))).setCell ⟨A, o + 5, none⟩ (.slice x.a x.n x.c)).setCell ⟨A, o + 6, none⟩ (.int .i64 x.mn)).setCell ⟨A, o + 7, none⟩ (.int .i64 x.mx))
theorem heap_putN (w : World) (A o : Nat) (x : Nd) (b : Nat) (h : b ≠ A) : (putN w A o x).heap[b]? = w.heap[b]? := by
  unfold putN
  rw [Below.heap_setCell _ ⟨A, o + 7, none⟩ _ b h, Below.heap_setCell _ ⟨A, o + 6, none⟩ _ b h, Below.heap_setCell _ ⟨A, o + 5, none⟩ _ b h, Below.heap_setCell _ ⟨A, o + 4, none⟩ _ b h, Below.heap_setCell _ ⟨A, o + 3, none⟩ _ b h, Below.heap_setCell _ ⟨A, o + 2, none⟩ _ b h, Below.heap_setCell _ ⟨A, o + 1, none⟩ _ b h, Below.heap_setCell _ ⟨A, o, none⟩ _ b h]
theorem below_putN {w u : World} {base : Nat} (h : Below base w u) {G : Nat} (hG : base ≤ G) (o : Nat) (x : Nd) : Below base w (putN u G o x) := by
  unfold putN
  exact ((((((((h.setCell (p := ⟨G, o, none⟩) hG _).setCell (p := ⟨G, o + 1, none⟩) hG _).setCell (p := ⟨G, o + 2, none⟩) hG _).setCell (p := ⟨G, o + 3, none⟩) hG _).setCell (p := ⟨G, o + 4, none⟩) hG _).setCell (p := ⟨G, o + 5, none⟩) hG _).setCell (p := ⟨G, o + 6, none⟩) hG _).setCell (p := ⟨G, o + 7, none⟩) hG _)
theorem Fil.put {w : World} {base G n : Nat} {ts : List Tn} (h : Fil w base G n ts) (hm : ts.length < n) {x : Nd} {t : Tn} (hx : NwAt (fun b => base ≤ b ∧ b ≠ G) w t x) : Fil (putN w G (ts.length * 8) x) base G n (ts ++ [t]) := by
  obtain ⟨h0, h00, cur, vs, hg, h2, h3, h4, h5, h6⟩ := h
  obtain ⟨m, hmm⟩ : ∃ m, ts.length = m := ⟨_, rfl⟩
  rw [hmm] at hm h4 h5 h3 ⊢
  have hs : cur.size = cur.toList.length := by simp
  have e := (heap_set (heap_set (heap_set (heap_set (heap_set (heap_set (heap_set (heap_set hg (m * 8) (.int .i64 x.k)) (m * 8 + 1) (.int .u64 (Oct.word x.s 0 : Nat))) (m * 8 + 2) (.int .u64 (Oct.word x.s 1 : Nat))) (m * 8 + 3) (.int .u64 (Oct.word x.s 2 : Nat))) (m * 8 + 4) (.int .u64 (Oct.word x.s 3 : Nat))) (m * 8 + 5) (.slice x.a x.n x.c)) (m * 8 + 6) (.int .i64 x.mn)) (m * 8 + 7) (.int .i64 x.mx))
  have hk : ∀ (t' : Tn) (v' : Nd), NwAt (fun b => base ≤ b ∧ b ≠ G) w t' v' → NwAt (fun b => base ≤ b ∧ b ≠ G) (putN w G (m * 8) x) t' v' := fun t' v' hn => hn.keep (fun _ h _ => h) (fun b hb _ => heap_putN w G (m * 8) x b hb.2)
  refine ⟨h0, h00, _, vs ++ [x], e, by simp only [Array.size_setIfInBounds]; exact h2, by simp [h3, hmm], by simp [hmm]; omega, ?_, fun i t' v' ht hv => ?_⟩
  · rw [flatN_append, List.length_append, hmm, ← h5]
    have e1 : flatN [x] = [.int .i64 x.k, .int .u64 (Oct.word x.s 0 : Nat), .int .u64 (Oct.word x.s 1 : Nat), .int .u64 (Oct.word x.s 2 : Nat), .int .u64 (Oct.word x.s 3 : Nat), .slice x.a x.n x.c, .int .i64 x.mn, .int .i64 x.mx] := by simp [flatN, Nd.cells]
    rw [e1]
    show List.take ((m + 1) * 8) _ = _
    simp only [Array.toList_setIfInBounds]
    apply List.ext_getElem?
    intro j
    have hl : (cur.toList.take (m * 8)).length = m * 8 := by rw [List.length_take]; omega
    by_cases hj : j < m * 8
    · rw [List.getElem?_append_left (by omega), List.getElem?_take_of_lt (by omega), List.getElem?_take_of_lt hj]
      rw [List.getElem?_set_ne (by omega), List.getElem?_set_ne (by omega), List.getElem?_set_ne (by omega), List.getElem?_set_ne (by omega), List.getElem?_set_ne (by omega), List.getElem?_set_ne (by omega), List.getElem?_set_ne (by omega), List.getElem?_set_ne (by omega)]
    · by_cases hj2 : j < (m + 1) * 8
      · rw [List.getElem?_take_of_lt hj2, List.getElem?_append_right (by omega), hl]
        have h8 : j = m * 8 ∨ j = m * 8 + 1 ∨ j = m * 8 + 2 ∨ j = m * 8 + 3 ∨ j = m * 8 + 4 ∨ j = m * 8 + 5 ∨ j = m * 8 + 6 ∨ j = m * 8 + 7 := by omega
        rcases h8 with rfl | rfl | rfl | rfl | rfl | rfl | rfl | rfl
        all_goals
          simp [List.getElem?_set]
          try omega
      · rw [List.getElem?_eq_none (by simp; omega), List.getElem?_eq_none (by simp; omega)]
  · by_cases hlt2 : i < ts.length
    · rw [List.getElem?_append_left hlt2] at ht
      rw [List.getElem?_append_left (by omega)] at hv
      exact hk t' v' (h6 i t' v' ht hv)
    · rw [List.getElem?_append_right (by omega)] at ht
      rw [List.getElem?_append_right (by omega), h3] at hv
      have e0 : i - ts.length = 0 := by
        have := (List.getElem?_eq_some_iff.1 ht).1
        simp at this
        omega
      rw [hmm] at e0
      rw [hmm, e0] at ht
      rw [e0] at hv
      simp at ht hv
      subst ht hv
      exact hk t x hx
theorem Fil.node {w : World} {base G n : Nat} {ts : List Tn} (h : Fil w base G n ts) (hn : n = ts.length) (k mn mx : Int) : NwAt (fun b => base ≤ b) w (.mk k Oct.none ts mn mx) ⟨k, Oct.none, some ⟨G, 0, none⟩, n, n, mn, mx⟩ := by
  obtain ⟨h0, h00, cur, vs, hg, h2, h3, h4, h5, h6⟩ := h
  refine .mk k Oct.none ts mn mx _ n n vs hn (by omega) h00 (Or.inr ⟨G, 0, rfl, h0, fun j v hj => ?_⟩) (fun i t v ht hv => (h6 i t v ht hv).keep (fun b hb _ => hb.1) (fun _ _ _ => rfl))
  have hlt := (List.getElem?_eq_some_iff.1 hj).1
  rw [flatN_length] at hlt
  rw [← h5, List.getElem?_take_of_lt (by omega)] at hj
  simp only [World.cell?, hg, Nat.zero_add]
  simpa using hj
theorem wpList_make_nodes {w : World} {ops : Array Oper} {rest : List Oper} {o : Oper} {a : Act} {Q : Exit → Act → World → Prop} (hgd : o.guard = none) (l c : Operand)
    (ho : o.op = Op.makeSlice 28 l c) (base n : Nat) (hb : base ≤ w.heap.size) (hl : a.eval l = .int .i64 (n : Nat)) (hc : a.eval c = .int .i64 (n : Nat)) (hn : n ≤ 1000000)
    (h : ∀ w', Fil w' base w.heap.size n [] → Below w.heap.size w w' → wpList Try.prog ops Q rest (a.put o.dst (.slice (some ⟨w.heap.size, 0, none⟩) n n)) w') : wpList Try.prog ops Q (o :: rest) a w := by
  obtain ⟨i0, hi, hz0, hz1, hz2⟩ := info_parts infoN
  refine wpList_make_full (P := Try.prog) w hgd l c 28 ho base 30 i0 _ 8 Try.underlying28 hi hz0 hz1 .i64 .i64 (n : Nat) (n : Nat) n hl hc rfl rfl (by rw [hz2]; omega) (by simp only [maxLen]; omega) hb ?_
  intro w' h1 h2
  refine h w' ?_ ((Below.refl _ _).grown h2 (Nat.le_refl _) (fun k hk => by cases hk))
  rcases h1.2 with ⟨hv, hz⟩ | ⟨g, cap, cur, hv, hbg, hg, g1, g2, g3, g4⟩
  · cases hv
  · cases hv
    exact ⟨hb, hn, cur, [], hg, g3, rfl, Nat.zero_le _, by simp [flatN], fun i t v h => by simp at h⟩
end Go.Proofs.Ytjmbimgofceanaa

/- The program's lay of any tree without repeats of nothing. -/
namespace Go.Proofs.Ytjmbimgofceanaa
open Go.RowKit
attribute [local go_sem ↓] Go.wp_at_zero Go.wp_at_succ

theorem wb_cell {u : World} {Y k : Nat} {x : Value} (h : WB u Y) (hx : (#[Value.nilFunc, .func (.func 45) #[] #[], .func (.func 46) #[] #[], .func (.func 47) #[] #[], .func (.func 48) #[] #[], .func (.func 49) #[] #[], .func (.func 50) #[] #[], .func (.func 51) #[] #[]] : Array Value)[k]? = some x) : u.cell? ⟨Y, k, none⟩ = some x := by
  unfold WB at h
  simp only [World.cell?, h]
  simpa using hx
theorem blay_any {w0 : World} {B : Nat} {t : Tn} {x : Nd} (h : NwAt (fun b => b ≠ B) w0 t x) : (plc t).2 = true → tidy t = true → LayV w0 B t x := by
  induction h with
  | mk k s subs mn mx a n c vs hn hl hm hr hin ih =>
    intro hp hti
    obtain ⟨hsh, hsub⟩ := plc_subs hp
    rw [tidy, Bool.and_eq_true] at hti
    have hts := (tidys_iff _).1 hti.2
    have hs : ∀ (i : Nat) (t : Tn) (v : Nd), subs[i]? = some t → vs[i]? = some v → LayV w0 B t v := fun i t v ht hv => ih i t v ht hv (hsub t (List.mem_of_getElem? ht)) (hts t (List.mem_of_getElem? ht))
    rcases shp_kind hsh with rfl | rfl | rfl | rfl | rfl | rfl | rfl
    · exact disp_any (k := 1) rfl (by decide) ent45 (fun u Y h => wb_cell h rfl) (way_1 hn hl hm hr hs)
    · exact disp_any (k := 2) rfl (by decide) ent46 (fun u Y h => wb_cell h rfl) (way_2 hn hl hm hr hs)
    · exact disp_any (k := 3) rfl (by decide) ent47 (fun u Y h => wb_cell h rfl) (way_seq hn hl hm hr hs)
    · exact disp_any (k := 4) rfl (by decide) ent48 (fun u Y h => wb_cell h rfl) (way_alt hn hl hm hr hs)
    · obtain ⟨h1, hmn, hmx⟩ := shp_five hsh
      match subs, vs, hn, hl, h1 with
      | [u], [v], hn, hl, _ =>
        have hn : n = 1 := hn
        subst hn
        have hpl : placesOf u ≠ 1 := by
          have h2 := hti.1
          rw [Bool.or_eq_true] at h2
          rcases h2 with h2 | h2
          · exact absurd rfl (of_decide_eq_true h2)
          · exact of_decide_eq_true h2
        exact disp_any (k := 5) rfl (by decide) ent49 (fun u Y h => wb_cell h rfl) (way_times hr (hs 0 u v rfl rfl) hpl hmn hmx)
      | [u], [], hn, hl, _ => simp at hn hl; omega
      | [u], _ :: _ :: _, hn, hl, _ => simp at hn hl; omega
    · exact disp_any (k := 6) rfl (by decide) ent50 (fun u Y h => wb_cell h rfl) (way_6 hn hl hm hr hs (by unfold shapedT at hsh; simp at hsh; exact hsh.1.2))
    · exact disp_any (k := 7) rfl (by decide) ent51 (fun u Y h => wb_cell h rfl) (way_7 hn hl hm hr hs (by unfold shapedT at hsh; simp at hsh; exact hsh.1.2))
end Go.Proofs.Ytjmbimgofceanaa

/- The program's trimmedSeq. -/
namespace Go.Proofs.Ytjmbimgofceanaa
open Go.RowKit
attribute [local go_sem ↓] Go.wp_at_zero Go.wp_at_succ

/-- WHAT A TRIMMED TREE IS. -/
def TrimPost (w : World) (T : Tn) (e : Ending) (w' : World) : Prop := Below w.heap.size w w' ∧ ∃ y : Nd, e = .returned y.val ∧ NwAt (fun b => w.heap.size ≤ b) w' T y
def TrimV (w0 : World) (t : Tn) (v : Nd) : Prop := ∀ w : World, Below w0.heap.size w0 w → Calls Try.prog 30 #[v.val] w (TrimPost w (trim t))
theorem below_p8 {w u : World} {base : Nat} (h : Below base w u) {R : Nat} (hR : base ≤ R) (x : Nd) : Below base w (put8 u R x) := by
  unfold put8
  exact ((((((((h.setCell (p := ⟨R, 0, none⟩) hR _).setCell (p := ⟨R, 1, none⟩) hR _).setCell (p := ⟨R, 2, none⟩) hR _).setCell (p := ⟨R, 3, none⟩) hR _).setCell (p := ⟨R, 4, none⟩) hR _).setCell (p := ⟨R, 5, none⟩) hR _).setCell (p := ⟨R, 6, none⟩) hR _).setCell (p := ⟨R, 7, none⟩) hR _)
theorem trim_end {w u : World} {R : Nat} {T : Tn} {y : Nd} (hb : Below w.heap.size w u) (hR : w.heap.size ≤ R) (hy : NwAt (fun b => w.heap.size ≤ b ∧ b ≠ R) u T y) : TrimPost w T (.returned y.val) (put8 u R y) :=
  ⟨below_p8 hb hR y, y, rfl, hy.keep (fun _ hb _ => hb.1) (fun b hb _ => heap_put8 u R y b hb.2)⟩
theorem trims_next {ts : List Tn} {i : Nat} {t : Tn} (h : ts[i]? = some t) : trims (ts.drop i) = if kindT (trim t) = 1 then trims (ts.drop (i + 1)) else trim t :: trims (ts.drop (i + 1)) := by
  have hlt := (List.getElem?_eq_some_iff.1 h).1
  rw [List.drop_eq_getElem_cons hlt, (List.getElem?_eq_some_iff.1 h).2, trims]
set_option maxRecDepth 4000 in
set_option maxHeartbeats 8000000 in
theorem tseq_any {w0 : World} {subs : List Tn} {a : Option Addr} {n c : Nat} {vs : List Nd} (hn : n = subs.length) (hl : vs.length = n) (hm : n ≤ 1000000) (hr : RowAt (fun _ => True) w0 a vs) (hs : ∀ (i : Nat) (t : Tn) (v : Nd), subs[i]? = some t → vs[i]? = some v → TrimV w0 t v) (w : World) (hlow : Below w0.heap.size w0 w) : Calls Try.prog 52 #[.slice a n c] w (TrimPost w (packT (trims subs))) := by
  have kk : Below w.heap.size w (w.alloc (.cells #[.int .i64 0, .int .u64 0, .int .u64 0, .int .u64 0, .int .u64 0, .slice none 0 0, .int .i64 0, .int .i64 0] 30)) := (Below.refl _ _).alloc (Nat.le_refl _) _
  have HNR : Hid (NB (w.alloc (.cells #[.int .i64 0, .int .u64 0, .int .u64 0, .int .u64 0, .int .u64 0, .slice none 0 0, .int .i64 0, .int .i64 0] 30)) w.heap.size zeroNd) := nb_zero w
  have HB : Hid (Below w.heap.size w (w.alloc (.cells #[.int .i64 0, .int .u64 0, .int .u64 0, .int .u64 0, .int .u64 0, .slice none 0 0, .int .i64 0, .int .i64 0] 30))) := kk
  have HSZ : Hid (w.heap.size + 1 ≤ (w.alloc (.cells #[.int .i64 0, .int .u64 0, .int .u64 0, .int .u64 0, .int .u64 0, .slice none 0 0, .int .i64 0, .int .i64 0] 30)).heap.size) := by show _ ≤ _; simp
  obtain ⟨w1, hw1⟩ : ∃ w1, w.alloc (.cells #[.int .i64 0, .int .u64 0, .int .u64 0, .int .u64 0, .int .u64 0, .slice none 0 0, .int .i64 0, .int .i64 0] 30) = w1 := ⟨_, rfl⟩
  rw [hw1] at HNR HB HSZ
  obtain ⟨R, hR⟩ : ∃ R, w.heap.size = R := ⟨_, rfl⟩
  rw [hR] at HNR
  have HW1 : Hid (w.alloc (.cells #[.int .i64 0, .int .u64 0, .int .u64 0, .int .u64 0, .int .u64 0, .slice none 0 0, .int .i64 0, .int .i64 0] 30) = w1) := hw1
  have HRR : Hid (w.heap.size = R) := hR
  have HRW : Hid (w.heap.size ≤ R) := Nat.le_of_eq hR
  have HLW : Hid (Below w0.heap.size w0 w) := hlow
  have HIH : Hid (∀ (i : Nat) (t : Tn) (v : Nd), subs[i]? = some t → vs[i]? = some v → TrimV w0 t v) := hs
  have HRO : Hid (RowAt (fun _ => True) w0 a vs) := hr
  have HN : Hid (n = subs.length) := hn
  have HL : Hid (vs.length = n) := hl
  have HM0 : Hid (n ≤ 1000000) := hm
  have HTL : Hid ((trims subs).length ≤ n) := by rw [hn]; exact trims_le subs
  clear hw1 hR hlow hs hr hn hl kk
  go_enter Try.func52, Try.ntmps52
  go_upto_region 1 with fail
  rw [HW1.out, HRR.out]
  clear HW1
  go_wp2_with fail
  go_loopw [3, 9] (fun ve i u => ∃ (j : Nat) (ts : List Tn), i = .int .i64 (j : Nat) ∧ j ≤ n ∧ Hid (ts ++ trims (subs.drop j) = trims subs) ∧ Hid (RowN u (w.heap.size + 1) ve ts) ∧ Hid (NB u R zeroNd) ∧ Hid (Below w.heap.size w u) ∧ Hid (w.heap.size + 1 ≤ u.heap.size)) (fun _ i _ => n - (intOf i).toNat)
  case atStart => exact ⟨0, [], rfl, Nat.zero_le _, rfl, rowN_nil _ _, HNR, HB, HSZ⟩
  case round =>
    clear HNR HB HSZ
    obtain ⟨j, ts, rfl, hjn, HTS, HRN, HNR, HB, HSZ⟩ := hrel
    by_cases hlt : j < n
    · have hlt' : (j : Int) < (n : Int) := by omega
      obtain ⟨t, ht⟩ : ∃ t, subs[j]? = some t := ⟨_, List.getElem?_eq_getElem (by rw [← HN.out]; exact hlt)⟩
      obtain ⟨v, hv⟩ : ∃ v, vs[j]? = some v := ⟨_, List.getElem?_eq_getElem (by rw [HL.out]; exact hlt)⟩
      have HLr : Hid (Below w0.heap.size w0 wr) := below_two HLW.out (below_low HB.out HLW.out.size)
      have hrow := (HRO.out.keep (w' := wr) (Y := fun _ => True) (fun _ _ _ => trivial) (fun b hb hlt => HLr.out.block b hlt)).nth hv
      obtain ⟨g, off, rfl, e0, e1, e2, e3, e4, e5, e6, e7⟩ := hrow
      have kk : Below wr.heap.size wr (wr.alloc (.cells #[.int .i64 v.k, .int .u64 (Oct.word v.s 0 : Nat), .int .u64 (Oct.word v.s 1 : Nat), .int .u64 (Oct.word v.s 2 : Nat), .int .u64 (Oct.word v.s 3 : Nat), .slice v.a v.n v.c, .int .i64 v.mn, .int .i64 v.mx] 30)) := (Below.refl _ _).alloc (Nat.le_refl _) _
      have HRN2 : Hid (RowN (wr.alloc (.cells #[.int .i64 v.k, .int .u64 (Oct.word v.s 0 : Nat), .int .u64 (Oct.word v.s 1 : Nat), .int .u64 (Oct.word v.s 2 : Nat), .int .u64 (Oct.word v.s 3 : Nat), .slice v.a v.n v.c, .int .i64 v.mn, .int .i64 v.mx] 30)) (w.heap.size + 1) u3 ts) := HRN.out.keep (fun b _ hlt => kk.block b hlt)
      have HNR2 : Hid (NB (wr.alloc (.cells #[.int .i64 v.k, .int .u64 (Oct.word v.s 0 : Nat), .int .u64 (Oct.word v.s 1 : Nat), .int .u64 (Oct.word v.s 2 : Nat), .int .u64 (Oct.word v.s 3 : Nat), .slice v.a v.n v.c, .int .i64 v.mn, .int .i64 v.mx] 30)) R zeroNd) := HNR.out.later kk
      have HB2 : Hid (Below w.heap.size w (wr.alloc (.cells #[.int .i64 v.k, .int .u64 (Oct.word v.s 0 : Nat), .int .u64 (Oct.word v.s 1 : Nat), .int .u64 (Oct.word v.s 2 : Nat), .int .u64 (Oct.word v.s 3 : Nat), .slice v.a v.n v.c, .int .i64 v.mn, .int .i64 v.mx] 30))) := below_step HB.out kk
      have HSZ2 : Hid (w.heap.size + 1 ≤ (wr.alloc (.cells #[.int .i64 v.k, .int .u64 (Oct.word v.s 0 : Nat), .int .u64 (Oct.word v.s 1 : Nat), .int .u64 (Oct.word v.s 2 : Nat), .int .u64 (Oct.word v.s 3 : Nat), .slice v.a v.n v.c, .int .i64 v.mn, .int .i64 v.mx] 30)).heap.size) := Nat.le_trans HSZ.out kk.size
      have HNV : Hid (NB (wr.alloc (.cells #[.int .i64 v.k, .int .u64 (Oct.word v.s 0 : Nat), .int .u64 (Oct.word v.s 1 : Nat), .int .u64 (Oct.word v.s 2 : Nat), .int .u64 (Oct.word v.s 3 : Nat), .slice v.a v.n v.c, .int .i64 v.mn, .int .i64 v.mx] 30)) wr.heap.size v) := nb_new wr v
      have HLr2 : Hid (Below w0.heap.size w0 (wr.alloc (.cells #[.int .i64 v.k, .int .u64 (Oct.word v.s 0 : Nat), .int .u64 (Oct.word v.s 1 : Nat), .int .u64 (Oct.word v.s 2 : Nat), .int .u64 (Oct.word v.s 3 : Nat), .slice v.a v.n v.c, .int .i64 v.mn, .int .i64 v.mx] 30))) := below_step HLr.out kk
      go_upto_region 5 with fail
      obtain ⟨w2, hw2⟩ : ∃ w2, wr.alloc (.cells #[.int .i64 v.k, .int .u64 (Oct.word v.s 0 : Nat), .int .u64 (Oct.word v.s 1 : Nat), .int .u64 (Oct.word v.s 2 : Nat), .int .u64 (Oct.word v.s 3 : Nat), .slice v.a v.n v.c, .int .i64 v.mn, .int .i64 v.mx] 30) = w2 := ⟨_, rfl⟩
      obtain ⟨A2, hA2⟩ : ∃ A2, wr.heap.size = A2 := ⟨_, rfl⟩
      rw [hw2] at HRN2 HNR2 HB2 HSZ2 HNV HLr2 ⊢
      rw [hA2] at HNV ⊢
      clear hw2 hA2 kk HRN HNR HB HSZ HLr e0 e1 e2 e3 e4 e5 e6 e7
      obtain ⟨y0, y1, y2, y3, y4, y5, y6, y7⟩ := HNV.out.cells
      have HC : Hid (Calls Try.prog 30 #[v.val] w2 (TrimPost w2 (trim t))) := HIH.out j t v ht hv w2 HLr2.out
      have HTN := trims_next ht
      obtain ⟨T1, hT1⟩ : ∃ T1, trim t = T1 := ⟨_, rfl⟩
      rw [hT1] at HC HTN
      have HTX : Hid (trims (subs.drop j) = if kindT T1 = 1 then trims (subs.drop (j + 1)) else T1 :: trims (subs.drop (j + 1))) := HTN
      clear HTN hT1 ht hv
      unfold Nd.val at HC
      go_wp2_with fail
      refine HC.out.mono ?_
      rintro e w3 ⟨k3, y, rfl, hy3⟩
      clear HC y0 y1 y2 y3 y4 y5 y6 y7 HNV
      have k4 : Below w3.heap.size w3 (w3.alloc (.cells #[.int .i64 y.k, .int .u64 (Oct.word y.s 0 : Nat), .int .u64 (Oct.word y.s 1 : Nat), .int .u64 (Oct.word y.s 2 : Nat), .int .u64 (Oct.word y.s 3 : Nat), .slice y.a y.n y.c, .int .i64 y.mn, .int .i64 y.mx] 30)) := (Below.refl _ _).alloc (Nat.le_refl _) _
      have k24 := below_step k3 k4
      have HRN4 : Hid (RowN (w3.alloc (.cells #[.int .i64 y.k, .int .u64 (Oct.word y.s 0 : Nat), .int .u64 (Oct.word y.s 1 : Nat), .int .u64 (Oct.word y.s 2 : Nat), .int .u64 (Oct.word y.s 3 : Nat), .slice y.a y.n y.c, .int .i64 y.mn, .int .i64 y.mx] 30)) (w.heap.size + 1) u3 ts) := HRN2.out.keep (fun b _ hlt => k24.block b hlt)
      have HNR4 : Hid (NB (w3.alloc (.cells #[.int .i64 y.k, .int .u64 (Oct.word y.s 0 : Nat), .int .u64 (Oct.word y.s 1 : Nat), .int .u64 (Oct.word y.s 2 : Nat), .int .u64 (Oct.word y.s 3 : Nat), .slice y.a y.n y.c, .int .i64 y.mn, .int .i64 y.mx] 30)) R zeroNd) := HNR2.out.later k24
      have HB4 : Hid (Below w.heap.size w (w3.alloc (.cells #[.int .i64 y.k, .int .u64 (Oct.word y.s 0 : Nat), .int .u64 (Oct.word y.s 1 : Nat), .int .u64 (Oct.word y.s 2 : Nat), .int .u64 (Oct.word y.s 3 : Nat), .slice y.a y.n y.c, .int .i64 y.mn, .int .i64 y.mx] 30))) := below_step HB2.out k24
      have HSZ4 : Hid (w.heap.size + 1 ≤ (w3.alloc (.cells #[.int .i64 y.k, .int .u64 (Oct.word y.s 0 : Nat), .int .u64 (Oct.word y.s 1 : Nat), .int .u64 (Oct.word y.s 2 : Nat), .int .u64 (Oct.word y.s 3 : Nat), .slice y.a y.n y.c, .int .i64 y.mn, .int .i64 y.mx] 30)).heap.size) := Nat.le_trans HSZ2.out k24.size
      have HNY : Hid (NB (w3.alloc (.cells #[.int .i64 y.k, .int .u64 (Oct.word y.s 0 : Nat), .int .u64 (Oct.word y.s 1 : Nat), .int .u64 (Oct.word y.s 2 : Nat), .int .u64 (Oct.word y.s 3 : Nat), .slice y.a y.n y.c, .int .i64 y.mn, .int .i64 y.mx] 30)) w3.heap.size y) := nb_new w3 y
      have HKY : Hid (y.k = kindT T1) := hy3.kind
      have HY4 : Hid (NwAt (fun b => w.heap.size + 1 ≤ b ∧ u3.ownBlock ≠ some b) (w3.alloc (.cells #[.int .i64 y.k, .int .u64 (Oct.word y.s 0 : Nat), .int .u64 (Oct.word y.s 1 : Nat), .int .u64 (Oct.word y.s 2 : Nat), .int .u64 (Oct.word y.s 3 : Nat), .slice y.a y.n y.c, .int .i64 y.mn, .int .i64 y.mx] 30)) T1 y) := (hy3.later k4).keep (fun b hb _ => ⟨Nat.le_trans HSZ2.out hb, fun e => by have := (HRN2.out.own b e).2; omega⟩) (fun _ _ _ => rfl)
      clear hy3 k3 k24 HRN2 HNR2 HB2 HSZ2 HLr2
      unfold Nd.val
      go_upto_region 6 with fail
      obtain ⟨w4, hw4⟩ : ∃ w4, w3.alloc (.cells #[.int .i64 y.k, .int .u64 (Oct.word y.s 0 : Nat), .int .u64 (Oct.word y.s 1 : Nat), .int .u64 (Oct.word y.s 2 : Nat), .int .u64 (Oct.word y.s 3 : Nat), .slice y.a y.n y.c, .int .i64 y.mn, .int .i64 y.mx] 30) = w4 := ⟨_, rfl⟩
      obtain ⟨A4, hA4⟩ : ∃ A4, w3.heap.size = A4 := ⟨_, rfl⟩
      rw [hw4] at HRN4 HNR4 HB4 HSZ4 HNY HY4 ⊢
      rw [hA4] at HNY ⊢
      clear hw4 hA4 k4
      obtain ⟨y0, y1, y2, y3, y4, y5, y6, y7⟩ := HNY.out.cells
      by_cases hk1 : y.k = 1
      · have hk2 : (y.k != 1) = false := by simp [hk1]
        have hk3 : (y.k == 1) = true := by simp [hk1]
        have HTn : Hid (ts ++ trims (subs.drop (j + 1)) = trims subs) := by
          show _ = _
          rw [← HTS.out, HTX.out, if_pos (by rw [← HKY.out]; exact hk1)]
        go_wp2
        go_roundw
        case rel => exact ⟨j + 1, ts, by go_num, by omega, HTn, HRN4, HNR4, HB4, HSZ4⟩
        case measure => simp [intOf]; omega
      · have hk2 : (y.k != 1) = true := by simp [hk1]
        have hk3 : (y.k == 1) = false := by simp [hk1]
        have HTn : Hid ((ts ++ [T1]) ++ trims (subs.drop (j + 1)) = trims subs) := by
          show _ = _
          rw [← HTS.out, HTX.out, if_neg (by rw [← HKY.out]; exact hk1)]
          simp
        have HLT : Hid (ts.length ≤ 1000000) := by
          have h1 := HTL.out
          rw [← HTS.out, List.length_append] at h1
          have h2 := HM0.out
          show _ ≤ _
          omega
        have kk : Below w4.heap.size w4 (w4.alloc (.cells #[.int .i64 y.k, .int .u64 (Oct.word y.s 0 : Nat), .int .u64 (Oct.word y.s 1 : Nat), .int .u64 (Oct.word y.s 2 : Nat), .int .u64 (Oct.word y.s 3 : Nat), .slice y.a y.n y.c, .int .i64 y.mn, .int .i64 y.mx] 30)) := (Below.refl _ _).alloc (Nat.le_refl _) _
        have HRN5 : Hid (RowN (w4.alloc (.cells #[.int .i64 y.k, .int .u64 (Oct.word y.s 0 : Nat), .int .u64 (Oct.word y.s 1 : Nat), .int .u64 (Oct.word y.s 2 : Nat), .int .u64 (Oct.word y.s 3 : Nat), .slice y.a y.n y.c, .int .i64 y.mn, .int .i64 y.mx] 30)) (w.heap.size + 1) u3 ts) := HRN4.out.keep (fun b _ hlt => kk.block b hlt)
        have HNR5 : Hid (NB (w4.alloc (.cells #[.int .i64 y.k, .int .u64 (Oct.word y.s 0 : Nat), .int .u64 (Oct.word y.s 1 : Nat), .int .u64 (Oct.word y.s 2 : Nat), .int .u64 (Oct.word y.s 3 : Nat), .slice y.a y.n y.c, .int .i64 y.mn, .int .i64 y.mx] 30)) R zeroNd) := HNR4.out.later kk
        have HB5 : Hid (Below w.heap.size w (w4.alloc (.cells #[.int .i64 y.k, .int .u64 (Oct.word y.s 0 : Nat), .int .u64 (Oct.word y.s 1 : Nat), .int .u64 (Oct.word y.s 2 : Nat), .int .u64 (Oct.word y.s 3 : Nat), .slice y.a y.n y.c, .int .i64 y.mn, .int .i64 y.mx] 30))) := below_step HB4.out kk
        have HSZ5 : Hid (w.heap.size + 1 ≤ (w4.alloc (.cells #[.int .i64 y.k, .int .u64 (Oct.word y.s 0 : Nat), .int .u64 (Oct.word y.s 1 : Nat), .int .u64 (Oct.word y.s 2 : Nat), .int .u64 (Oct.word y.s 3 : Nat), .slice y.a y.n y.c, .int .i64 y.mn, .int .i64 y.mx] 30)).heap.size) := Nat.le_trans HSZ4.out kk.size
        have HY5 : Hid (NwAt (fun b => w.heap.size + 1 ≤ b ∧ u3.ownBlock ≠ some b) (w4.alloc (.cells #[.int .i64 y.k, .int .u64 (Oct.word y.s 0 : Nat), .int .u64 (Oct.word y.s 1 : Nat), .int .u64 (Oct.word y.s 2 : Nat), .int .u64 (Oct.word y.s 3 : Nat), .slice y.a y.n y.c, .int .i64 y.mn, .int .i64 y.mx] 30)) T1 y) := HY4.out.later kk
        have HCY : Hid (∀ j v, y.cells[j]? = some v → (w4.alloc (.cells #[.int .i64 y.k, .int .u64 (Oct.word y.s 0 : Nat), .int .u64 (Oct.word y.s 1 : Nat), .int .u64 (Oct.word y.s 2 : Nat), .int .u64 (Oct.word y.s 3 : Nat), .slice y.a y.n y.c, .int .i64 y.mn, .int .i64 y.mx] 30)).cell? ((⟨w4.heap.size, 0, none⟩ : Addr).add j) = some v) := cells_newN w4 y
        clear kk
        go_wp2_with (at_builtin; go_must (refine wpList_append_nodeN rfl _ _ rfl (w.heap.size + 1) _ ts rfl HRN5.out ⟨w4.heap.size, 0, none⟩ 1 y T1 rfl HY5.out HCY.out HLT.out HSZ5.out ?_; intro g' cap' w6 hn6 hg6; have HRN6 : Hid (RowN w6 (w.heap.size + 1) _ (ts ++ [T1])) := hn6; have HG6 : Hid ((w4.alloc (.cells #[.int .i64 y.k, .int .u64 (Oct.word y.s 0 : Nat), .int .u64 (Oct.word y.s 1 : Nat), .int .u64 (Oct.word y.s 2 : Nat), .int .u64 (Oct.word y.s 3 : Nat), .slice y.a y.n y.c, .int .i64 y.mn, .int .i64 y.mx] 30)).grownBy w6 u3.ownBlock) := hg6; clear hn6 hg6))
        have HNR6 : Hid (NB w6 R zeroNd) := HNR5.out.grown HG6.out (fun e => by have h1 := (HRN5.out.own R e.symm).1; have h2 := HRR.out; omega)
        have HB6 : Hid (Below w.heap.size w w6) := HB5.out.grown HG6.out HB5.out.size (fun k hk => by have := (HRN5.out.own k hk).1; omega)
        have HSZ6 : Hid (w.heap.size + 1 ≤ w6.heap.size) := Nat.le_trans HSZ5.out HG6.out.size
        go_roundw
        case rel => exact ⟨j + 1, ts ++ [T1], by go_num, by omega, HTn, HRN6, HNR6, HB6, HSZ6⟩
        case measure => simp [intOf]; omega
    · have hlt' : ¬ (j : Int) < (n : Int) := by omega
      have HEQ : Hid (trims subs = ts) := by
        show _ = _
        rw [← HTS.out, List.drop_of_length_le (by rw [← HN.out]; omega), trims, List.append_nil]
      rw [HEQ.out] at HTL
      have h6 : ts.length ≤ 1000000 := Nat.le_trans HTL.out HM0.out
      clear HIH HRO HTS HTL
      obtain ⟨q0, q1, q2, q3, q4, q5, q6, q7⟩ := HNR.out.cells
      have f0 := HNR.out.frozen 0
      have f1 := HNR.out.frozen 1
      have f2 := HNR.out.frozen 2
      have f3 := HNR.out.frozen 3
      have f4 := HNR.out.frozen 4
      have f5 := HNR.out.frozen 5
      have f6 := HNR.out.frozen 6
      have f7 := HNR.out.frozen 7
      obtain ⟨oa, oc, hV, hlc, hcm⟩ := HRN.out.form
      subst hV
      match ts, HRN, h6, hlc, HEQ with
      | [], HRN, _, _, HEQ =>
        have HG : Hid (NB (put8 wr R ⟨1, Oct.none, none, 0, 0, 0, 0⟩) R ⟨1, Oct.none, none, 0, 0, 0, 0⟩) := HNR.out.put8 _
        have HP : Hid (TrimPost w (packT (trims subs)) (.returned (Nd.val ⟨1, Oct.none, none, 0, 0, 0, 0⟩)) (put8 wr R ⟨1, Oct.none, none, 0, 0, 0, 0⟩)) := by rw [HEQ.out]; exact trim_end HB.out HRW.out (NwAt.leaf _ _ 1 Oct.none 0 0 none 0)
        unfold put8 at HG HP
        simp only [word0] at HG HP
        clear HRN
        simp only [List.length_nil]
        go_wp2
        exact post_node Try.f52 2 rfl rfl rfl HG.out HP.out
      | [t], HRN, _, _, HEQ =>
        obtain ⟨g, x, rfl, hx, hc⟩ := RowN.first (t := t) HRN.out
        have HG : Hid (NB (put8 wr R x) R x) := HNR.out.put8 _
        have HP : Hid (TrimPost w (packT (trims subs)) (.returned (Nd.val x)) (put8 wr R x)) := by rw [HEQ.out]; exact trim_end HB.out HRW.out (hx.keep (fun b hb _ => ⟨by omega, by have := HRR.out; omega⟩) (fun _ _ _ => rfl))
        have e0 := hc 0 _ rfl
        have e1 := hc 1 _ rfl
        have e2 := hc 2 _ rfl
        have e3 := hc 3 _ rfl
        have e4 := hc 4 _ rfl
        have e5 := hc 5 _ rfl
        have e6 := hc 6 _ rfl
        have e7 := hc 7 _ rfl
        unfold put8 at HG HP
        clear HRN hc hx
        simp only [List.length_cons, List.length_nil]
        go_wp2
        exact post_node Try.f52 2 rfl rfl rfl HG.out HP.out
      | t :: u :: l, HRN, h6, hlc, HEQ =>
        obtain ⟨N, hN⟩ : ∃ N, (t :: u :: l).length = N := ⟨_, rfl⟩
        rw [hN] at HRN h6 hlc ⊢
        have hN2 : 2 ≤ N := by rw [← hN]; simp
        have g0 : ((N : Int) == 0) = false := by simp; omega
        have g1 : ((N : Int) == 1) = false := by simp; omega
        have HX := RowN.node HRN.out hN.symm h6 3 0 0
        have HG : Hid (NB (put8 wr R ⟨3, Oct.none, oa, N, oc, 0, 0⟩) R ⟨3, Oct.none, oa, N, oc, 0, 0⟩) := HNR.out.put8 _
        have HP : Hid (TrimPost w (packT (trims subs)) (.returned (Nd.val ⟨3, Oct.none, oa, N, oc, 0, 0⟩)) (put8 wr R ⟨3, Oct.none, oa, N, oc, 0, 0⟩)) := by rw [HEQ.out]; exact trim_end HB.out HRW.out (HX.keep (fun b hb _ => ⟨by omega, by have := HRR.out; omega⟩) (fun _ _ _ => rfl))
        unfold put8 at HG HP
        simp only [word0] at HG HP
        clear HX HRN hN
        unfold maxLen at hcm
        go_wp2
        exact post_node Try.f52 2 rfl rfl rfl HG.out HP.out
end Go.Proofs.Ytjmbimgofceanaa

