/- Trees in new memory; rows of nodes of the call's own; a list of nodes that is filled. -/
import Derived.Test.YtjmbimgofceanaaG21
import Derived.Test.YtjmbimgofceanaaG23
import Derived.Test.YtjmbimgofceanaaG25
import Derived.Test.YtjmbimgofceanaaG01
namespace Go.Proofs.Ytjmbimgofceanaa
open Go.RowKit
attribute [local go_sem ↓] Go.wp_at_zero Go.wp_at_succ

/-- A TREE IN MEMORY, whose lists lie in blocks of a kind. -/
inductive NwAt (X : Nat → Prop) (w : World) : Tn → Nd → Prop
  | mk (k : Int) (s : Oct.S) (subs : List Tn) (mn mx : Int) (a : Option Addr) (n c : Nat) (vs : List Nd) (hn : n = subs.length) (hl : vs.length = n) (hm : n ≤ 1000000) (hr : RowAt X w a vs)
      (hs : ∀ (i : Nat) (t : Tn) (v : Nd), subs[i]? = some t → vs[i]? = some v → NwAt X w t v) : NwAt X w (.mk k s subs mn mx) ⟨k, s, a, n, c, mn, mx⟩
theorem NwAt.keep {X Y : Nat → Prop} {w w' : World} {t : Tn} {x : Nd} (h : NwAt X w t x) (hXY : ∀ b, X b → b < w.heap.size → Y b) (hk : ∀ b, X b → b < w.heap.size → w'.heap[b]? = w.heap[b]?) : NwAt Y w' t x := by
  induction h with
  | mk k s subs mn mx a n c vs hn hl hm hr hs ih => exact .mk k s subs mn mx a n c vs hn hl hm (hr.keep hXY hk) (fun i t v ht hv => ih i t v ht hv)
theorem NwAt.later {X : Nat → Prop} {w w' : World} {t : Tn} {x : Nd} (h : NwAt X w t x) (hb : Below w.heap.size w w') : NwAt X w' t x := h.keep (fun _ h _ => h) (fun b _ hlt => hb.block b hlt)
theorem NwAt.inAt {X : Nat → Prop} {w : World} {t : Tn} {x : Nd} (h : NwAt X w t x) : InAt w t x := by
  induction h with
  | mk k s subs mn mx a n c vs hn hl hm hr hs ih => exact .mk k s subs mn mx a n c vs hn hl hm (hr.keep (fun _ _ _ => trivial) (fun _ _ _ => rfl)) (fun i t v ht hv => ih i t v ht hv)
theorem NwAt.kind {X : Nat → Prop} {w : World} {t : Tn} {x : Nd} (h : NwAt X w t x) : x.k = kindT t := by
  cases h
  rfl
theorem NwAt.leaf (X : Nat → Prop) (w : World) (k : Int) (s : Oct.S) (mn mx : Int) (a : Option Addr) (c : Nat) : NwAt X w (.mk k s [] mn mx) ⟨k, s, a, 0, c, mn, mx⟩ :=
  .mk k s [] mn mx a 0 c [] rfl rfl (Nat.zero_le _) (Or.inl rfl) (fun i t v h => by simp at h)
theorem infoN : (Try.prog.info? 30).map (fun i => (i.zero, i.size, i.bytes)) = some (some (.agg #[.int .i64 0, .int .u64 0, .int .u64 0, .int .u64 0, .int .u64 0, .slice none 0 0, .int .i64 0, .int .i64 0]), 8, 80) := by kernel_rfl
/-- A ROW OF NODES OF THE CALL's OWN. -/
def RowN (w : World) (base : Nat) (V : Value) (ts : List Tn) : Prop :=
  ∃ vs : List Nd, vs.length = ts.length ∧ w.ownsRow base 30 8 V ts.length (flatN vs) ∧ ∀ (i : Nat) (t : Tn) (v : Nd), ts[i]? = some t → vs[i]? = some v → NwAt (fun b => base ≤ b ∧ V.ownBlock ≠ some b) w t v
theorem rowN_nil (w : World) (base : Nat) : RowN w base (.slice none 0 0) [] := ⟨[], rfl, World.ownsRow_nil w base 30 8, fun i t v h => by simp at h⟩
theorem RowN.keep {w w' : World} {base : Nat} {V : Value} {ts : List Tn} (h : RowN w base V ts) (hk : ∀ b, base ≤ b → b < w.heap.size → w'.heap[b]? = w.heap[b]?) : RowN w' base V ts := by
  obtain ⟨vs, h1, h2, h3⟩ := h
  exact ⟨vs, h1, ownsRow_keep h2 (fun g _ hb hlt => hk g hb hlt), fun i t v ht hv => (h3 i t v ht hv).keep (fun _ h _ => h) (fun b hb hlt => hk b hb.1 hlt)⟩
theorem RowN.form {w : World} {base : Nat} {V : Value} {ts : List Tn} (h : RowN w base V ts) : ∃ (a : Option Addr) (c : Nat), V = .slice a ts.length c ∧ ts.length ≤ c ∧ c ≤ maxLen := by
  obtain ⟨vs, _, h2, _⟩ := h
  rcases h2.2 with ⟨hv, hn⟩ | ⟨g, cap, cur, hv, hbg, hg, h1, h2, h3, h4⟩
  · exact ⟨none, 0, by rw [hv, hn], by omega, by decide⟩
  · exact ⟨_, cap, hv, h1, h2⟩
theorem RowN.own {w : World} {base : Nat} {V : Value} {ts : List Tn} (h : RowN w base V ts) : ∀ k, V.ownBlock = some k → base ≤ k ∧ k < w.heap.size := by
  obtain ⟨vs, _, h2, _⟩ := h
  intro k hk
  rcases h2.2 with ⟨rfl, _⟩ | ⟨g, _, _, rfl, hb, hg, _⟩
  · simp [Value.ownBlock] at hk
  · simp [Value.ownBlock] at hk
    subst hk
    exact ⟨hb, (Array.getElem?_eq_some_iff.1 hg).1⟩
/-- a node's list out of a row -/
theorem RowN.node {w : World} {base n c : Nat} {a : Option Addr} {ts : List Tn} (h : RowN w base (.slice a n c) ts) (hn : n = ts.length) (hm : n ≤ 1000000) (k : Int) (mn mx : Int) : NwAt (fun b => base ≤ b) w (.mk k Oct.none ts mn mx) ⟨k, Oct.none, a, n, c, mn, mx⟩ := by
  obtain ⟨vs, h1, h2, h3⟩ := h
  refine .mk k Oct.none ts mn mx a n c vs hn (by omega) hm ?_ (fun i t v ht hv => (h3 i t v ht hv).keep (fun b hb _ => hb.1) (fun _ _ _ => rfl))
  rcases h2.2 with ⟨hv, hz⟩ | ⟨g, cap, cur, hv, hbg, hg, g1, g2, g3, g4⟩
  · exact Or.inl (List.length_eq_zero_iff.1 (h1.trans hz))
  · cases hv
    refine Or.inr ⟨g, 0, rfl, hbg, fun j v hj => ?_⟩
    have hlt := (List.getElem?_eq_some_iff.1 hj).1
    rw [flatN_length] at hlt
    rw [← g4, List.getElem?_take_of_lt (by omega)] at hj
    simp only [World.cell?, hg, Nat.zero_add]
    simpa using hj
theorem RowN.first {w : World} {base c : Nat} {a : Option Addr} {t : Tn} (h : RowN w base (.slice a 1 c) [t]) : ∃ g x, a = some ⟨g, 0, none⟩ ∧ NwAt (fun b => base ≤ b) w t x ∧ (∀ j v, x.cells[j]? = some v → w.cell? ⟨g, j, none⟩ = some v) := by
  obtain ⟨vs, h1, h2, h3⟩ := h
  match vs, h1 with
  | [x], _ =>
    rcases h2.2 with ⟨hv, hz⟩ | ⟨g, cap, cur, hv, hbg, hg, g1, g2, g3, g4⟩
    · simp at hz
    · cases hv
      refine ⟨g, x, rfl, (h3 0 t x rfl rfl).keep (fun b hb _ => hb.1) (fun _ _ _ => rfl), fun j v hj => ?_⟩
      have e : flatN [x] = x.cells := by simp [flatN]
      have hlt := (List.getElem?_eq_some_iff.1 hj).1
      have hl : x.cells.length = 8 := rfl
      rw [← e, ← g4, List.getElem?_take_of_lt (by simp; omega)] at hj
      simp only [World.cell?, hg]
      simpa using hj
theorem run_append_nodeN (w : World) (ty : TypeId) (base : Nat) (V : Value) (ts : List Tn) (h : RowN w base V ts) (ad : Addr) (cap : Nat) (x : Nd) (t : Tn) (hx : NwAt (fun b => base ≤ b ∧ V.ownBlock ≠ some b) w t x) (hc : ∀ j v, x.cells[j]? = some v → w.cell? (ad.add j) = some v) (hl : ts.length ≤ 1000000) (hb : base ≤ w.heap.size) :
    ∃ g cap' w', (Builtin.append_ #[28, 28] ty #[V, .slice (some ad) 1 cap]).run Try.prog w = .ok (.slice (some ⟨g, 0, none⟩) (ts.length + 1) cap') w' ∧ RowN w' base (.slice (some ⟨g, 0, none⟩) (ts.length + 1) cap') (ts ++ [t]) ∧ w.grownBy w' V.ownBlock := by
  have hvb := h.own
  obtain ⟨vs, h1, h2, h5⟩ := h
  obtain ⟨i0, hi, hz0, hz1, hz2⟩ := info_parts infoN
  obtain ⟨g, cap', w', hr, ho, hg, hgg, hlt⟩ := run_append_lies (P := Try.prog) w 28 ty base 30 i0 _ 8 80 Try.underlying28 hi hz0 hz1 hz2 rfl (by decide) V ts.length (flatN vs) h2 ad 1 cap x.cells rfl hc
    (by have := flatN_one [x]; simpa [flatN] using this) (by decide) (by simp only [maxLen]; omega) (by omega) hb w.heap.size rfl
  have hkeep : ∀ (t' : Tn) (v' : Nd), NwAt (fun b => base ≤ b ∧ V.ownBlock ≠ some b) w t' v' → NwAt (fun b => base ≤ b ∧ (Value.slice (some ⟨g, 0, none⟩) (ts.length + 1) cap').ownBlock ≠ some b) w' t' v' := fun t' v' hn =>
    hn.keep (fun b hb hlt => ⟨hb.1, by
      simp only [Value.ownBlock, ne_eq, Option.some.injEq]
      rcases hgg with hgg | hgg
      · intro e; subst e; exact hb.2 hgg
      · omega⟩) (fun b hb hlt => hg.block b hlt (fun e => hb.2 e.symm))
  refine ⟨g, cap', w', hr, ⟨vs ++ [x], by simp [h1], ?_, fun i t' v' ht hv => ?_⟩, hg⟩
  · rw [flatN_append, List.length_append]
    have e : flatN [x] = x.cells := by simp [flatN]
    rw [e]
    exact ho
  · by_cases hlt2 : i < ts.length
    · rw [List.getElem?_append_left hlt2] at ht
      rw [List.getElem?_append_left (by omega)] at hv
      exact hkeep t' v' (h5 i t' v' ht hv)
    · rw [List.getElem?_append_right (by omega)] at ht
      rw [List.getElem?_append_right (by omega), h1] at hv
      have e0 : i - ts.length = 0 := by
        have := (List.getElem?_eq_some_iff.1 ht).1
        simp at this
        omega
      rw [e0] at ht hv
      simp at ht hv
      subst ht hv
      exact hkeep t x hx
theorem wpList_append_nodeN {w : World} {ops : Array Oper} {rest : List Oper} {o : Oper} {a : Act} {Q : Exit → Act → World → Prop} (hgd : o.guard = none) (s y : Operand)
    (ho : o.op = .call { callee := .builtin .append, args := #[s, y], argTypes := #[28, 28] })
    (base : Nat) (V : Value) (ts : List Tn) (hs : a.eval s = V) (hn : RowN w base V ts) (ad : Addr) (cap : Nat) (x : Nd) (t : Tn) (hy : a.eval y = .slice (some ad) 1 cap) (hx : NwAt (fun b => base ≤ b ∧ V.ownBlock ≠ some b) w t x) (hc : ∀ j v, x.cells[j]? = some v → w.cell? (ad.add j) = some v) (hl : ts.length ≤ 1000000) (hb : base ≤ w.heap.size)
    (h : ∀ g cap' w', RowN w' base (.slice (some ⟨g, 0, none⟩) (ts.length + 1) cap') (ts ++ [t]) → w.grownBy w' V.ownBlock → wpList Try.prog ops Q rest (a.put o.dst (.slice (some ⟨g, 0, none⟩) (ts.length + 1) cap')) w') : wpList Try.prog ops Q (o :: rest) a w := by
  refine wpList_plain hgd fun K hK => ?_
  obtain ⟨g, cap', w', hr, h2, h3⟩ := run_append_nodeN w o.type base V ts hn ad cap x t hx hc hl hb
  unfold Oper.wp execOp
  simp only [ho, resolve, invoke, builtin, Sem.run_bind, Sem.run_pure, Result.andThen_ok, List.map_toArray, List.map_cons, List.map_nil, hs, hy, hr]
  exact hK _ _ (h g cap' w' h2 h3)
theorem cells_newN (u : World) (x : Nd) : ∀ j v, x.cells[j]? = some v → (u.alloc (.cells #[.int .i64 x.k, .int .u64 (Oct.word x.s 0 : Nat), .int .u64 (Oct.word x.s 1 : Nat), .int .u64 (Oct.word x.s 2 : Nat), .int .u64 (Oct.word x.s 3 : Nat), .slice x.a x.n x.c, .int .i64 x.mn, .int .i64 x.mx] 30)).cell? ((⟨u.heap.size, 0, none⟩ : Addr).add j) = some v := by
  intro j v hj
  rw [Go.WideShapes.add_plain, Nat.zero_add, World.cell?_alloc_mark]
  simpa [Nd.cells] using hj
/-- a list of one node, as it is made -/
theorem rowN_one {u : World} {base : Nat} {t : Tn} {x : Nd} (hx : NwAt (fun b => base ≤ b) u t x) (hb : base ≤ u.heap.size) : RowN (u.alloc (.cells #[.int .i64 x.k, .int .u64 (Oct.word x.s 0 : Nat), .int .u64 (Oct.word x.s 1 : Nat), .int .u64 (Oct.word x.s 2 : Nat), .int .u64 (Oct.word x.s 3 : Nat), .slice x.a x.n x.c, .int .i64 x.mn, .int .i64 x.mx] 30)) base (.slice (some ⟨u.heap.size, 0, none⟩) 1 1) [t] := by
  refine ⟨[x], rfl, ⟨by rw [flatN_length]; rfl, Or.inr ⟨u.heap.size, 1, _, rfl, hb, heap_alloc_new u _, Nat.le_refl _, by simp [maxLen], rfl, by simp [flatN, Nd.cells]⟩⟩, fun i t' v' h1 h2 => ?_⟩
  cases i with
  | zero =>
    simp at h1 h2
    subst h1 h2
    exact hx.keep (fun b hb2 hlt => ⟨hb2, by simp [Value.ownBlock]; omega⟩) (fun b _ hlt => ((Below.refl _ u).alloc (Nat.le_refl _) _).block b hlt)
  | succ i => simp at h1
/-! ### a list that is filled -/
/-- the first of n nodes of a block are written -/
def Fil (w : World) (base G n : Nat) (ts : List Tn) : Prop := base ≤ G ∧ n ≤ 1000000 ∧ ∃ (cur : Array Value) (vs : List Nd), w.heap[G]? = some (.cells cur 30 (0, 0)) ∧ cur.size = n * 8 ∧ vs.length = ts.length ∧ ts.length ≤ n ∧ cur.toList.take (ts.length * 8) = flatN vs ∧ ∀ (i : Nat) (t : Tn) (v : Nd), ts[i]? = some t → vs[i]? = some v → NwAt (fun b => base ≤ b ∧ b ≠ G) w t v
theorem Fil.lt {w : World} {base G n : Nat} {ts : List Tn} (h : Fil w base G n ts) : G < w.heap.size := by
  obtain ⟨_, _, cur, vs, h1, _⟩ := h
  exact (Array.getElem?_eq_some_iff.1 h1).1
theorem Fil.later {w w' : World} {base G n : Nat} {ts : List Tn} (h : Fil w base G n ts) (hb : Below w.heap.size w w') : Fil w' base G n ts := by
  have hlt := h.lt
  obtain ⟨h0, h00, cur, vs, h1, h2, h3, h4, h5, h6⟩ := h
  exact ⟨h0, h00, cur, vs, (hb.block G hlt).trans h1, h2, h3, h4, h5, fun i t v ht hv => (h6 i t v ht hv).later hb⟩
theorem Fil.cell {w : World} {base G n : Nat} {ts : List Tn} (h : Fil w base G n ts) (j : Nat) (hj : j < n * 8) : ∃ v, w.cell? ⟨G, j, none⟩ = some v := by
  obtain ⟨h0, h00, cur, vs, h1, h2, h3, h4, h5, h6⟩ := h
  refine ⟨cur[j]'(by omega), ?_⟩
  simp [World.cell?, h1, show j < cur.size by omega]
theorem Fil.frozen {w : World} {base G n : Nat} {ts : List Tn} (h : Fil w base G n ts) (j : Nat) : w.frozen? ⟨G, j, none⟩ = false := by
  obtain ⟨h0, h00, cur, vs, h1, h2⟩ := h
  simp [World.frozen?, h1]
/-- a node stored into a list, as the walk leaves it -/
def putN (w : World) (A o : Nat) (x : Nd) : World := ((((((((w.setCell ⟨A, o, none⟩ (.int .i64 x.k)).setCell ⟨A, o + 1, none⟩ (.int .u64 (Oct.word x.s 0 : Nat))).setCell ⟨A, o + 2, none⟩ (.int .u64 (Oct.word x.s 1 : Nat))).setCell ⟨A, o + 3, none⟩ (.int .u64 (Oct.word x.s 2 : Nat))).setCell ⟨A, o + 4, none⟩ (.int .u64 (Oct.word x.s 3 : Nat))).setCell ⟨A, o + 5, none⟩ (.slice x.a x.n x.c)).setCell ⟨A, o + 6, none⟩ (.int .i64 x.mn)).setCell ⟨A, o + 7, none⟩ (.int .i64 x.mx))
theorem heap_putN (w : World) (A o : Nat) (x : Nd) (b : Nat) (h : b ≠ A) : (putN w A o x).heap[b]? = w.heap[b]? := by
  unfold putN
  rw [Below.heap_setCell _ ⟨A, o + 7, none⟩ _ b h, Below.heap_setCell _ ⟨A, o + 6, none⟩ _ b h, Below.heap_setCell _ ⟨A, o + 5, none⟩ _ b h, Below.heap_setCell _ ⟨A, o + 4, none⟩ _ b h, Below.heap_setCell _ ⟨A, o + 3, none⟩ _ b h, Below.heap_setCell _ ⟨A, o + 2, none⟩ _ b h, Below.heap_setCell _ ⟨A, o + 1, none⟩ _ b h, Below.heap_setCell _ ⟨A, o, none⟩ _ b h]
theorem size_putN (w : World) (A o : Nat) (x : Nd) : (putN w A o x).heap.size = w.heap.size := by simp [putN]
theorem below_putN {w u : World} {base : Nat} (h : Below base w u) {G : Nat} (hG : base ≤ G) (o : Nat) (x : Nd) : Below base w (putN u G o x) := by
  unfold putN
  exact ((((((((h.setCell (p := ⟨G, o, none⟩) hG _).setCell (p := ⟨G, o + 1, none⟩) hG _).setCell (p := ⟨G, o + 2, none⟩) hG _).setCell (p := ⟨G, o + 3, none⟩) hG _).setCell (p := ⟨G, o + 4, none⟩) hG _).setCell (p := ⟨G, o + 5, none⟩) hG _).setCell (p := ⟨G, o + 6, none⟩) hG _).setCell (p := ⟨G, o + 7, none⟩) hG _)
theorem Fil.put {w : World} {base G n : Nat} {ts : List Tn} (h : Fil w base G n ts) (hm : ts.length < n) {x : Nd} {t : Tn} (hx : NwAt (fun b => base ≤ b ∧ b ≠ G) w t x) : Fil (putN w G (ts.length * 8) x) base G n (ts ++ [t]) := by
  obtain ⟨h0, h00, cur, vs, hg, h2, h3, h4, h5, h6⟩ := h
  obtain ⟨m, hmm⟩ : ∃ m, ts.length = m := ⟨_, rfl⟩
  rw [hmm] at hm h4 h5 h3 ⊢
  have hs : cur.size = cur.toList.length := by simp
  have e := (heap_set (heap_set (heap_set (heap_set (heap_set (heap_set (heap_set (heap_set hg (m * 8) (.int .i64 x.k)) (m * 8 + 1) (.int .u64 (Oct.word x.s 0 : Nat))) (m * 8 + 2) (.int .u64 (Oct.word x.s 1 : Nat))) (m * 8 + 3) (.int .u64 (Oct.word x.s 2 : Nat))) (m * 8 + 4) (.int .u64 (Oct.word x.s 3 : Nat))) (m * 8 + 5) (.slice x.a x.n x.c)) (m * 8 + 6) (.int .i64 x.mn)) (m * 8 + 7) (.int .i64 x.mx))
  have hk : ∀ (t' : Tn) (v' : Nd), NwAt (fun b => base ≤ b ∧ b ≠ G) w t' v' → NwAt (fun b => base ≤ b ∧ b ≠ G) (putN w G (m * 8) x) t' v' := fun t' v' hn => hn.keep (fun _ h _ => h) (fun b hb _ => heap_putN w G (m * 8) x b hb.2)
  refine ⟨h0, h00, _, vs ++ [x], e, by simp only [Array.size_setIfInBounds]; exact h2, by simp [h3, hmm], by simp [hmm]; omega, ?_, fun i t' v' ht hv => ?_⟩
  · rw [flatN_append, List.length_append, hmm, ← h5]
    have e1 : flatN [x] = [.int .i64 x.k, .int .u64 (Oct.word x.s 0 : Nat), .int .u64 (Oct.word x.s 1 : Nat), .int .u64 (Oct.word x.s 2 : Nat), .int .u64 (Oct.word x.s 3 : Nat), .slice x.a x.n x.c, .int .i64 x.mn, .int .i64 x.mx] := by simp [flatN, Nd.cells]
    rw [e1]
    show List.take ((m + 1) * 8) _ = _
    simp only [Array.toList_setIfInBounds]
    apply List.ext_getElem?
    intro j
    have hl : (cur.toList.take (m * 8)).length = m * 8 := by rw [List.length_take]; omega
    by_cases hj : j < m * 8
    · rw [List.getElem?_append_left (by omega), List.getElem?_take_of_lt (by omega), List.getElem?_take_of_lt hj]
      rw [List.getElem?_set_ne (by omega), List.getElem?_set_ne (by omega), List.getElem?_set_ne (by omega), List.getElem?_set_ne (by omega), List.getElem?_set_ne (by omega), List.getElem?_set_ne (by omega), List.getElem?_set_ne (by omega), List.getElem?_set_ne (by omega)]
    · by_cases hj2 : j < (m + 1) * 8
      · rw [List.getElem?_take_of_lt hj2, List.getElem?_append_right (by omega), hl]
        have h8 : j = m * 8 ∨ j = m * 8 + 1 ∨ j = m * 8 + 2 ∨ j = m * 8 + 3 ∨ j = m * 8 + 4 ∨ j = m * 8 + 5 ∨ j = m * 8 + 6 ∨ j = m * 8 + 7 := by omega
        rcases h8 with rfl | rfl | rfl | rfl | rfl | rfl | rfl | rfl
        all_goals
          simp [List.getElem?_set]
          try omega
      · rw [List.getElem?_eq_none (by simp; omega), List.getElem?_eq_none (by simp; omega)]
  · by_cases hlt2 : i < ts.length
    · rw [List.getElem?_append_left hlt2] at ht
      rw [List.getElem?_append_left (by omega)] at hv
      exact hk t' v' (h6 i t' v' ht hv)
    · rw [List.getElem?_append_right (by omega)] at ht
      rw [List.getElem?_append_right (by omega), h3] at hv
      have e0 : i - ts.length = 0 := by
        have := (List.getElem?_eq_some_iff.1 ht).1
        simp at this
        omega
      rw [hmm] at e0
      rw [hmm, e0] at ht
      rw [e0] at hv
      simp at ht hv
      subst ht hv
      exact hk t x hx
theorem Fil.node {w : World} {base G n : Nat} {ts : List Tn} (h : Fil w base G n ts) (hn : n = ts.length) (k mn mx : Int) : NwAt (fun b => base ≤ b) w (.mk k Oct.none ts mn mx) ⟨k, Oct.none, some ⟨G, 0, none⟩, n, n, mn, mx⟩ := by
  obtain ⟨h0, h00, cur, vs, hg, h2, h3, h4, h5, h6⟩ := h
  refine .mk k Oct.none ts mn mx _ n n vs hn (by omega) h00 (Or.inr ⟨G, 0, rfl, h0, fun j v hj => ?_⟩) (fun i t v ht hv => (h6 i t v ht hv).keep (fun b hb _ => hb.1) (fun _ _ _ => rfl))
  have hlt := (List.getElem?_eq_some_iff.1 hj).1
  rw [flatN_length] at hlt
  rw [← h5, List.getElem?_take_of_lt (by omega)] at hj
  simp only [World.cell?, hg, Nat.zero_add]
  simpa using hj
theorem wpList_make_nodes {w : World} {ops : Array Oper} {rest : List Oper} {o : Oper} {a : Act} {Q : Exit → Act → World → Prop} (hgd : o.guard = none) (l c : Operand)
    (ho : o.op = Op.makeSlice 28 l c) (base n : Nat) (hb : base ≤ w.heap.size) (hl : a.eval l = .int .i64 (n : Nat)) (hc : a.eval c = .int .i64 (n : Nat)) (hn : n ≤ 1000000)
    (h : ∀ w', Fil w' base w.heap.size n [] → Below w.heap.size w w' → wpList Try.prog ops Q rest (a.put o.dst (.slice (some ⟨w.heap.size, 0, none⟩) n n)) w') : wpList Try.prog ops Q (o :: rest) a w := by
  obtain ⟨i0, hi, hz0, hz1, hz2⟩ := info_parts infoN
  refine wpList_make_full (P := Try.prog) w hgd l c 28 ho base 30 i0 _ 8 Try.underlying28 hi hz0 hz1 .i64 .i64 (n : Nat) (n : Nat) n hl hc rfl rfl (by rw [hz2]; omega) (by simp only [maxLen]; omega) hb ?_
  intro w' h1 h2
  refine h w' ?_ ((Below.refl _ _).grown h2 (Nat.le_refl _) (fun k hk => by cases hk))
  rcases h1.2 with ⟨hv, hz⟩ | ⟨g, cap, cur, hv, hbg, hg, g1, g2, g3, g4⟩
  · cases hv
  · cases hv
    exact ⟨hb, hn, cur, [], hg, g3, rfl, Nat.zero_le _, by simp [flatN], fun i t v h => by simp at h⟩
end Go.Proofs.Ytjmbimgofceanaa

/- heronlaw07's ends: of nothing, of an anchor, of a set. -/
namespace Go.Proofs.Ytjmbimgofceanaa
open Go.RowKit
attribute [local go_sem ↓] Go.wp_at_zero Go.wp_at_succ

/-- the places that are come to -/
def Img (T : Nat → Nat → Prop) (fs bs : List Bool) : Prop := ∀ j, bt bs j ↔ ∃ i, bt fs i ∧ T i j
/-- WHAT ends LEAVES. -/
def EndsPost (w : World) (N : Nat) (T : Nat → Nat → Prop) (fs : List Bool) (e : Ending) (w' : World) : Prop := Below w.heap.size w w' ∧ ∃ g c bs, e = .returned (.slice (some ⟨g, 0, none⟩) N c) ∧ RowB w' w.heap.size (.slice (some ⟨g, 0, none⟩) N c) bs ∧ Img T fs bs
def EndsV (w0 : World) (line : ByteArray) (t : Tn) (v : Nd) : Prop := ∀ (w : World) (gf cf : Nat) (fs : List Bool), Below w0.heap.size w0 w → fs.length = line.size + 1 → BAt w gf fs → Calls Try.prog 35 #[v.val, .string line, .slice (some ⟨gf, 0, none⟩) (line.size + 1) cf] w (EndsPost w (line.size + 1) (Tk line t) fs)
theorem rowB_later {w w' : World} {base g n c : Nat} {bs : List Bool} (h : RowB w base (.slice (some ⟨g, 0, none⟩) n c) bs) (hb : Below w.heap.size w w') : RowB w' base (.slice (some ⟨g, 0, none⟩) n c) bs := h.same (hb.block g h.lt.1)
theorem rowB_low {w : World} {base b g n c : Nat} {bs : List Bool} (h : RowB w base (.slice (some ⟨g, 0, none⟩) n c) bs) (hb : b ≤ base) : RowB w b (.slice (some ⟨g, 0, none⟩) n c) bs := by
  refine ⟨h.1, ?_⟩
  rcases h.2 with h6 | ⟨g', cap, cur, hv, hBg, rest⟩
  · exact Or.inl h6
  · exact Or.inr ⟨g', cap, cur, hv, Nat.le_trans hb hBg, rest⟩
theorem bat_lt {w : World} {g n : Nat} {bs : List Bool} (h : BAt w g bs) (hl : bs.length = n) (hn : 0 < n) : g < w.heap.size := lt_of_cell (h 0 _ (List.getElem?_eq_getElem (by omega)))
theorem bt_rep (n j : Nat) : ¬ bt (List.replicate n false) j := by
  unfold bt
  by_cases h : j < n
  · simp [h]
  · simp [h]
theorem bt_set' {l : List Bool} {i : Nat} (h : i < l.length) (b : Bool) (hl : ¬ bt l i) (j : Nat) : bt (l.set i b) j ↔ bt l j ∨ (j = i ∧ b = true) := by
  unfold bt at *
  by_cases e : j = i
  · subst e
    rw [List.getElem?_set_self h]
    simp [hl]
  · rw [List.getElem?_set_ne (fun h => e h.symm)]
    simp [e]
set_option maxRecDepth 4000 in
set_option maxHeartbeats 8000000 in
theorem ends_1 {w0 : World} {line : ByteArray} (hl60 : line.size ≤ 60) {s : Oct.S} {subs : List Tn} {mn mx : Int} {a : Option Addr} {n c : Nat} : EndsV w0 line (.mk 1 s subs mn mx) ⟨1, s, a, n, c, mn, mx⟩ := by
  intro w gf cf fs hlow hfl hfs
  obtain ⟨N, hN⟩ : ∃ N, line.size + 1 = N := ⟨_, rfl⟩
  rw [hN] at hfl ⊢
  have hNI : (line.size : Int) + 1 = (N : Nat) := by omega
  have hN6 : N ≤ 61 := by omega
  have HN : Hid (line.size + 1 = N) := hN
  have kk : Below w.heap.size w (w.alloc (.cells #[.int .i64 1, .int .u64 (Oct.word s 0 : Nat), .int .u64 (Oct.word s 1 : Nat), .int .u64 (Oct.word s 2 : Nat), .int .u64 (Oct.word s 3 : Nat), .slice a n c, .int .i64 mn, .int .i64 mx] 30)) := (Below.refl _ _).alloc (Nat.le_refl _) _
  have HNA : Hid (NB (w.alloc (.cells #[.int .i64 1, .int .u64 (Oct.word s 0 : Nat), .int .u64 (Oct.word s 1 : Nat), .int .u64 (Oct.word s 2 : Nat), .int .u64 (Oct.word s 3 : Nat), .slice a n c, .int .i64 mn, .int .i64 mx] 30)) w.heap.size ⟨1, s, a, n, c, mn, mx⟩) := nb_new w ⟨1, s, a, n, c, mn, mx⟩
  have HB : Hid (Below w.heap.size w (w.alloc (.cells #[.int .i64 1, .int .u64 (Oct.word s 0 : Nat), .int .u64 (Oct.word s 1 : Nat), .int .u64 (Oct.word s 2 : Nat), .int .u64 (Oct.word s 3 : Nat), .slice a n c, .int .i64 mn, .int .i64 mx] 30))) := kk
  have HF : Hid (BAt (w.alloc (.cells #[.int .i64 1, .int .u64 (Oct.word s 0 : Nat), .int .u64 (Oct.word s 1 : Nat), .int .u64 (Oct.word s 2 : Nat), .int .u64 (Oct.word s 3 : Nat), .slice a n c, .int .i64 mn, .int .i64 mx] 30)) gf fs) := hfs.later kk
  have HGF : Hid (gf < w.heap.size) := bat_lt hfs hfl (by omega)
  obtain ⟨w1, hw1⟩ : ∃ w1, w.alloc (.cells #[.int .i64 1, .int .u64 (Oct.word s 0 : Nat), .int .u64 (Oct.word s 1 : Nat), .int .u64 (Oct.word s 2 : Nat), .int .u64 (Oct.word s 3 : Nat), .slice a n c, .int .i64 mn, .int .i64 mx] 30) = w1 := ⟨_, rfl⟩
  rw [hw1] at HNA HB HF
  obtain ⟨A, hA⟩ : ∃ A, w.heap.size = A := ⟨_, rfl⟩
  rw [hA] at HNA
  have HW1 : Hid (w.alloc (.cells #[.int .i64 1, .int .u64 (Oct.word s 0 : Nat), .int .u64 (Oct.word s 1 : Nat), .int .u64 (Oct.word s 2 : Nat), .int .u64 (Oct.word s 3 : Nat), .slice a n c, .int .i64 mn, .int .i64 mx] 30) = w1) := hw1
  have HAA : Hid (w.heap.size = A) := hA
  have HLW : Hid (Below w0.heap.size w0 w) := hlow
  have HFL : Hid (fs.length = N) := hfl
  clear hw1 hA hlow kk hfs hfl hN
  unfold Nd.val
  simp only
  go_enter Try.func35, Try.ntmps35
  go_upto_region 1 with fail
  rw [HW1.out, HAA.out]
  clear HW1
  go_upto_region 2 with (first | (refine wpList_make_bool rfl _ _ rfl w.heap.size N HB.out.size (by show _ = Value.int .i64 ((N : Nat) : Int); rw [← hNI]; rfl) (by show _ = Value.int .i64 ((N : Nat) : Int); rw [← hNI]; rfl) (by omega) ?_; intro w2 hr2 hb2; have HR2 : Hid (RowB w2 w.heap.size (.slice (some ⟨w1.heap.size, 0, none⟩) N N) (List.replicate N false)) := hr2; have HK2 : Hid (Below w1.heap.size w1 w2) := hb2; clear hr2 hb2) | fail)
  obtain ⟨G, hG⟩ : ∃ G, w1.heap.size = G := ⟨_, rfl⟩
  rw [hG] at HR2 ⊢
  have HAG : Hid (A < G ∧ gf < G) := by have h1 := HNA.out.lt; have h2 := HGF.out; have h3 := HAA.out; exact ⟨by omega, by omega⟩
  have HNA2 : Hid (NB w2 A ⟨1, s, a, n, c, mn, mx⟩) := HNA.out.later HK2.out
  have HB2 : Hid (Below w.heap.size w w2) := below_step HB.out HK2.out
  have HF2 : Hid (BAt w2 gf fs) := HF.out.later HK2.out
  clear hG HNA HB HF HK2
  obtain ⟨y0, y1, y2, y3, y4, y5, y6, y7⟩ := HNA2.out.cells
  simp only at y0 y1 y2 y3 y4 y5 y6 y7
  go_wp2_with (first | (refine wpList_copy_bools rfl _ _ rfl w.heap.size G N N _ rfl HR2.out gf cf fs HFL.out rfl HF2.out ?_; intro w3 hr3 hb3; have HR3 : Hid (RowB w3 w.heap.size (.slice (some ⟨G, 0, none⟩) N N) fs) := hr3; have HK3 : Hid (Below G w2 w3) := hb3; clear hr3 hb3) | fail)
  have HB3 : Hid (Below w.heap.size w w3) := below_two HB2.out (below_low HK3.out (by have h1 := HAG.out.1; have h2 := HAA.out; omega))
  have HI : Hid (Img (Tk line (.mk 1 s subs mn mx)) fs fs) := fun j => by
    constructor
    · exact fun h => ⟨j, h, by rw [Tk]; simp⟩
    · rintro ⟨i, h, ht⟩
      rw [Tk] at ht
      simp at ht
      subst ht
      exact h
  go_ret
  exact ⟨HB3.out, G, N, fs, rfl, HR3.out, HI.out⟩
set_option maxRecDepth 4000 in
set_option maxHeartbeats 8000000 in
theorem ends_6 {w0 : World} {line : ByteArray} (hl60 : line.size ≤ 60) {s : Oct.S} {subs : List Tn} {mn mx : Int} {a : Option Addr} {n c : Nat} : EndsV w0 line (.mk 6 s subs mn mx) ⟨6, s, a, n, c, mn, mx⟩ := by
  intro w gf cf fs hlow hfl hfs
  obtain ⟨N, hN⟩ : ∃ N, line.size + 1 = N := ⟨_, rfl⟩
  rw [hN] at hfl ⊢
  have hNI : (line.size : Int) + 1 = (N : Nat) := by omega
  have hN6 : N ≤ 61 := by omega
  have HN : Hid (line.size + 1 = N) := hN
  have kk : Below w.heap.size w (w.alloc (.cells #[.int .i64 6, .int .u64 (Oct.word s 0 : Nat), .int .u64 (Oct.word s 1 : Nat), .int .u64 (Oct.word s 2 : Nat), .int .u64 (Oct.word s 3 : Nat), .slice a n c, .int .i64 mn, .int .i64 mx] 30)) := (Below.refl _ _).alloc (Nat.le_refl _) _
  have HNA : Hid (NB (w.alloc (.cells #[.int .i64 6, .int .u64 (Oct.word s 0 : Nat), .int .u64 (Oct.word s 1 : Nat), .int .u64 (Oct.word s 2 : Nat), .int .u64 (Oct.word s 3 : Nat), .slice a n c, .int .i64 mn, .int .i64 mx] 30)) w.heap.size ⟨6, s, a, n, c, mn, mx⟩) := nb_new w ⟨6, s, a, n, c, mn, mx⟩
  have HB : Hid (Below w.heap.size w (w.alloc (.cells #[.int .i64 6, .int .u64 (Oct.word s 0 : Nat), .int .u64 (Oct.word s 1 : Nat), .int .u64 (Oct.word s 2 : Nat), .int .u64 (Oct.word s 3 : Nat), .slice a n c, .int .i64 mn, .int .i64 mx] 30))) := kk
  have HF : Hid (BAt (w.alloc (.cells #[.int .i64 6, .int .u64 (Oct.word s 0 : Nat), .int .u64 (Oct.word s 1 : Nat), .int .u64 (Oct.word s 2 : Nat), .int .u64 (Oct.word s 3 : Nat), .slice a n c, .int .i64 mn, .int .i64 mx] 30)) gf fs) := hfs.later kk
  have HGF : Hid (gf < w.heap.size) := bat_lt hfs hfl (by omega)
  obtain ⟨w1, hw1⟩ : ∃ w1, w.alloc (.cells #[.int .i64 6, .int .u64 (Oct.word s 0 : Nat), .int .u64 (Oct.word s 1 : Nat), .int .u64 (Oct.word s 2 : Nat), .int .u64 (Oct.word s 3 : Nat), .slice a n c, .int .i64 mn, .int .i64 mx] 30) = w1 := ⟨_, rfl⟩
  rw [hw1] at HNA HB HF
  obtain ⟨A, hA⟩ : ∃ A, w.heap.size = A := ⟨_, rfl⟩
  rw [hA] at HNA
  have HW1 : Hid (w.alloc (.cells #[.int .i64 6, .int .u64 (Oct.word s 0 : Nat), .int .u64 (Oct.word s 1 : Nat), .int .u64 (Oct.word s 2 : Nat), .int .u64 (Oct.word s 3 : Nat), .slice a n c, .int .i64 mn, .int .i64 mx] 30) = w1) := hw1
  have HAA : Hid (w.heap.size = A) := hA
  have HLW : Hid (Below w0.heap.size w0 w) := hlow
  have HFL : Hid (fs.length = N) := hfl
  clear hw1 hA hlow kk hfs hfl hN
  unfold Nd.val
  simp only
  go_enter Try.func35, Try.ntmps35
  go_upto_region 1 with fail
  rw [HW1.out, HAA.out]
  clear HW1
  go_upto_region 2 with (first | (refine wpList_make_bool rfl _ _ rfl w.heap.size N HB.out.size (by show _ = Value.int .i64 ((N : Nat) : Int); rw [← hNI]; rfl) (by show _ = Value.int .i64 ((N : Nat) : Int); rw [← hNI]; rfl) (by omega) ?_; intro w2 hr2 hb2; have HR2 : Hid (RowB w2 w.heap.size (.slice (some ⟨w1.heap.size, 0, none⟩) N N) (List.replicate N false)) := hr2; have HK2 : Hid (Below w1.heap.size w1 w2) := hb2; clear hr2 hb2) | fail)
  obtain ⟨G, hG⟩ : ∃ G, w1.heap.size = G := ⟨_, rfl⟩
  rw [hG] at HR2 ⊢
  have HAG : Hid (A < G ∧ gf < G) := by have h1 := HNA.out.lt; have h2 := HGF.out; have h3 := HAA.out; exact ⟨by omega, by omega⟩
  have HNA2 : Hid (NB w2 A ⟨6, s, a, n, c, mn, mx⟩) := HNA.out.later HK2.out
  have HB2 : Hid (Below w.heap.size w w2) := below_step HB.out HK2.out
  have HF2 : Hid (BAt w2 gf fs) := HF.out.later HK2.out
  clear hG HNA HB HF HK2
  obtain ⟨y0, y1, y2, y3, y4, y5, y6, y7⟩ := HNA2.out.cells
  simp only at y0 y1 y2 y3 y4 y5 y6 y7
  obtain ⟨b, hb⟩ : ∃ b, fs[0]? = some b := ⟨_, List.getElem?_eq_getElem (by rw [HFL.out]; have := HN.out; omega)⟩
  have cf0 := HF2.out 0 b hb
  have hN1 : (0 : Int) < (N : Nat) := by omega
  obtain ⟨c0, f0⟩ := HR2.out.cell (i := 0) (x := false) (by rw [List.getElem?_replicate, if_pos (by omega)])
  have HR3 : Hid (RowB (w2.setCell ⟨G, 0, none⟩ (.bool b)) w.heap.size (.slice (some ⟨G, 0, none⟩) N N) ((List.replicate N false).set 0 b)) := HR2.out.put 0 b
  have HB3 : Hid (Below w.heap.size w (w2.setCell ⟨G, 0, none⟩ (.bool b))) := HB2.out.setCell (p := ⟨G, 0, none⟩) (by show w.heap.size ≤ G; have h1 := HAG.out.1; have h2 := HAA.out; omega) _
  have HI : Hid (Img (Tk line (.mk 6 s subs mn mx)) fs ((List.replicate N false).set 0 b)) := fun j => by
    rw [bt_set' (by simp; omega) b (bt_rep N 0)]
    constructor
    · rintro (h | ⟨h1, h2⟩)
      · exact absurd h (bt_rep N j)
      · exact ⟨0, (bt_of hb).2 h2, by rw [Tk]; simp [h1]⟩
    · rintro ⟨i, h, ht⟩
      rw [Tk] at ht
      simp at ht
      obtain ⟨rfl, rfl⟩ := ht
      exact Or.inr ⟨rfl, (bt_of hb).1 h⟩
  clear hb
  go_wp2
  go_ret
  exact ⟨HB3.out, G, N, _, rfl, HR3.out, HI.out⟩
set_option maxRecDepth 4000 in
set_option maxHeartbeats 8000000 in
theorem ends_7 {w0 : World} {line : ByteArray} (hl60 : line.size ≤ 60) {s : Oct.S} {subs : List Tn} {mn mx : Int} {a : Option Addr} {n c : Nat} : EndsV w0 line (.mk 7 s subs mn mx) ⟨7, s, a, n, c, mn, mx⟩ := by
  intro w gf cf fs hlow hfl hfs
  obtain ⟨N, hN⟩ : ∃ N, line.size + 1 = N := ⟨_, rfl⟩
  rw [hN] at hfl ⊢
  have hNI : (line.size : Int) + 1 = (N : Nat) := by omega
  have hN6 : N ≤ 61 := by omega
  have HN : Hid (line.size + 1 = N) := hN
  have kk : Below w.heap.size w (w.alloc (.cells #[.int .i64 7, .int .u64 (Oct.word s 0 : Nat), .int .u64 (Oct.word s 1 : Nat), .int .u64 (Oct.word s 2 : Nat), .int .u64 (Oct.word s 3 : Nat), .slice a n c, .int .i64 mn, .int .i64 mx] 30)) := (Below.refl _ _).alloc (Nat.le_refl _) _
  have HNA : Hid (NB (w.alloc (.cells #[.int .i64 7, .int .u64 (Oct.word s 0 : Nat), .int .u64 (Oct.word s 1 : Nat), .int .u64 (Oct.word s 2 : Nat), .int .u64 (Oct.word s 3 : Nat), .slice a n c, .int .i64 mn, .int .i64 mx] 30)) w.heap.size ⟨7, s, a, n, c, mn, mx⟩) := nb_new w ⟨7, s, a, n, c, mn, mx⟩
  have HB : Hid (Below w.heap.size w (w.alloc (.cells #[.int .i64 7, .int .u64 (Oct.word s 0 : Nat), .int .u64 (Oct.word s 1 : Nat), .int .u64 (Oct.word s 2 : Nat), .int .u64 (Oct.word s 3 : Nat), .slice a n c, .int .i64 mn, .int .i64 mx] 30))) := kk
  have HF : Hid (BAt (w.alloc (.cells #[.int .i64 7, .int .u64 (Oct.word s 0 : Nat), .int .u64 (Oct.word s 1 : Nat), .int .u64 (Oct.word s 2 : Nat), .int .u64 (Oct.word s 3 : Nat), .slice a n c, .int .i64 mn, .int .i64 mx] 30)) gf fs) := hfs.later kk
  have HGF : Hid (gf < w.heap.size) := bat_lt hfs hfl (by omega)
  obtain ⟨w1, hw1⟩ : ∃ w1, w.alloc (.cells #[.int .i64 7, .int .u64 (Oct.word s 0 : Nat), .int .u64 (Oct.word s 1 : Nat), .int .u64 (Oct.word s 2 : Nat), .int .u64 (Oct.word s 3 : Nat), .slice a n c, .int .i64 mn, .int .i64 mx] 30) = w1 := ⟨_, rfl⟩
  rw [hw1] at HNA HB HF
  obtain ⟨A, hA⟩ : ∃ A, w.heap.size = A := ⟨_, rfl⟩
  rw [hA] at HNA
  have HW1 : Hid (w.alloc (.cells #[.int .i64 7, .int .u64 (Oct.word s 0 : Nat), .int .u64 (Oct.word s 1 : Nat), .int .u64 (Oct.word s 2 : Nat), .int .u64 (Oct.word s 3 : Nat), .slice a n c, .int .i64 mn, .int .i64 mx] 30) = w1) := hw1
  have HAA : Hid (w.heap.size = A) := hA
  have HLW : Hid (Below w0.heap.size w0 w) := hlow
  have HFL : Hid (fs.length = N) := hfl
  clear hw1 hA hlow kk hfs hfl hN
  unfold Nd.val
  simp only
  go_enter Try.func35, Try.ntmps35
  go_upto_region 1 with fail
  rw [HW1.out, HAA.out]
  clear HW1
  go_upto_region 2 with (first | (refine wpList_make_bool rfl _ _ rfl w.heap.size N HB.out.size (by show _ = Value.int .i64 ((N : Nat) : Int); rw [← hNI]; rfl) (by show _ = Value.int .i64 ((N : Nat) : Int); rw [← hNI]; rfl) (by omega) ?_; intro w2 hr2 hb2; have HR2 : Hid (RowB w2 w.heap.size (.slice (some ⟨w1.heap.size, 0, none⟩) N N) (List.replicate N false)) := hr2; have HK2 : Hid (Below w1.heap.size w1 w2) := hb2; clear hr2 hb2) | fail)
  obtain ⟨G, hG⟩ : ∃ G, w1.heap.size = G := ⟨_, rfl⟩
  rw [hG] at HR2 ⊢
  have HAG : Hid (A < G ∧ gf < G) := by have h1 := HNA.out.lt; have h2 := HGF.out; have h3 := HAA.out; exact ⟨by omega, by omega⟩
  have HNA2 : Hid (NB w2 A ⟨7, s, a, n, c, mn, mx⟩) := HNA.out.later HK2.out
  have HB2 : Hid (Below w.heap.size w w2) := below_step HB.out HK2.out
  have HF2 : Hid (BAt w2 gf fs) := HF.out.later HK2.out
  clear hG HNA HB HF HK2
  obtain ⟨y0, y1, y2, y3, y4, y5, y6, y7⟩ := HNA2.out.cells
  simp only at y0 y1 y2 y3 y4 y5 y6 y7
  have hLN : (line.size : Int) < (N : Nat) := by omega
  obtain ⟨b, hb⟩ : ∃ b, fs[line.size]? = some b := ⟨_, List.getElem?_eq_getElem (by rw [HFL.out]; omega)⟩
  have cf0 := HF2.out line.size b hb
  obtain ⟨c0, f0⟩ := HR2.out.cell (i := line.size) (x := false) (by rw [List.getElem?_replicate, if_pos (by omega)])
  have HR3 : Hid (RowB (w2.setCell ⟨G, line.size, none⟩ (.bool b)) w.heap.size (.slice (some ⟨G, 0, none⟩) N N) ((List.replicate N false).set line.size b)) := HR2.out.put line.size b
  have HB3 : Hid (Below w.heap.size w (w2.setCell ⟨G, line.size, none⟩ (.bool b))) := HB2.out.setCell (p := ⟨G, line.size, none⟩) (by show w.heap.size ≤ G; have h1 := HAG.out.1; have h2 := HAA.out; omega) _
  have HI : Hid (Img (Tk line (.mk 7 s subs mn mx)) fs ((List.replicate N false).set line.size b)) := fun j => by
    rw [bt_set' (by simp; omega) b (bt_rep N line.size)]
    constructor
    · rintro (h | ⟨h1, h2⟩)
      · exact absurd h (bt_rep N j)
      · exact ⟨line.size, (bt_of hb).2 h2, by rw [Tk]; simp [h1]⟩
    · rintro ⟨i, h, ht⟩
      rw [Tk] at ht
      simp at ht
      obtain ⟨h1, rfl⟩ := ht
      subst h1
      exact Or.inr ⟨rfl, (bt_of hb).1 h⟩
  clear hb
  go_wp2
  go_ret
  exact ⟨HB3.out, G, N, _, rfl, HR3.out, HI.out⟩
end Go.Proofs.Ytjmbimgofceanaa
