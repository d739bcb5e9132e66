
import Derived.Test.YtmjnobdlgbojoaaGreatDoorG07
import Derived.Deep.AppendLies
import Derived.WideShapes
namespace Go.Proofs.YtmjnobdlgbojoaaGreatDoor
open Go.RowKit
structure Nd where
  k : Int
  s : Oct.S
  a : Option Addr
  n : Nat
  c : Nat
  mn : Int
  mx : Int
def Nd.val (x : Nd) : Value := .agg #[.int .i64 x.k, .int .u64 (Oct.word x.s 0 : Nat), .int .u64 (Oct.word x.s 1 : Nat), .int .u64 (Oct.word x.s 2 : Nat), .int .u64 (Oct.word x.s 3 : Nat), .slice x.a x.n x.c, .int .i64 x.mn, .int .i64 x.mx]
def Nd.cells (x : Nd) : List Value := [.int .i64 x.k, .int .u64 (Oct.word x.s 0 : Nat), .int .u64 (Oct.word x.s 1 : Nat), .int .u64 (Oct.word x.s 2 : Nat), .int .u64 (Oct.word x.s 3 : Nat), .slice x.a x.n x.c, .int .i64 x.mn, .int .i64 x.mx]
def zeroNd : Nd := ⟨0, Oct.none, none, 0, 0, 0, 0⟩
theorem word0 (i : Nat) : ((Oct.word Oct.none i : Nat) : Int) = 0 := by rw [show Oct.none = fun _ => false from rfl, Oct.word_none]; rfl
def NB (w : World) (A : Nat) (x : Nd) : Prop := w.heap[A]? = some (.cells #[.int .i64 x.k, .int .u64 (Oct.word x.s 0 : Nat), .int .u64 (Oct.word x.s 1 : Nat), .int .u64 (Oct.word x.s 2 : Nat), .int .u64 (Oct.word x.s 3 : Nat), .slice x.a x.n x.c, .int .i64 x.mn, .int .i64 x.mx] 30 (0, 0))
theorem NB.lt {w : World} {A : Nat} {x : Nd} (h : NB w A x) : A < w.heap.size := (Array.getElem?_eq_some_iff.1 h).1
theorem NB.later {w w' : World} {A : Nat} {x : Nd} (h : NB w A x) (hb : Below w.heap.size w w') : NB w' A x := (hb.block A h.lt).trans h
theorem NB.grown {w w' : World} {A : Nat} {x : Nd} {r : Option Nat} (h : NB w A x) (hg : w.grownBy w' r) (hne : some A ≠ r) : NB w' A x := (hg.block A h.lt hne).trans h
theorem NB.cells {w : World} {A : Nat} {x : Nd} (h : NB w A x) : w.cell? ⟨A, 0, none⟩ = some (.int .i64 x.k) ∧ w.cell? ⟨A, 1, none⟩ = some (.int .u64 (Oct.word x.s 0 : Nat)) ∧ w.cell? ⟨A, 2, none⟩ = some (.int .u64 (Oct.word x.s 1 : Nat)) ∧ w.cell? ⟨A, 3, none⟩ = some (.int .u64 (Oct.word x.s 2 : Nat)) ∧ w.cell? ⟨A, 4, none⟩ = some (.int .u64 (Oct.word x.s 3 : Nat)) ∧ w.cell? ⟨A, 5, none⟩ = some (.slice x.a x.n x.c) ∧ w.cell? ⟨A, 6, none⟩ = some (.int .i64 x.mn) ∧ w.cell? ⟨A, 7, none⟩ = some (.int .i64 x.mx) := by
  unfold NB at h
  refine ⟨?_, ?_, ?_, ?_, ?_, ?_, ?_, ?_⟩ <;> simp [World.cell?, h]
theorem NB.frozen {w : World} {A : Nat} {x : Nd} (h : NB w A x) (j : Nat) : w.frozen? ⟨A, j, none⟩ = false := by
  unfold NB at h
  simp [World.frozen?, h]
theorem nb_new (w : World) (x : Nd) : NB (w.alloc (.cells #[.int .i64 x.k, .int .u64 (Oct.word x.s 0 : Nat), .int .u64 (Oct.word x.s 1 : Nat), .int .u64 (Oct.word x.s 2 : Nat), .int .u64 (Oct.word x.s 3 : Nat), .slice x.a x.n x.c, .int .i64 x.mn, .int .i64 x.mx] 30)) w.heap.size x := heap_alloc_new w _
theorem nb_zero (w : World) : NB (w.alloc (.cells #[.int .i64 0, .int .u64 0, .int .u64 0, .int .u64 0, .int .u64 0, .slice none 0 0, .int .i64 0, .int .i64 0] 30)) w.heap.size zeroNd := by
  have h := nb_new w zeroNd
  simp only [zeroNd, word0] at h ⊢
  exact h
def put8 (w : World) (A : Nat) (x : Nd) : World := (((((((w.setCell ⟨A, 0, none⟩ (.int .i64 x.k)).setCell ⟨A, 1, none⟩ (.int .u64 (Oct.word x.s 0 : Nat))).setCell ⟨A, 2, none⟩ (.int .u64 (Oct.word x.s 1 : Nat))).setCell ⟨A, 3, none⟩ (.int .u64 (Oct.word x.s 2 : Nat))).setCell ⟨A, 4, none⟩ (.int .u64 (Oct.word x.s 3 : Nat))).setCell ⟨A, 5, none⟩ (.slice x.a x.n x.c)).setCell ⟨A, 6, none⟩ (.int .i64 x.mn)).setCell ⟨A, 7, none⟩ (.int .i64 x.mx)
theorem heap_set {w : World} {A : Nat} {c : Array Value} {t : TypeId} {fz : Nat × Nat} (h : w.heap[A]? = some (.cells c t fz)) (j : Nat) (v : Value) : (w.setCell ⟨A, j, none⟩ v).heap[A]? = some (.cells (c.setIfInBounds j v) t fz) := by
  simp only [World.setCell, Array.getElem?_modify, h]
  rfl
theorem NB.put8 {w : World} {A : Nat} {x : Nd} (h : NB w A x) (y : Nd) : NB (put8 w A y) A y := by
  have h8 := heap_set (heap_set (heap_set (heap_set (heap_set (heap_set (heap_set (heap_set h 0 (.int .i64 y.k)) 1 (.int .u64 (Oct.word y.s 0 : Nat))) 2 (.int .u64 (Oct.word y.s 1 : Nat))) 3 (.int .u64 (Oct.word y.s 2 : Nat))) 4 (.int .u64 (Oct.word y.s 3 : Nat))) 5 (.slice y.a y.n y.c)) 6 (.int .i64 y.mn)) 7 (.int .i64 y.mx)
  simp only [List.setIfInBounds_toArray, List.set_cons_zero, List.set_cons_succ] at h8
  exact h8
theorem heap_put8 (w : World) (A : Nat) (x : Nd) (k : Nat) (h : k ≠ A) : (put8 w A x).heap[k]? = w.heap[k]? := by
  unfold put8
  rw [Below.heap_setCell _ ⟨A, 7, none⟩ _ k h, Below.heap_setCell _ ⟨A, 6, none⟩ _ k h, Below.heap_setCell _ ⟨A, 5, none⟩ _ k h, Below.heap_setCell _ ⟨A, 4, none⟩ _ k h, Below.heap_setCell _ ⟨A, 3, none⟩ _ k h, Below.heap_setCell _ ⟨A, 2, none⟩ _ k h, Below.heap_setCell _ ⟨A, 1, none⟩ _ k h, Below.heap_setCell _ ⟨A, 0, none⟩ _ k h]
theorem put8_grown {w u : World} {B A : Nat} (h : w.grownBy u (some B)) (hA : w.heap.size ≤ A) (x : Nd) : w.grownBy (put8 u A x) (some B) := grown_new (grown_new (grown_new (grown_new (grown_new (grown_new (grown_new (grown_new h hA) hA) hA) hA) hA) hA) hA) hA
theorem put8_rb {w : World} {B A : Nat} {s : ByteArray} {i d : Nat} (h : RB w B s i d) (hne : A ≠ B) (x : Nd) : RB (put8 w A x) B s i d := (heap_put8 w A x B (fun e => hne e.symm)).trans h
theorem post_node (f : Func) (slot : Nat) (hf : f.results = #[.cell slot 30]) {Q : Ending → World → Prop} {a : Act} {w : World} {R : Nat} {x : Nd} (hd : a.defers = []) (ha : a.tmps[slot]?.getD undef = .pointer (some ⟨R, 0, none⟩)) (hR : NB w R x) (hQ : Q (.returned x.val) w) : bodyPost Tryz.prog f Q .ret a w := by
  obtain ⟨c0, c1, c2, c3, c4, c5, c6, c7⟩ := hR.cells
  exact bodyPost_ret (by simp only [results, hf]; simp [ha, go_sem, c0, c1, c2, c3, c4, c5, c6, c7, Nd.val]) hd hQ
def flatN (vs : List Nd) : List Value := vs.flatMap Nd.cells
theorem flatN_length (vs : List Nd) : (flatN vs).length = 8 * vs.length := by
  induction vs with
  | nil => rfl
  | cons x r ih => simp only [flatN, List.flatMap_cons, List.length_append, List.length_cons] at ih ⊢; rw [ih]; simp [Nd.cells]; omega
theorem flatN_append (a b : List Nd) : flatN (a ++ b) = flatN a ++ flatN b := by simp [flatN]
theorem flatN_one (vs : List Nd) : ∀ u ∈ flatN vs, u.oneCell' = true := by
  intro u hu
  obtain ⟨x, _, hx⟩ := List.mem_flatMap.1 hu
  simp only [Nd.cells, List.mem_cons, List.not_mem_nil, or_false] at hx
  rcases hx with rfl | rfl | rfl | rfl | rfl | rfl | rfl | rfl <;> rfl
def RowAt (X : Nat → Prop) (w : World) (a : Option Addr) (vs : List Nd) : Prop :=
  vs = [] ∨ ∃ b off, a = some ⟨b, off, none⟩ ∧ X b ∧ ∀ j v, (flatN vs)[j]? = some v → w.cell? ⟨b, off + j, none⟩ = some v
inductive NodeAt (X : Nat → Prop) (w : World) : Tr → Nd → Prop
  | mk (k : Nat) (s : Oct.S) (subs : List Tr) (mn mx : Int) (a : Option Addr) (n c : Nat) (vs : List Nd) (hn : n = subs.length) (hl : vs.length = n) (hr : RowAt X w a vs)
      (hs : ∀ (i : Nat) (t : Tr) (v : Nd), subs[i]? = some t → vs[i]? = some v → NodeAt X w t v) : NodeAt X w (.mk k s subs mn mx) ⟨k, s, a, n, c, mn, mx⟩
theorem RowAt.keep {X Y : Nat → Prop} {w w' : World} {a : Option Addr} {vs : List Nd} (h : RowAt X w a vs) (hXY : ∀ b, X b → b < w.heap.size → Y b) (hk : ∀ b, X b → b < w.heap.size → w'.heap[b]? = w.heap[b]?) : RowAt Y w' a vs := by
  rcases h with h | ⟨b, off, rfl, hX, hc⟩
  · exact Or.inl h
  · by_cases hv : vs = []
    · exact Or.inl hv
    · have hlt : b < w.heap.size := by
        have hpos : 0 < (flatN vs).length := by
          rw [flatN_length]
          have := List.length_pos_iff.2 hv
          omega
        exact World.block_lt_of_cell? w _ (hc 0 _ (List.getElem?_eq_getElem hpos))
      exact Or.inr ⟨b, off, rfl, hXY b hX hlt, fun j v hj => by rw [World.cell?_of_block (w := w) (hk b hX hlt)]; exact hc j v hj⟩
theorem NodeAt.keep {X Y : Nat → Prop} {w w' : World} {t : Tr} {x : Nd} (h : NodeAt X w t x) (hXY : ∀ b, X b → b < w.heap.size → Y b) (hk : ∀ b, X b → b < w.heap.size → w'.heap[b]? = w.heap[b]?) : NodeAt Y w' t x := by
  induction h with
  | mk k s subs mn mx a n c vs hn hl hr hs ih => exact .mk k s subs mn mx a n c vs hn hl (hr.keep hXY hk) (fun i t v ht hv => ih i t v ht hv)
theorem NodeAt.later {X : Nat → Prop} {w w' : World} {t : Tr} {x : Nd} (h : NodeAt X w t x) (hb : Below w.heap.size w w') : NodeAt X w' t x := h.keep (fun _ h _ => h) (fun b _ hlt => hb.block b hlt)
theorem NodeAt.leaf (X : Nat → Prop) (w : World) (k : Nat) (s : Oct.S) (mn mx : Int) (a : Option Addr) (c : Nat) : NodeAt X w (.mk k s [] mn mx) ⟨k, s, a, 0, c, mn, mx⟩ :=
  .mk k s [] mn mx a 0 c [] rfl rfl (Or.inl rfl) (fun i t v h => by simp at h)
def Nodes (w : World) (base : Nat) (V : Value) (ts : List Tr) : Prop :=
  ∃ vs : List Nd, vs.length = ts.length ∧ w.ownsRow base 30 8 V ts.length (flatN vs) ∧ (ts = [] → V = .slice none 0 0) ∧ (ts ≠ [] → ∃ g cap, V = .slice (some ⟨g, 0, none⟩) ts.length cap) ∧
    ∀ (i : Nat) (t : Tr) (v : Nd), ts[i]? = some t → vs[i]? = some v → NodeAt (fun b => base ≤ b ∧ V.ownBlock ≠ some b) w t v
theorem nodes_nil (w : World) (base : Nat) : Nodes w base (.slice none 0 0) [] := ⟨[], rfl, World.ownsRow_nil w base 30 8, fun _ => rfl, fun h => absurd rfl h, fun i t v h => by simp at h⟩
theorem info30 : (Tryz.prog.info? 30).map (fun i => (i.zero, i.size, i.bytes)) = some (some (.agg #[.int .i64 0, .int .u64 0, .int .u64 0, .int .u64 0, .int .u64 0, .slice none 0 0, .int .i64 0, .int .i64 0]), 8, 80) := by kernel_rfl
theorem ownsRow_keep {w w' : World} {base : Nat} {e : TypeId} {size : Nat} {v : Value} {n : Nat} {xs : List Value} (h : w.ownsRow base e size v n xs) (hk : ∀ g, v.ownBlock = some g → base ≤ g → g < w.heap.size → w'.heap[g]? = w.heap[g]?) : w'.ownsRow base e size v n xs := by
  refine ⟨h.1, ?_⟩
  rcases h.2 with h2 | ⟨g, cap, cur, rfl, hBg, hg, rest⟩
  · exact Or.inl h2
  · exact Or.inr ⟨g, cap, cur, rfl, hBg, by rw [hk g rfl hBg (Array.getElem?_eq_some_iff.1 hg).1]; exact hg, rest⟩
theorem Nodes.keep {w w' : World} {base : Nat} {V : Value} {ts : List Tr} (h : Nodes w base V ts) (hk : ∀ b, base ≤ b → b < w.heap.size → w'.heap[b]? = w.heap[b]?) : Nodes w' base V ts := by
  obtain ⟨vs, h1, h2, h3, h4, h5⟩ := h
  exact ⟨vs, h1, ownsRow_keep h2 (fun g _ hb hlt => hk g hb hlt), h3, h4, fun i t v ht hv => (h5 i t v ht hv).keep (fun _ h _ => h) (fun b hb hlt => hk b hb.1 hlt)⟩
theorem run_append_node (w : World) (ty : TypeId) (base : Nat) (V : Value) (ts : List Tr) (h : Nodes w base V ts) (ad : Addr) (cap : Nat) (x : Nd) (t : Tr) (hx : NodeAt (fun b => base ≤ b ∧ V.ownBlock ≠ some b) w t x) (hc : ∀ j v, x.cells[j]? = some v → w.cell? (ad.add j) = some v) (hl : ts.length ≤ 100000) (hb : base ≤ w.heap.size) :
    ∃ g cap' w', (Builtin.append_ #[24, 24] ty #[V, .slice (some ad) 1 cap]).run Tryz.prog w = .ok (.slice (some ⟨g, 0, none⟩) (ts.length + 1) cap') w' ∧ Nodes w' base (.slice (some ⟨g, 0, none⟩) (ts.length + 1) cap') (ts ++ [t]) ∧ w.grownBy w' V.ownBlock ∧ (∀ k, V.ownBlock = some k → base ≤ k) := by
  obtain ⟨vs, h1, h2, h3, h4, h5⟩ := h
  obtain ⟨i0, hi, hz0, hz1, hz2⟩ := info_parts info30
  obtain ⟨g, cap', w', hr, ho, hg, hgg, hlt⟩ := run_append_lies (P := Tryz.prog) w 24 ty base 30 i0 _ 8 80 Tryz.underlying24 hi hz0 hz1 hz2 rfl (by decide) V ts.length (flatN vs) h2 ad 1 cap x.cells rfl hc
    (by have := flatN_one [x]; simpa [flatN] using this) (by decide) (by simp only [maxLen]; omega) (by omega) hb w.heap.size rfl
  have hvb : ∀ k, V.ownBlock = some k → base ≤ k := fun k hk => by
    rcases h2.2 with ⟨rfl, _⟩ | ⟨g', _, _, rfl, hb', _⟩
    · simp [Value.ownBlock] at hk
    · simp [Value.ownBlock] at hk; omega
  have hkeep : ∀ (t' : Tr) (v' : Nd), NodeAt (fun b => base ≤ b ∧ V.ownBlock ≠ some b) w t' v' → NodeAt (fun b => base ≤ b ∧ (Value.slice (some ⟨g, 0, none⟩) (ts.length + 1) cap').ownBlock ≠ some b) w' t' v' := fun t' v' hn =>
    hn.keep (fun b hb hlt => ⟨hb.1, by
      simp only [Value.ownBlock, ne_eq, Option.some.injEq]
      rcases hgg with hgg | hgg
      · intro e; subst e; exact hb.2 hgg
      · omega⟩) (fun b hb hlt => hg.block b hlt (fun e => hb.2 e.symm))
  refine ⟨g, cap', w', hr, ⟨vs ++ [x], by simp [h1], ?_, fun e => by simp at e, fun _ => ⟨g, cap', by simp⟩, fun i t' v' ht hv => ?_⟩, hg, hvb⟩
  · rw [flatN_append, List.length_append]
    have e : flatN [x] = x.cells := by simp [flatN]
    rw [e]
    exact ho
  · by_cases hlt2 : i < ts.length
    · rw [List.getElem?_append_left hlt2] at ht
      rw [List.getElem?_append_left (by omega)] at hv
      exact hkeep t' v' (h5 i t' v' ht hv)
    · rw [List.getElem?_append_right (by omega)] at ht
      rw [List.getElem?_append_right (by omega), h1] at hv
      have e0 : i - ts.length = 0 := by
        have := (List.getElem?_eq_some_iff.1 ht).1
        simp at this
        omega
      rw [e0] at ht hv
      simp at ht hv
      subst ht hv
      exact hkeep t x hx
end Go.Proofs.YtmjnobdlgbojoaaGreatDoor


namespace Go.Proofs.YtmjnobdlgbojoaaGreatDoor
open Go.RowKit
attribute [local go_sem ↓] Go.wp_at_zero Go.wp_at_succ
def put8z (w : World) (A : Nat) (k : Int) (a : Option Addr) (n c : Nat) (mn mx : Int) : World := (((((((w.setCell ⟨A, 0, none⟩ (.int .i64 k)).setCell ⟨A, 1, none⟩ (.int .u64 0)).setCell ⟨A, 2, none⟩ (.int .u64 0)).setCell ⟨A, 3, none⟩ (.int .u64 0)).setCell ⟨A, 4, none⟩ (.int .u64 0)).setCell ⟨A, 5, none⟩ (.slice a n c)).setCell ⟨A, 6, none⟩ (.int .i64 mn)).setCell ⟨A, 7, none⟩ (.int .i64 mx)
theorem put8z_eq (w : World) (A : Nat) (k : Int) (a : Option Addr) (n c : Nat) (mn mx : Int) : put8z w A k a n c mn mx = put8 w A ⟨k, Oct.none, a, n, c, mn, mx⟩ := by
  simp only [put8z, put8, word0]
theorem Nodes.row {w : World} {base : Nat} {V : Value} {ts : List Tr} (h : Nodes w base V ts) (hne : ts ≠ []) : ∃ g cap vs, V = .slice (some ⟨g, 0, none⟩) ts.length cap ∧ vs.length = ts.length ∧ ts.length ≤ cap ∧ RowAt (fun b => base ≤ b) w (some ⟨g, 0, none⟩) vs ∧ ∀ (i : Nat) (t : Tr) (v : Nd), ts[i]? = some t → vs[i]? = some v → NodeAt (fun b => base ≤ b) w t v := by
  obtain ⟨vs, h1, h2, h3, h4, h5⟩ := h
  obtain ⟨g, cap, rfl⟩ := h4 hne
  refine ⟨g, cap, vs, rfl, h1, ?_, ?_, fun i t v ht hv => (h5 i t v ht hv).keep (fun b hb _ => hb.1) (fun _ _ _ => rfl)⟩
  · rcases h2.2 with ⟨h, _⟩ | ⟨g', cap', cur, h, _, _, hc, _⟩
    · simp at h
    · simp at h; omega
  · refine Or.inr ⟨g, 0, rfl, ?_, fun j v hj => ?_⟩
    · rcases h2.2 with ⟨h, _⟩ | ⟨g', cap', cur, h, hb, _⟩
      · simp at h
      · simp at h; omega
    · rw [Nat.zero_add]
      have hjl := (List.getElem?_eq_some_iff.1 hj).1
      rw [flatN_length, h1] at hjl
      rw [h2.cellAt j (by omega)]
      exact hj
theorem RowAt.one {X : Nat → Prop} {w : World} {g : Nat} {vs : List Nd} (h : RowAt X w (some ⟨g, 0, none⟩) vs) {x : Nd} (hx : vs[0]? = some x) : w.cell? ⟨g, 0, none⟩ = some (.int .i64 x.k) ∧ w.cell? ⟨g, 1, none⟩ = some (.int .u64 (Oct.word x.s 0 : Nat)) ∧ w.cell? ⟨g, 2, none⟩ = some (.int .u64 (Oct.word x.s 1 : Nat)) ∧ w.cell? ⟨g, 3, none⟩ = some (.int .u64 (Oct.word x.s 2 : Nat)) ∧ w.cell? ⟨g, 4, none⟩ = some (.int .u64 (Oct.word x.s 3 : Nat)) ∧ w.cell? ⟨g, 5, none⟩ = some (.slice x.a x.n x.c) ∧ w.cell? ⟨g, 6, none⟩ = some (.int .i64 x.mn) ∧ w.cell? ⟨g, 7, none⟩ = some (.int .i64 x.mx) := by
  rcases h with h | ⟨b, off, e, _, hc⟩
  · subst h; simp at hx
  · cases e
    obtain ⟨y, r, rfl⟩ : ∃ y r, vs = y :: r := by
      cases vs with
      | nil => simp at hx
      | cons y r => exact ⟨y, r, rfl⟩
    simp at hx
    subst hx
    have hf : flatN (y :: r) = y.cells ++ flatN r := by simp [flatN]
    refine ⟨?_, ?_, ?_, ?_, ?_, ?_, ?_, ?_⟩
    · have := hc 0 (.int .i64 y.k) (by rw [hf]; rfl); simpa using this
    · have := hc 1 (.int .u64 (Oct.word y.s 0 : Nat)) (by rw [hf]; rfl); simpa using this
    · have := hc 2 (.int .u64 (Oct.word y.s 1 : Nat)) (by rw [hf]; rfl); simpa using this
    · have := hc 3 (.int .u64 (Oct.word y.s 2 : Nat)) (by rw [hf]; rfl); simpa using this
    · have := hc 4 (.int .u64 (Oct.word y.s 3 : Nat)) (by rw [hf]; rfl); simpa using this
    · have := hc 5 (.slice y.a y.n y.c) (by rw [hf]; rfl); simpa using this
    · have := hc 6 (.int .i64 y.mn) (by rw [hf]; rfl); simpa using this
    · have := hc 7 (.int .i64 y.mx) (by rw [hf]; rfl); simpa using this
def TreeV (base : Nat) (w : World) (t : Tr) (v : Value) : Prop := ∃ x : Nd, v = x.val ∧ NodeAt (fun b => base ≤ b) w t x
theorem below_put8 {w u : World} {A B : Nat} (h : Below B w u) (hA : B ≤ A) (x : Nd) : Below B w (put8 u A x) :=
  (((((((h.setCell (p := ⟨A, 0, none⟩) hA _).setCell (p := ⟨A, 1, none⟩) hA _).setCell (p := ⟨A, 2, none⟩) hA _).setCell (p := ⟨A, 3, none⟩) hA _).setCell (p := ⟨A, 4, none⟩) hA _).setCell (p := ⟨A, 5, none⟩) hA _).setCell (p := ⟨A, 6, none⟩) hA _).setCell (p := ⟨A, 7, none⟩) hA _
set_option maxHeartbeats 1000000 in
theorem together_any (k base : Nat) (V : Value) (ts : List Tr) (w : World) (h : Nodes w base V ts) (hl : ts.length ≤ 100000) : Calls Tryz.prog 79 #[.int .i64 (k : Nat), V] w fun e w' => (∃ v, e = .returned v ∧ TreeV base w' (together k ts) v) ∧ Below w.heap.size w w' := by
  have H0 : Hid (NB (w.alloc (.cells #[.int .i64 0, .int .u64 0, .int .u64 0, .int .u64 0, .int .u64 0, .slice none 0 0, .int .i64 0, .int .i64 0] 30)) w.heap.size zeroNd) := nb_zero w
  obtain ⟨u, hu⟩ : ∃ u, u = w.alloc (.cells #[.int .i64 0, .int .u64 0, .int .u64 0, .int .u64 0, .int .u64 0, .slice none 0 0, .int .i64 0, .int .i64 0] 30) := ⟨_, rfl⟩
  obtain ⟨R, hR⟩ : ∃ R, R = w.heap.size := ⟨_, rfl⟩
  rw [← hu, ← hR] at H0
  have HU : Hid (u = _) := hu
  have HRR : Hid (R = _) := hR
  have hbu : Below w.heap.size w u := by rw [hu]; exact (Below.refl _ _).alloc (Nat.le_refl _) _
  have HBX : Hid (∀ x : Nd, Below w.heap.size w (put8 u R x)) := fun x => by rw [hR]; exact below_put8 hbu (Nat.le_refl _) x
  have HKEEP : Hid (∀ (x : Nd) (t : Tr) (y : Nd), NodeAt (fun b => base ≤ b) u t y → NodeAt (fun b => base ≤ b) w t y → NodeAt (fun b => base ≤ b) (put8 u R x) t y) := fun x t y _ hy => hy.later (HBX.out x)
  obtain ⟨z0, z1, z2, z3, z4, z5, z6, z7⟩ := H0.out.cells
  have y0 := H0.out.frozen 0
  have y1 := H0.out.frozen 1
  have y2 := H0.out.frozen 2
  have y3 := H0.out.frozen 3
  have y4 := H0.out.frozen 4
  have y5 := H0.out.frozen 5
  have y6 := H0.out.frozen 6
  have y7 := H0.out.frozen 7
  have HT : Hid (Nodes w base V ts) := h
  clear hu hR
  match ts, h, hl, HT with
  | [], h, _, _ =>
    obtain ⟨vs, h1, h2, h3, _⟩ := h
    obtain rfl := h3 rfl
    clear h1 h2 h3
    go_enter Tryz.func79, Tryz.ntmps79
    go_upto_region 1 with fail
    rw [← HU.out, ← HRR.out]
    go_wp2
    show bodyPost _ _ _ _ _ (put8z u R 1 none 0 0 0 0)
    rw [put8z_eq]
    refine post_node Tryz.f79 4 rfl rfl rfl (H0.out.put8 _) ⟨⟨_, rfl, _, rfl, ?_⟩, HBX.out _⟩
    exact NodeAt.leaf _ _ 1 Oct.none 0 0 none 0
  | [t], h, _, _ =>
    obtain ⟨g, cap, vs, rfl, h1, hcap, hrow, hs⟩ := h.row (by simp)
    obtain ⟨x, hx⟩ : ∃ x, vs[0]? = some x := by
      cases vs with
      | nil => simp at h1
      | cons x r => exact ⟨x, rfl⟩
    have HX : Hid (NodeAt (fun b => base ≤ b) w t x) := hs 0 t x rfl hx
    obtain ⟨d0, d1, d2, d3, d4, d5, d6, d7⟩ := (hrow.keep (Y := fun b => base ≤ b) (w' := u) (fun _ h _ => h) (fun b _ hb => hbu.block b hb)).one hx
    clear h hs hrow h1 hx
    go_enter Tryz.func79, Tryz.ntmps79
    go_upto_region 1 with fail
    rw [← HU.out, ← HRR.out]
    go_wp2
    exact post_node Tryz.f79 4 rfl rfl rfl (H0.out.put8 x) ⟨⟨_, rfl, _, rfl, HX.out.later (HBX.out x)⟩, HBX.out x⟩
  | t1 :: t2 :: r, h, hl, _ =>
    obtain ⟨g, cap, vs, rfl, h1, hcap, hrow, hs⟩ := h.row (by simp)
    have HX : Hid (NodeAt (fun b => base ≤ b) w (.mk k Oct.none (t1 :: t2 :: r) 0 0) ⟨(k : Nat), Oct.none, some ⟨g, 0, none⟩, (t1 :: t2 :: r).length, cap, 0, 0⟩) := .mk k Oct.none _ 0 0 _ _ cap vs rfl h1 hrow hs
    obtain ⟨L, hL⟩ : ∃ L, L = (t1 :: t2 :: r).length := ⟨_, rfl⟩
    have hL2 : 2 ≤ L := by rw [hL]; simp
    have hl' : L ≤ 100000 := by rw [hL]; exact hl
    rw [← hL] at HX ⊢
    have g0 : ¬ (L : Int) = 0 := by omega
    have g1 : ¬ (L : Int) = 1 := by omega
    have g2 : ((L : Int) == 0) = false := by simp; omega
    have g3 : ((L : Int) == 1) = false := by simp; omega
    clear h hs hrow h1 hL hl hcap
    go_enter Tryz.func79, Tryz.ntmps79
    go_upto_region 1 with fail
    rw [← HU.out, ← HRR.out]
    go_wp2
    show bodyPost _ _ _ _ _ (put8z u R k (some ⟨g, 0, none⟩) L cap 0 0)
    rw [put8z_eq]
    exact post_node Tryz.f79 4 rfl rfl rfl (H0.out.put8 _) ⟨⟨_, rfl, _, rfl, HX.out.later (HBX.out _)⟩, HBX.out _⟩
end Go.Proofs.YtmjnobdlgbojoaaGreatDoor


namespace Go.Proofs.YtmjnobdlgbojoaaGreatDoor
open Go.RowKit
attribute [local go_sem ↓] Go.wp_at_zero Go.wp_at_succ
theorem NB.set {u : World} {A : Nat} {x : Nd} (h : NB u A x) {B : Nat} (hne : A ≠ B) (j : Nat) (v : Value) : NB (u.setCell ⟨B, j, none⟩ v) A x := by
  unfold NB at h ⊢
  rw [Below.heap_setCell u ⟨B, j, none⟩ v A hne]
  exact h
theorem row_new {u : World} {X : Nat → Prop} (x : Nd) (hX : X u.heap.size) : RowAt X (u.alloc (.cells #[.int .i64 x.k, .int .u64 (Oct.word x.s 0 : Nat), .int .u64 (Oct.word x.s 1 : Nat), .int .u64 (Oct.word x.s 2 : Nat), .int .u64 (Oct.word x.s 3 : Nat), .slice x.a x.n x.c, .int .i64 x.mn, .int .i64 x.mx] 30)) (some ⟨u.heap.size, 0, none⟩) [x] := by
  refine Or.inr ⟨u.heap.size, 0, rfl, hX, fun j v hj => ?_⟩
  rw [Nat.zero_add, World.cell?_alloc_mark]
  have e : flatN [x] = x.cells := by simp [flatN]
  rw [e] at hj
  simpa [Nd.cells] using hj
theorem node_one {X : Nat → Prop} {w : World} {t : Tr} {x : Nd} {a : Option Addr} (k : Nat) (l m : Int) (c : Nat) (hr : RowAt X w a [x]) (ht : NodeAt X w t x) : NodeAt X w (.mk k Oct.none [t] l m) ⟨k, Oct.none, a, 1, c, l, m⟩ :=
  .mk k Oct.none [t] l m a 1 c [x] rfl rfl hr (fun i t' v' h1 h2 => by
    cases i with
    | zero => simp at h1 h2; subst h1 h2; exact ht
    | succ i => simp at h1)
theorem counts_lt {s : ByteArray} {i j : Nat} {x : Int × Int} (h : counts s i = .ok x j) : j < s.size := by
  have he : ∀ {o : Nat} {l m : Int} {k : Nat}, countsEnd s o l m k = .ok x j → j < s.size := fun {o l m k} hh => by
    unfold countsEnd at hh
    split at hh
    · rename_i h1
      cases hh
      simp [sees] at h1
      exact h1.1.1
    · cases hh
  unfold counts at h
  split at h
  · split at h
    · split at h
      · exact he h
      · split at h
        · exact he h
        · cases h
        · cases h
    · exact he h
  · cases h
  · cases h
structure Rp (w : World) (s : ByteArray) (B A R d : Nat) (base : Nat) (t : Tr) (x : Nd) (u : World) (i : Nat) : Prop where
  box : NB u A x
  res : NB u R zeroNd
  rd : RB u B s i d
  grown : w.grownBy u (some B)
  node : NodeAt (fun b => base ≤ b ∧ b < w.heap.size) u t x
  hA : w.heap.size ≤ A
  hR : w.heap.size ≤ R
  hB : B < base
  hbase : base ≤ w.heap.size
section
variable {w : World} {s : ByteArray} {B A R d base : Nat} {t : Tr} {x : Nd} {u u' : World} {i : Nat}
theorem Rp.later (h : Rp w s B A R d base t x u i) (hb : Below u.heap.size u u') : Rp w s B A R d base t x u' i :=
  ⟨h.box.later hb, h.res.later hb, h.rd.later hb, grown_below h.grown hb, h.node.later hb, h.hA, h.hR, h.hB, h.hbase⟩
theorem Rp.read (h : Rp w s B A R d base t x u i) {j : Nat} (hg : u.grownBy u' (some B)) (hr : RB u' B s j d) : Rp w s B A R d base t x u' j := by
  have h1 := h.hA
  have h2 := h.hR
  have h3 := h.hB
  have h4 := h.hbase
  exact ⟨h.box.grown hg (by simp; omega), h.res.grown hg (by simp; omega), hr, grown_trans h.grown hg, h.node.keep (fun _ h _ => h) (fun b hb hlt => hg.block b hlt (by simp; omega)), h1, h2, h3, h4⟩
end
set_option maxHeartbeats 4000000 in
theorem repeated_walk (B i d base : Nat) (s : ByteArray) (t : Tr) (x : Nd) (w : World) (h : RB w B s i d) (hi : i ≤ s.size) (hs : s.size ≤ 1024) (hn : NodeAt (fun b => base ≤ b) w t x) (hB : B < base) (hbase : base ≤ w.heap.size) : Calls Tryz.prog 85 #[.pointer (some ⟨B, 0, none⟩), x.val] w (Reads w B s d (repeated s t i) (TreeV base)) := by
  obtain ⟨w0, hw0⟩ : ∃ w0, w0 = w.alloc (.cells #[.int .i64 x.k, .int .u64 (Oct.word x.s 0 : Nat), .int .u64 (Oct.word x.s 1 : Nat), .int .u64 (Oct.word x.s 2 : Nat), .int .u64 (Oct.word x.s 3 : Nat), .slice x.a x.n x.c, .int .i64 x.mn, .int .i64 x.mx] 30) := ⟨_, rfl⟩
  obtain ⟨w1, hw1⟩ : ∃ w1, w1 = w0.alloc (.cells #[.int .i64 0, .int .u64 0, .int .u64 0, .int .u64 0, .int .u64 0, .slice none 0 0, .int .i64 0, .int .i64 0] 30) := ⟨_, rfl⟩
  have z0 : w0.heap.size = w.heap.size + 1 := by rw [hw0]; simp
  have k0 : Below w.heap.size w w0 := by rw [hw0]; exact (Below.refl _ _).alloc (Nat.le_refl _) _
  have k1 : Below w0.heap.size w0 w1 := by rw [hw1]; exact (Below.refl _ _).alloc (Nat.le_refl _) _
  have HS : Hid (Rp w s B w.heap.size (w.heap.size + 1) d base t x w1 i) :=
    ⟨by have hb0 : NB w0 w.heap.size x := (by rw [hw0]; exact nb_new w x); exact hb0.later k1, by have hb1 : NB w1 w0.heap.size zeroNd := (by rw [hw1]; exact nb_zero w0); rw [z0] at hb1; exact hb1, (h.later k0).later k1, grown_below (grown_below (grown_refl _ _) k0) k1, ((hn.keep (Y := fun b => base ≤ b ∧ b < w.heap.size) (fun b hb hlt => ⟨hb, hlt⟩) (fun _ _ _ => rfl)).later k0).later k1, Nat.le_refl _, by omega, hB, hbase⟩
  have HW1 : Hid (w0.alloc (.cells #[.int .i64 0, .int .u64 0, .int .u64 0, .int .u64 0, .int .u64 0, .slice none 0 0, .int .i64 0, .int .i64 0] 30) = w1) := hw1.symm
  have HW0 : Hid (w.alloc (.cells #[.int .i64 x.k, .int .u64 (Oct.word x.s 0 : Nat), .int .u64 (Oct.word x.s 1 : Nat), .int .u64 (Oct.word x.s 2 : Nat), .int .u64 (Oct.word x.s 3 : Nat), .slice x.a x.n x.c, .int .i64 x.mn, .int .i64 x.mx] 30) = w0) := hw0.symm
  obtain ⟨A, hA⟩ : ∃ A, A = w.heap.size := ⟨_, rfl⟩
  obtain ⟨R, hR⟩ : ∃ R, R = w.heap.size + 1 := ⟨_, rfl⟩
  rw [← hA] at HS
  rw [show A + 1 = R by omega] at HS
  have HAA : Hid (A = w.heap.size) := hA
  have HRR : Hid (R = w.heap.size + 1) := hR
  clear hw0 hw1 z0 k0 k1 h hn hA hR
  have HFIN : Hid (∀ (u : World) (j : Nat) (l m : Int), Rp w s B A R d base t x u j → j < s.size → repeated s t i = .ok (times t l m) (j + 1) →
      Reads w B s d (repeated s t i) (TreeV base) (.returned (Nd.val ⟨(5 : Nat), Oct.none, some ⟨u.heap.size, 0, none⟩, 1, 1, l, m⟩)) (put8 ((u.setCell ⟨B, 1, none⟩ (.int .i64 ((j : Int) + 1))).alloc (.cells #[.int .i64 x.k, .int .u64 (Oct.word x.s 0 : Nat), .int .u64 (Oct.word x.s 1 : Nat), .int .u64 (Oct.word x.s 2 : Nat), .int .u64 (Oct.word x.s 3 : Nat), .slice x.a x.n x.c, .int .i64 x.mn, .int .i64 x.mx] 30)) R ⟨(5 : Nat), Oct.none, some ⟨u.heap.size, 0, none⟩, 1, 1, l, m⟩)) := fun u j l m hrp hj he => by
    have hr1 : RB (u.setCell ⟨B, 1, none⟩ (.int .i64 ((j : Int) + 1))) B s (j + 1) d := hrp.rd.at (j + 1)
    have hp1 := hrp.read (grown_set u B 1 (.int .i64 ((j : Int) + 1))) hr1
    have hal := (Below.refl (u.setCell ⟨B, 1, none⟩ (.int .i64 ((j : Int) + 1))).heap.size (u.setCell ⟨B, 1, none⟩ (.int .i64 ((j : Int) + 1)))).alloc (Nat.le_refl _) (.cells #[.int .i64 x.k, .int .u64 (Oct.word x.s 0 : Nat), .int .u64 (Oct.word x.s 1 : Nat), .int .u64 (Oct.word x.s 2 : Nat), .int .u64 (Oct.word x.s 3 : Nat), .slice x.a x.n x.c, .int .i64 x.mn, .int .i64 x.mx] 30)
    have hp2 := hp1.later hal
    have hsz : (u.setCell ⟨B, 1, none⟩ (.int .i64 ((j : Int) + 1))).heap.size = u.heap.size := by simp [World.setCell]
    have hlt := hp1.box.lt
    have hrow := row_new (u := u.setCell ⟨B, 1, none⟩ (.int .i64 ((j : Int) + 1))) (X := fun b => base ≤ b ∧ b ≠ R) x ⟨by have := hrp.hA; have := hrp.hbase; omega, by have := hp1.res.lt; omega⟩
    rw [hsz] at hrow
    unfold Reads
    rw [he]
    refine ⟨by omega, _, rfl, ⟨_, rfl, ?_⟩, put8_rb hp2.rd (by have := hp2.hR; have := hp2.hB; have := hp2.hbase; omega) _, put8_grown hp2.grown hp2.hR _⟩
    have hnode := hp2.node
    have hRb := hp2.hR
    refine node_one 5 l m 1 (hrow.keep (fun b hb _ => hb.1) (fun b hb _ => heap_put8 _ R _ b hb.2)) ?_
    exact hnode.keep (fun b hb _ => hb.1) (fun b hb _ => heap_put8 _ R _ b (by omega))
  unfold Nd.val
  go_enter Tryz.func85, Tryz.ntmps85
  go_upto_region 1 with fail
  rw [HW0.out, HW1.out, ← HAA.out, show A + 1 = R by rw [HAA.out, HRR.out]]
  clear HW0 HW1 HAA HRR
  have HSw1 := HS
  clear HS
  go_wp2_with fail
  refine (sees_any B i d 42 s w1 HSw1.out.rd hi).mono ?_
  rintro e u1 ⟨rfl, kk⟩
  have HSu1 : Hid (Rp w s B A R d base t x u1 i) := HSw1.out.later kk
  clear kk HSw1
  cases h42 : sees s i 42 with
  | true =>
    have hlt : i < s.size := by unfold sees at h42; simp at h42; exact h42.1
    have HX : Hid (repeated s t i = .ok (times t 0 (-1)) (i + 1)) := by show _ = _; simp [repeated, h42]
    clear h42
    obtain ⟨c0, c1, c2⟩ := HSu1.out.rd.cells
    have f1 := HSu1.out.rd.frozen 1
    have hj3 : i ≤ 1024 := by omega
    have hjl : i < s.size := by omega
    have hRB : R ≠ B := by have := HSu1.out.hR; have := HSu1.out.hB; have := HSu1.out.hbase; omega
    have hAB : A ≠ B := by have := HSu1.out.hA; have := HSu1.out.hB; have := HSu1.out.hbase; omega
    have HBOX : Hid (NB (u1.setCell ⟨B, 1, none⟩ (.int .i64 ((i : Int) + 1))) A x) := HSu1.out.box.set hAB _ _
    have HRES : Hid (NB (u1.setCell ⟨B, 1, none⟩ (.int .i64 ((i : Int) + 1))) R zeroNd) := HSu1.out.res.set hRB _ _
    have HF := HFIN.out u1 i 0 (-1) HSu1.out hjl HX.out
    have HFH : Hid (Reads w B s d (repeated s t i) (TreeV base) _ _) := HF
    clear HF hRB hAB
    go_upto_region 11 with fail
    obtain ⟨u9, hu9⟩ : ∃ u9, u9 = u1.setCell ⟨B, 1, none⟩ (.int .i64 ((i : Int) + 1)) := ⟨_, rfl⟩
    have hsz9 : u9.heap.size = u1.heap.size := by rw [hu9]; simp [World.setCell]
    rw [← hu9] at HBOX HRES HFH ⊢
    rw [← hsz9] at HFH
    clear hu9 hsz9 c0 c1 c2 f1
    obtain ⟨b0, b1, b2, b3, b4, b5, b6, b7⟩ := HBOX.out.cells
    have hal : Below u9.heap.size u9 (u9.alloc (.cells #[.int .i64 x.k, .int .u64 (Oct.word x.s 0 : Nat), .int .u64 (Oct.word x.s 1 : Nat), .int .u64 (Oct.word x.s 2 : Nat), .int .u64 (Oct.word x.s 3 : Nat), .slice x.a x.n x.c, .int .i64 x.mn, .int .i64 x.mx] 30)) := (Below.refl _ _).alloc (Nat.le_refl _) _
    have HRES2 : Hid (NB (u9.alloc (.cells #[.int .i64 x.k, .int .u64 (Oct.word x.s 0 : Nat), .int .u64 (Oct.word x.s 1 : Nat), .int .u64 (Oct.word x.s 2 : Nat), .int .u64 (Oct.word x.s 3 : Nat), .slice x.a x.n x.c, .int .i64 x.mn, .int .i64 x.mx] 30)) R zeroNd) := HRES.out.later hal
    clear hal
    obtain ⟨z0, z1, z2, z3, z4, z5, z6, z7⟩ := HRES2.out.cells
    have y0 := HRES2.out.frozen 0
    have y1 := HRES2.out.frozen 1
    have y2 := HRES2.out.frozen 2
    have y3 := HRES2.out.frozen 3
    have y4 := HRES2.out.frozen 4
    have y5 := HRES2.out.frozen 5
    have y6 := HRES2.out.frozen 6
    have y7 := HRES2.out.frozen 7
    go_wp2
    show bodyPost _ _ _ _ _ (put8z _ R 5 (some ⟨u9.heap.size, 0, none⟩) 1 1 0 (-1))
    rw [put8z_eq]
    exact post_node Tryz.f85 4 rfl rfl rfl (HRES2.out.put8 _) HFH.out
  | false =>
    have H42 : Hid (sees s i 42 = false) := h42
    clear h42
    go_wp2_with fail
    refine (sees_any B i d 43 s u1 HSu1.out.rd hi).mono ?_
    rintro e u2 ⟨rfl, kk⟩
    have HSu2 : Hid (Rp w s B A R d base t x u2 i) := HSu1.out.later kk
    clear kk HSu1
    cases h43 : sees s i 43 with
    | true =>
      have hlt : i < s.size := by unfold sees at h43; simp at h43; exact h43.1
      have HX : Hid (repeated s t i = .ok (times t 1 (-1)) (i + 1)) := by show _ = _; simp [repeated, H42.out, h43]
      clear h43
      obtain ⟨c0, c1, c2⟩ := HSu2.out.rd.cells
      have f1 := HSu2.out.rd.frozen 1
      have hj3 : i ≤ 1024 := by omega
      have hjl : i < s.size := by omega
      have hRB : R ≠ B := by have := HSu2.out.hR; have := HSu2.out.hB; have := HSu2.out.hbase; omega
      have hAB : A ≠ B := by have := HSu2.out.hA; have := HSu2.out.hB; have := HSu2.out.hbase; omega
      have HBOX : Hid (NB (u2.setCell ⟨B, 1, none⟩ (.int .i64 ((i : Int) + 1))) A x) := HSu2.out.box.set hAB _ _
      have HRES : Hid (NB (u2.setCell ⟨B, 1, none⟩ (.int .i64 ((i : Int) + 1))) R zeroNd) := HSu2.out.res.set hRB _ _
      have HF := HFIN.out u2 i 1 (-1) HSu2.out hjl HX.out
      have HFH : Hid (Reads w B s d (repeated s t i) (TreeV base) _ _) := HF
      clear HF hRB hAB
      go_upto_region 11 with fail
      obtain ⟨u9, hu9⟩ : ∃ u9, u9 = u2.setCell ⟨B, 1, none⟩ (.int .i64 ((i : Int) + 1)) := ⟨_, rfl⟩
      have hsz9 : u9.heap.size = u2.heap.size := by rw [hu9]; simp [World.setCell]
      rw [← hu9] at HBOX HRES HFH ⊢
      rw [← hsz9] at HFH
      clear hu9 hsz9 c0 c1 c2 f1
      obtain ⟨b0, b1, b2, b3, b4, b5, b6, b7⟩ := HBOX.out.cells
      have hal : Below u9.heap.size u9 (u9.alloc (.cells #[.int .i64 x.k, .int .u64 (Oct.word x.s 0 : Nat), .int .u64 (Oct.word x.s 1 : Nat), .int .u64 (Oct.word x.s 2 : Nat), .int .u64 (Oct.word x.s 3 : Nat), .slice x.a x.n x.c, .int .i64 x.mn, .int .i64 x.mx] 30)) := (Below.refl _ _).alloc (Nat.le_refl _) _
      have HRES2 : Hid (NB (u9.alloc (.cells #[.int .i64 x.k, .int .u64 (Oct.word x.s 0 : Nat), .int .u64 (Oct.word x.s 1 : Nat), .int .u64 (Oct.word x.s 2 : Nat), .int .u64 (Oct.word x.s 3 : Nat), .slice x.a x.n x.c, .int .i64 x.mn, .int .i64 x.mx] 30)) R zeroNd) := HRES.out.later hal
      clear hal
      obtain ⟨z0, z1, z2, z3, z4, z5, z6, z7⟩ := HRES2.out.cells
      have y0 := HRES2.out.frozen 0
      have y1 := HRES2.out.frozen 1
      have y2 := HRES2.out.frozen 2
      have y3 := HRES2.out.frozen 3
      have y4 := HRES2.out.frozen 4
      have y5 := HRES2.out.frozen 5
      have y6 := HRES2.out.frozen 6
      have y7 := HRES2.out.frozen 7
      go_wp2
      show bodyPost _ _ _ _ _ (put8z _ R 5 (some ⟨u9.heap.size, 0, none⟩) 1 1 1 (-1))
      rw [put8z_eq]
      exact post_node Tryz.f85 4 rfl rfl rfl (HRES2.out.put8 _) HFH.out
    | false =>
      have H43 : Hid (sees s i 43 = false) := h43
      clear h43
      go_wp2_with fail
      refine (sees_any B i d 63 s u2 HSu2.out.rd hi).mono ?_
      rintro e u3 ⟨rfl, kk⟩
      have HSu3 : Hid (Rp w s B A R d base t x u3 i) := HSu2.out.later kk
      clear kk HSu2
      cases h63 : sees s i 63 with
      | true =>
        have hlt : i < s.size := by unfold sees at h63; simp at h63; exact h63.1
        have HX : Hid (repeated s t i = .ok (times t 0 1) (i + 1)) := by show _ = _; simp [repeated, H42.out, H43.out, h63]
        clear h63
        obtain ⟨c0, c1, c2⟩ := HSu3.out.rd.cells
        have f1 := HSu3.out.rd.frozen 1
        have hj3 : i ≤ 1024 := by omega
        have hjl : i < s.size := by omega
        have hRB : R ≠ B := by have := HSu3.out.hR; have := HSu3.out.hB; have := HSu3.out.hbase; omega
        have hAB : A ≠ B := by have := HSu3.out.hA; have := HSu3.out.hB; have := HSu3.out.hbase; omega
        have HBOX : Hid (NB (u3.setCell ⟨B, 1, none⟩ (.int .i64 ((i : Int) + 1))) A x) := HSu3.out.box.set hAB _ _
        have HRES : Hid (NB (u3.setCell ⟨B, 1, none⟩ (.int .i64 ((i : Int) + 1))) R zeroNd) := HSu3.out.res.set hRB _ _
        have HF := HFIN.out u3 i 0 1 HSu3.out hjl HX.out
        have HFH : Hid (Reads w B s d (repeated s t i) (TreeV base) _ _) := HF
        clear HF hRB hAB
        go_upto_region 11 with fail
        obtain ⟨u9, hu9⟩ : ∃ u9, u9 = u3.setCell ⟨B, 1, none⟩ (.int .i64 ((i : Int) + 1)) := ⟨_, rfl⟩
        have hsz9 : u9.heap.size = u3.heap.size := by rw [hu9]; simp [World.setCell]
        rw [← hu9] at HBOX HRES HFH ⊢
        rw [← hsz9] at HFH
        clear hu9 hsz9 c0 c1 c2 f1
        obtain ⟨b0, b1, b2, b3, b4, b5, b6, b7⟩ := HBOX.out.cells
        have hal : Below u9.heap.size u9 (u9.alloc (.cells #[.int .i64 x.k, .int .u64 (Oct.word x.s 0 : Nat), .int .u64 (Oct.word x.s 1 : Nat), .int .u64 (Oct.word x.s 2 : Nat), .int .u64 (Oct.word x.s 3 : Nat), .slice x.a x.n x.c, .int .i64 x.mn, .int .i64 x.mx] 30)) := (Below.refl _ _).alloc (Nat.le_refl _) _
        have HRES2 : Hid (NB (u9.alloc (.cells #[.int .i64 x.k, .int .u64 (Oct.word x.s 0 : Nat), .int .u64 (Oct.word x.s 1 : Nat), .int .u64 (Oct.word x.s 2 : Nat), .int .u64 (Oct.word x.s 3 : Nat), .slice x.a x.n x.c, .int .i64 x.mn, .int .i64 x.mx] 30)) R zeroNd) := HRES.out.later hal
        clear hal
        obtain ⟨z0, z1, z2, z3, z4, z5, z6, z7⟩ := HRES2.out.cells
        have y0 := HRES2.out.frozen 0
        have y1 := HRES2.out.frozen 1
        have y2 := HRES2.out.frozen 2
        have y3 := HRES2.out.frozen 3
        have y4 := HRES2.out.frozen 4
        have y5 := HRES2.out.frozen 5
        have y6 := HRES2.out.frozen 6
        have y7 := HRES2.out.frozen 7
        go_wp2
        show bodyPost _ _ _ _ _ (put8z _ R 5 (some ⟨u9.heap.size, 0, none⟩) 1 1 0 1)
        rw [put8z_eq]
        exact post_node Tryz.f85 4 rfl rfl rfl (HRES2.out.put8 _) HFH.out
      | false =>
        have H63 : Hid (sees s i 63 = false) := h63
        clear h63
        go_wp2_with fail
        refine (sees_any B i d 123 s u3 HSu3.out.rd hi).mono ?_
        rintro e u4 ⟨rfl, kk⟩
        have HSu4 : Hid (Rp w s B A R d base t x u4 i) := HSu3.out.later kk
        clear kk HSu3
        cases h123 : sees s i 123 with
        | true =>
          have hlt : i < s.size := by unfold sees at h123; simp at h123; exact h123.1
          have HX0 : Hid (repeated s t i = match counts s i with
            | .ok (l, m) j => .ok (times t l m) (j + 1)
            | .bad a e => .bad a e
            | .out => .out) := by show _ = _; simp only [repeated, H42.out, H43.out, H63.out, h123]; rfl
          clear h123
          go_wp2_with fail
          refine (counts_any B i d s u4 HSu4.out.rd hlt hs).mono ?_
          intro e u5 h5
          cases hc : counts s i with
          | out => rw [hc] at h5; exact h5.elim
          | bad a c =>
            rw [hc] at h5 HX0
            obtain ⟨rfl, hg5⟩ := h5
            have HG5 : Hid (w.grownBy u5 (some B)) := grown_trans HSu4.out.grown hg5
            clear hc hg5
            go_wp2
            refine ⟨rfl, ?_⟩
            unfold Reads
            rw [HX0.out]
            exact ⟨rfl, HG5.out⟩
          | ok lm j =>
            obtain ⟨l, m⟩ := lm
            rw [hc] at h5 HX0
            obtain ⟨hj, v, rfl, rfl, hr5, hg5⟩ := h5
            have HSu5 : Hid (Rp w s B A R d base t x u5 j) := HSu4.out.read hg5 hr5
            have HX : Hid (repeated s t i = .ok (times t l m) (j + 1)) := HX0
            have hjlt : j < s.size := counts_lt hc
            clear hc hr5 hg5 HX0 HSu4
            obtain ⟨c0, c1, c2⟩ := HSu5.out.rd.cells
            have f1 := HSu5.out.rd.frozen 1
            have hj3 : j ≤ 1024 := by omega
            have hjl : j < s.size := by omega
            have hRB : R ≠ B := by have := HSu5.out.hR; have := HSu5.out.hB; have := HSu5.out.hbase; omega
            have hAB : A ≠ B := by have := HSu5.out.hA; have := HSu5.out.hB; have := HSu5.out.hbase; omega
            have HBOX : Hid (NB (u5.setCell ⟨B, 1, none⟩ (.int .i64 ((j : Int) + 1))) A x) := HSu5.out.box.set hAB _ _
            have HRES : Hid (NB (u5.setCell ⟨B, 1, none⟩ (.int .i64 ((j : Int) + 1))) R zeroNd) := HSu5.out.res.set hRB _ _
            have HF := HFIN.out u5 j l m HSu5.out hjl HX.out
            have HFH : Hid (Reads w B s d (repeated s t i) (TreeV base) _ _) := HF
            clear HF hRB hAB
            go_upto_region 11 with fail
            obtain ⟨u9, hu9⟩ : ∃ u9, u9 = u5.setCell ⟨B, 1, none⟩ (.int .i64 ((j : Int) + 1)) := ⟨_, rfl⟩
            have hsz9 : u9.heap.size = u5.heap.size := by rw [hu9]; simp [World.setCell]
            rw [← hu9] at HBOX HRES HFH ⊢
            rw [← hsz9] at HFH
            clear hu9 hsz9 c0 c1 c2 f1
            obtain ⟨b0, b1, b2, b3, b4, b5, b6, b7⟩ := HBOX.out.cells
            have hal : Below u9.heap.size u9 (u9.alloc (.cells #[.int .i64 x.k, .int .u64 (Oct.word x.s 0 : Nat), .int .u64 (Oct.word x.s 1 : Nat), .int .u64 (Oct.word x.s 2 : Nat), .int .u64 (Oct.word x.s 3 : Nat), .slice x.a x.n x.c, .int .i64 x.mn, .int .i64 x.mx] 30)) := (Below.refl _ _).alloc (Nat.le_refl _) _
            have HRES2 : Hid (NB (u9.alloc (.cells #[.int .i64 x.k, .int .u64 (Oct.word x.s 0 : Nat), .int .u64 (Oct.word x.s 1 : Nat), .int .u64 (Oct.word x.s 2 : Nat), .int .u64 (Oct.word x.s 3 : Nat), .slice x.a x.n x.c, .int .i64 x.mn, .int .i64 x.mx] 30)) R zeroNd) := HRES.out.later hal
            clear hal
            obtain ⟨z0, z1, z2, z3, z4, z5, z6, z7⟩ := HRES2.out.cells
            have y0 := HRES2.out.frozen 0
            have y1 := HRES2.out.frozen 1
            have y2 := HRES2.out.frozen 2
            have y3 := HRES2.out.frozen 3
            have y4 := HRES2.out.frozen 4
            have y5 := HRES2.out.frozen 5
            have y6 := HRES2.out.frozen 6
            have y7 := HRES2.out.frozen 7
            go_wp2
            show bodyPost _ _ _ _ _ (put8z _ R 5 (some ⟨u9.heap.size, 0, none⟩) 1 1 l m)
            rw [put8z_eq]
            exact post_node Tryz.f85 4 rfl rfl rfl (HRES2.out.put8 _) HFH.out
        | false =>
          have HX : Hid (repeated s t i = .ok t i) := by show _ = _; simp [repeated, H42.out, H43.out, H63.out, h123]
          clear h123
          obtain ⟨b0, b1, b2, b3, b4, b5, b6, b7⟩ := HSu4.out.box.cells
          obtain ⟨z0, z1, z2, z3, z4, z5, z6, z7⟩ := HSu4.out.res.cells
          have y0 := HSu4.out.res.frozen 0
          have y1 := HSu4.out.res.frozen 1
          have y2 := HSu4.out.res.frozen 2
          have y3 := HSu4.out.res.frozen 3
          have y4 := HSu4.out.res.frozen 4
          have y5 := HSu4.out.res.frozen 5
          have y6 := HSu4.out.res.frozen 6
          have y7 := HSu4.out.res.frozen 7
          go_wp2
          refine post_node Tryz.f85 4 rfl rfl rfl (HSu4.out.res.put8 x) ?_
          unfold Reads
          rw [HX.out]
          have hRb := HSu4.out.hR
          have hBb := HSu4.out.hB
          have hbb := HSu4.out.hbase
          exact ⟨hi, _, rfl, ⟨_, rfl, HSu4.out.node.keep (fun b hb _ => hb.1) (fun b hb _ => heap_put8 _ R _ b (by omega))⟩, put8_rb HSu4.out.rd (by omega) _, put8_grown HSu4.out.grown hRb _⟩
end Go.Proofs.YtmjnobdlgbojoaaGreatDoor
