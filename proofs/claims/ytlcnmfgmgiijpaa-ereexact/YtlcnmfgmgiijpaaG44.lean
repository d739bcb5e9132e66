/- The document's reader of layer 4: trees in new memory, lists of nodes, what its methods answer. -/
import Derived.Test.YtlcnmfgmgiijpaaG41
import Derived.Test.YtlcnmfgmgiijpaaG14
namespace Go.Proofs.Ytlcnmfgmgiijpaa
open Go.RowKit

/-- a tree in new memory -/
def NewT (base : Nat) (w : World) (t : Tr) (x : Nd) : Prop := NodeAt (fun b => base ≤ b ∧ TyB w 28 b) w t x
section
variable {base base' b0 B : Nat} {w w' : World} {t : Tr} {x : Nd} {s : ByteArray} {i d e a : Nat}
theorem NewT.keep (h : NewT base w t x) (hb : base' ≤ base) (hk : ∀ b, base ≤ b → b < w.heap.size → TyB w 28 b → w'.heap[b]? = w.heap[b]?) : NewT base' w' t x :=
  NodeAt.keep h (fun b hX hlt => ⟨Nat.le_trans hb hX.1, hX.2.same (hk b hX.1 hlt hX.2)⟩) (fun b hX hlt => hk b hX.1 hlt hX.2)
theorem NewT.less (h : NewT base w t x) (hb : base' ≤ base) : NewT base' w t x := h.keep hb (fun _ _ _ _ => rfl)
theorem NewT.later (h : NewT base w t x) (hb : Below w.heap.size w w') : NewT base w' t x := h.keep (Nat.le_refl _) (fun b _ hlt _ => hb.block b hlt)
theorem NewT.fr (h : NewT base w t x) (hr : RR w b0 B s i d e a) (hf : Fr b0 B w w') : NewT base w' t x :=
  h.keep (Nat.le_refl _) (fun b _ hlt ht => hf.block b hlt (hr.ne ht (by decide)) (fun _ h3 => absurd (TyB.ne ht h3) (by decide)))
theorem NewT.put8 (h : NewT base w t x) {R : Nat} (hR : R < base) (y : Nd) : NewT base (put8 w R y) t x := h.keep (Nat.le_refl _) (fun b hb _ _ => heap_put8 w R y b (by omega))
theorem NewT.set (h : NewT base w t x) {A : Nat} {u : TypeId} (hA : TyB w u A) (hu : u ≠ 28) (j : Nat) (v : Value) : NewT base (w.setCell ⟨A, j, none⟩ v) t x :=
  h.keep (Nat.le_refl _) (fun b _ _ ht => Below.heap_setCell w ⟨A, j, none⟩ v b (fun e => by simp at e; subst e; exact hu (TyB.ne hA ht)))
theorem NewT.leaf (base : Nat) (w : World) (k : Nat) (s : Oct.S) (mn mx : Int) (a : Option Addr) (c : Nat) : NewT base w (.mk k s [] mn mx) ⟨k, s, a, 0, c, mn, mx⟩ := NodeAt.leaf _ w k s mn mx a c
theorem NB.fr {A : Nat} {y : Nd} (h : NB w A y) (hr : RR w b0 B s i d e a) (hf : Fr b0 B w w') : NB w' A y := hf.keep h (hr.ne ⟨_, _, h⟩ (by decide)) (by decide)
theorem SB.fr {A : Nat} {y : Oct.S} (h : SB w A y) (hr : RR w b0 B s i d e a) (hf : Fr b0 B w w') : SB w' A y := hf.keep h (hr.ne ⟨_, _, h⟩ (by decide)) (by decide)
end
/-- WHAT A METHOD OF THE READER ANSWERS: a tree and the place behind it; or its fault lies in the reader, whatever is answered. -/
def RefT (base : Nat) (w : World) (b0 B : Nat) (s : ByteArray) (d : Nat) (r : Rs Tr) : Ending → World → Prop := fun e w' =>
  match r with
  | .ok t j => j ≤ s.size ∧ ∃ x : Nd, e = .returned x.val ∧ NewT base w' t x ∧ RR w' b0 B s j d 0 0 ∧ Fr b0 B w w'
  | .bad a c => c ≠ 0 ∧ ∃ (t : Tr) (x : Nd) (j d' : Nat), e = .returned x.val ∧ NewT base w' t x ∧ RR w' b0 B s j d' c a ∧ Fr b0 B w w'
  | .out => False
/-- A LIST OF NODES OF THE CALL's OWN. -/
def NodesT (w : World) (base : Nat) (V : Value) (ts : List Tr) : Prop :=
  ∃ vs : List Nd, vs.length = ts.length ∧ w.ownsRow base 28 8 V ts.length (flatN vs) ∧ (ts = [] → V = .slice none 0 0) ∧ (ts ≠ [] → ∃ g cap, V = .slice (some ⟨g, 0, none⟩) ts.length cap) ∧
    ∀ (i : Nat) (t : Tr) (v : Nd), ts[i]? = some t → vs[i]? = some v → NodeAt (fun b => base ≤ b ∧ V.ownBlock ≠ some b ∧ TyB w 28 b) w t v
theorem nodesT_nil (w : World) (base : Nat) : NodesT w base (.slice none 0 0) [] := ⟨[], rfl, World.ownsRow_nil w base 28 8, fun _ => rfl, fun h => absurd rfl h, fun i t v h => by simp at h⟩
theorem NodesT.keep {w w' : World} {base : Nat} {V : Value} {ts : List Tr} (h : NodesT w base V ts) (hk : ∀ b, base ≤ b → b < w.heap.size → TyB w 28 b → w'.heap[b]? = w.heap[b]?) : NodesT w' base V ts := by
  obtain ⟨vs, h1, h2, h3, h4, h5⟩ := h
  refine ⟨vs, h1, ⟨h2.1, ?_⟩, h3, h4, fun i t v ht hv => (h5 i t v ht hv).keep (fun b hb hlt => ⟨hb.1, hb.2.1, hb.2.2.same (hk b hb.1 hlt hb.2.2)⟩) (fun b hb hlt => hk b hb.1 hlt hb.2.2)⟩
  rcases h2.2 with h6 | ⟨g, cap, cur, rfl, hBg, hg, rest⟩
  · exact Or.inl h6
  · exact Or.inr ⟨g, cap, cur, rfl, hBg, (hk g hBg (Array.getElem?_eq_some_iff.1 hg).1 ⟨_, _, hg⟩).trans hg, rest⟩
theorem NodesT.blt {w : World} {base : Nat} {V : Value} {ts : List Tr} (h : NodesT w base V ts) : ∀ b, V.ownBlock = some b → base ≤ b ∧ b < w.heap.size ∧ TyB w 28 b := by
  obtain ⟨vs, h1, h2, h3, h4, h5⟩ := h
  intro b hb
  rcases h2.2 with ⟨rfl, _⟩ | ⟨g, cap, cur, rfl, hbg, hg, _⟩
  · simp [Value.ownBlock] at hb
  · simp [Value.ownBlock] at hb
    subst hb
    exact ⟨hbg, (Array.getElem?_eq_some_iff.1 hg).1, ⟨_, _, hg⟩⟩
theorem nodesT_one {u : World} {base : Nat} {t : Tr} {x : Nd} (hx : NewT base u t x) (hb : base ≤ u.heap.size) : NodesT (u.alloc (.cells #[.int .i64 x.k, .int .u64 (Oct.word x.s 0 : Nat), .int .u64 (Oct.word x.s 1 : Nat), .int .u64 (Oct.word x.s 2 : Nat), .int .u64 (Oct.word x.s 3 : Nat), .slice x.a x.n x.c, .int .i64 x.mn, .int .i64 x.mx] 28)) base (.slice (some ⟨u.heap.size, 0, none⟩) 1 1) [t] := by
  refine ⟨[x], rfl, ⟨by rw [flatN_length]; rfl, Or.inr ⟨u.heap.size, 1, _, rfl, hb, heap_alloc_new u _, Nat.le_refl _, by simp [maxLen], rfl, by simp [flatN, Nd.cells]⟩⟩, fun e => by simp at e, fun _ => ⟨_, _, rfl⟩, fun i t' v' h1 h2 => ?_⟩
  cases i with
  | zero =>
    simp at h1 h2
    subst h1 h2
    have hbl := (Below.refl u.heap.size u).alloc (Nat.le_refl _) (.cells #[.int .i64 x.k, .int .u64 (Oct.word x.s 0 : Nat), .int .u64 (Oct.word x.s 1 : Nat), .int .u64 (Oct.word x.s 2 : Nat), .int .u64 (Oct.word x.s 3 : Nat), .slice x.a x.n x.c, .int .i64 x.mn, .int .i64 x.mx] 28)
    exact NodeAt.keep hx (fun b hb2 hlt => ⟨hb2.1, by simp [Value.ownBlock]; omega, hb2.2.same (hbl.block b hlt)⟩) (fun b _ hlt => hbl.block b hlt)
  | succ i => simp at h1
/-- one node more -/
theorem run_append_nodeT (w : World) (ty : TypeId) (base : Nat) (V : Value) (ts : List Tr) (h : NodesT w base V ts) (ad : Addr) (cap : Nat) (x : Nd) (t : Tr) (hx : NodeAt (fun b => base ≤ b ∧ V.ownBlock ≠ some b ∧ TyB w 28 b) w t x) (hc : ∀ j v, x.cells[j]? = some v → w.cell? (ad.add j) = some v) (hl : ts.length ≤ 100000) (hb : base ≤ w.heap.size) :
    ∃ g cap' w', (Builtin.append_ #[26, 26] ty #[V, .slice (some ad) 1 cap]).run Try.prog w = .ok (.slice (some ⟨g, 0, none⟩) (ts.length + 1) cap') w' ∧ NodesT w' base (.slice (some ⟨g, 0, none⟩) (ts.length + 1) cap') (ts ++ [t]) ∧ w.grownBy w' V.ownBlock := by
  obtain ⟨vs, h1, h2, h3, h4, h5⟩ := h
  obtain ⟨i0, hi, hz0, hz1, hz2⟩ := info_parts info28
  obtain ⟨g, cap', w', hr, ho, hg, hgg, hlt⟩ := run_append_lies (P := Try.prog) w 26 ty base 28 i0 _ 8 80 Try.underlying26 hi hz0 hz1 hz2 rfl (by decide) V ts.length (flatN vs) h2 ad 1 cap x.cells rfl hc
    (by have := flatN_one [x]; simpa [flatN] using this) (by decide) (by simp only [maxLen]; omega) (by omega) hb w.heap.size rfl
  have hkeep : ∀ (t' : Tr) (v' : Nd), NodeAt (fun b => base ≤ b ∧ V.ownBlock ≠ some b ∧ TyB w 28 b) w t' v' → NodeAt (fun b => base ≤ b ∧ (Value.slice (some ⟨g, 0, none⟩) (ts.length + 1) cap').ownBlock ≠ some b ∧ TyB w' 28 b) w' t' v' := fun t' v' hn =>
    hn.keep (fun b hb hlt => ⟨hb.1, by
      simp only [Value.ownBlock, ne_eq, Option.some.injEq]
      rcases hgg with hgg | hgg
      · intro e; subst e; exact hb.2.1 hgg
      · omega, hb.2.2.same (hg.block b hlt (fun e => hb.2.1 e.symm))⟩) (fun b hb hlt => hg.block b hlt (fun e => hb.2.1 e.symm))
  refine ⟨g, cap', w', hr, ⟨vs ++ [x], by simp [h1], ?_, fun e => by simp at e, fun _ => ⟨g, cap', by simp⟩, fun i t' v' ht hv => ?_⟩, hg⟩
  · rw [flatN_append, List.length_append]
    have e : flatN [x] = x.cells := by simp [flatN]
    rw [e]
    exact ho
  · by_cases hlt2 : i < ts.length
    · rw [List.getElem?_append_left hlt2] at ht
      rw [List.getElem?_append_left (by omega)] at hv
      exact hkeep t' v' (h5 i t' v' ht hv)
    · rw [List.getElem?_append_right (by omega)] at ht
      rw [List.getElem?_append_right (by omega), h1] at hv
      have e0 : i - ts.length = 0 := by
        have := (List.getElem?_eq_some_iff.1 ht).1
        simp at this
        omega
      rw [e0] at ht hv
      simp at ht hv
      subst ht hv
      exact hkeep t x hx
theorem NodesT.row {w : World} {base : Nat} {V : Value} {ts : List Tr} (h : NodesT w base V ts) (hne : ts ≠ []) : ∃ g cap vs, V = .slice (some ⟨g, 0, none⟩) ts.length cap ∧ vs.length = ts.length ∧ ts.length ≤ cap ∧ RowAt (fun b => base ≤ b ∧ TyB w 28 b) w (some ⟨g, 0, none⟩) vs ∧ ∀ (i : Nat) (t : Tr) (v : Nd), ts[i]? = some t → vs[i]? = some v → NewT base w t v := by
  have hb := h.blt
  obtain ⟨vs, h1, h2, h3, h4, h5⟩ := h
  obtain ⟨g, cap, rfl⟩ := h4 hne
  refine ⟨g, cap, vs, rfl, h1, ?_, ?_, fun i t v ht hv => (h5 i t v ht hv).keep (fun b hb _ => ⟨hb.1, hb.2.2⟩) (fun _ _ _ => rfl)⟩
  · rcases h2.2 with ⟨h, _⟩ | ⟨g', cap', cur, h, _, _, hc, _⟩
    · simp at h
    · simp at h; omega
  · have hgb := hb g rfl
    refine Or.inr ⟨g, 0, rfl, ⟨hgb.1, hgb.2.2⟩, fun j v hj => ?_⟩
    rw [Nat.zero_add]
    have hjl := (List.getElem?_eq_some_iff.1 hj).1
    rw [flatN_length, h1] at hjl
    rw [h2.cellAt j (by omega)]
    exact hj
theorem wpList_append_nodeT {w : World} {ops : Array Oper} {rest : List Oper} {o : Oper} {a : Act} {Q : Exit → Act → World → Prop} (hgd : o.guard = none) (s y : Operand)
    (ho : o.op = .call { callee := .builtin .append, args := #[s, y], argTypes := #[26, 26] })
    (base : Nat) (V : Value) (ts : List Tr) (hs : a.eval s = V) (hn : NodesT w base V ts) (ad : Addr) (cap : Nat) (x : Nd) (t : Tr) (hy : a.eval y = .slice (some ad) 1 cap) (hx : NodeAt (fun b => base ≤ b ∧ V.ownBlock ≠ some b ∧ TyB w 28 b) w t x) (hc : ∀ j v, x.cells[j]? = some v → w.cell? (ad.add j) = some v) (hl : ts.length ≤ 100000) (hb : base ≤ w.heap.size)
    (h : ∀ g cap' w', NodesT w' base (.slice (some ⟨g, 0, none⟩) (ts.length + 1) cap') (ts ++ [t]) → w.grownBy w' V.ownBlock → wpList Try.prog ops Q rest (a.put o.dst (.slice (some ⟨g, 0, none⟩) (ts.length + 1) cap')) w') : wpList Try.prog ops Q (o :: rest) a w := by
  refine wpList_plain hgd fun K hK => ?_
  obtain ⟨g, cap', w', hr, h2, h3⟩ := run_append_nodeT w o.type base V ts hn ad cap x t hx hc hl hb
  unfold Oper.wp execOp
  simp only [ho, resolve, invoke, builtin, Sem.run_bind, Sem.run_pure, Result.andThen_ok, List.map_toArray, List.map_cons, List.map_nil, hs, hy, hr]
  exact hK _ _ (h g cap' w' h2 h3)
/-- THE STATE of a loop that gathers nodes. -/
structure Ps (w : World) (s : ByteArray) (b0 B R d : Nat) (u : World) (i : Nat) (V : Value) (ts : List Tr) (e a : Nat) : Prop where
  res : NB u R zeroNd
  rd : RR u b0 B s i d e a
  fr : Fr b0 B w u
  nodes : NodesT u (w.heap.size + 1) V ts
  hR : R = w.heap.size
section
variable {w : World} {s : ByteArray} {b0 B R d : Nat} {u u' : World} {i : Nat} {V : Value} {ts : List Tr} {e a : Nat}
theorem Ps.size (h : Ps w s b0 B R d u i V ts e a) : w.heap.size + 1 ≤ u.heap.size := by have := h.res.lt; have := h.hR; omega
theorem Ps.later (h : Ps w s b0 B R d u i V ts e a) (hb : Below u.heap.size u u') : Ps w s b0 B R d u' i V ts e a :=
  ⟨h.res.later hb, h.rd.later hb, h.fr.later hb, h.nodes.keep (fun b _ hlt _ => hb.block b hlt), h.hR⟩
theorem Ps.read (h : Ps w s b0 B R d u i V ts e a) {j d' e' a' : Nat} (hf : Fr b0 B u u') (hr : RR u' b0 B s j d' e' a') : Ps w s b0 B R d' u' j V ts e' a' :=
  ⟨h.res.fr h.rd hf, hr, h.fr.trans hf, h.nodes.keep (fun b _ hlt ht => hf.block b hlt (h.rd.ne ht (by decide)) (fun _ h3 => absurd (TyB.ne ht h3) (by decide))), h.hR⟩
theorem Ps.more (h : Ps w s b0 B R d u i V ts e a) {V' : Value} {ts' : List Tr} (hn : NodesT u' (w.heap.size + 1) V' ts') (hg : u.grownBy u' V.ownBlock) : Ps w s b0 B R d u' i V' ts' e a := by
  have h1 := h.hR
  have hbl := h.nodes.blt
  refine ⟨?_, ?_, h.fr.own hg (fun k hk => by have := (hbl k hk).1; omega), hn, h1⟩
  · exact (hg.block R h.res.lt (fun e => by have := (hbl R e.symm).1; omega)).trans h.res
  · exact h.rd.keep (fun k hlt hk => hg.block k hlt (fun e => by
      have hty := (hbl k e.symm).2.2
      rcases hk with rfl | hk
      · exact absurd (TyB.ne hty h.rd.ty) (by decide)
      · exact absurd (TyB.ne hty hk) (by decide)))
/-- a node that was answered, in the block that is made for it -/
theorem Ps.boxed (h : Ps w s b0 B R d u i V ts e a) {u0 : World} (hu0 : ∀ b, V.ownBlock = some b → b < u0.heap.size) {t : Tr} {x : Nd} (hz : w.heap.size + 1 ≤ u0.heap.size) (hx : NewT u0.heap.size u t x) : NodeAt (fun b => w.heap.size + 1 ≤ b ∧ V.ownBlock ≠ some b ∧ TyB (u.alloc (.cells #[.int .i64 x.k, .int .u64 (Oct.word x.s 0 : Nat), .int .u64 (Oct.word x.s 1 : Nat), .int .u64 (Oct.word x.s 2 : Nat), .int .u64 (Oct.word x.s 3 : Nat), .slice x.a x.n x.c, .int .i64 x.mn, .int .i64 x.mx] 28)) 28 b) (u.alloc (.cells #[.int .i64 x.k, .int .u64 (Oct.word x.s 0 : Nat), .int .u64 (Oct.word x.s 1 : Nat), .int .u64 (Oct.word x.s 2 : Nat), .int .u64 (Oct.word x.s 3 : Nat), .slice x.a x.n x.c, .int .i64 x.mn, .int .i64 x.mx] 28)) t x := by
  have _ := h
  have hbl := (Below.refl u.heap.size u).alloc (Nat.le_refl _) (.cells #[.int .i64 x.k, .int .u64 (Oct.word x.s 0 : Nat), .int .u64 (Oct.word x.s 1 : Nat), .int .u64 (Oct.word x.s 2 : Nat), .int .u64 (Oct.word x.s 3 : Nat), .slice x.a x.n x.c, .int .i64 x.mn, .int .i64 x.mx] 28)
  exact NodeAt.keep hx (fun b hb hlt => ⟨by omega, fun e => by have := hu0 b e; omega, hb.2.same (hbl.block b hlt)⟩) (fun b _ hlt => hbl.block b hlt)
end
/-- how the outermost reading differs: there a bracket that closes nothing is a fault at once -/
def top (s : ByteArray) (d : Nat) (r : Rs Tr) : Rs Tr :=
  match r with
  | .ok t j => if d = 0 ∧ sees s j 41 = true then .bad j 42 else .ok t j
  | .bad a e => .bad a e
  | .out => .out
structure PreR (w : World) (b0 B : Nat) (s : ByteArray) (i d : Nat) : Prop where
  rd : RR w b0 B s i d 0 0
  hi : i ≤ s.size
  hs : s.size ≤ 1024
  hd : d ≤ 64
  hb : b0 ≤ w.heap.size
  nl : ∀ k, k < s.size → byt s k ≠ 10
def RPatOK (n : Nat) : Prop := ∀ (b0 B i d : Nat) (s : ByteArray) (w : World), PreR w b0 B s i d → pat s n d i ≠ .out → Calls Try.prog 27 #[.pointer (some ⟨B, 0, none⟩)] w (RefT w.heap.size w b0 B s d (top s d (pat s n d i)))
def RAltOK (n : Nat) : Prop := ∀ (b0 B i d : Nat) (s : ByteArray) (w : World), PreR w b0 B s i d → alt s n d i ≠ .out → Calls Try.prog 36 #[.pointer (some ⟨B, 0, none⟩)] w (RefT w.heap.size w b0 B s d (top s d (alt s n d i)))
def RPieceOK (n : Nat) : Prop := ∀ (b0 B i d : Nat) (s : ByteArray) (w : World), PreR w b0 B s i d → i < s.size → piece s n d i ≠ .out → Calls Try.prog 45 #[.pointer (some ⟨B, 0, none⟩)] w (RefT w.heap.size w b0 B s d (piece s n d i))
def RAtomOK (n : Nat) : Prop := ∀ (b0 B i d : Nat) (s : ByteArray) (w : World), PreR w b0 B s i d → i < s.size → byt s i ∉ [42, 43, 63, 123] → atom s n d i ≠ .out → Calls Try.prog 49 #[.pointer (some ⟨B, 0, none⟩), .int .u8 (byt s i : Nat)] w (RefT w.heap.size w b0 B s d (atom s n d i))
end Go.Proofs.Ytlcnmfgmgiijpaa

/- The document's set and marked of layer 4. -/
namespace Go.Proofs.Ytlcnmfgmgiijpaa
open Go.RowKit
attribute [local go_sem ↓] Go.wp_at_zero Go.wp_at_succ

theorem rset_any (s : Oct.S) (w : World) : Calls Try.prog 52 #[setV s] w fun e w' => e = .returned (Nd.val ⟨(2 : Nat), s, none, 0, 0, 0, 0⟩) ∧ Below w.heap.size w w' := by
  obtain ⟨w0, hw0⟩ : ∃ w0, w0 = w.alloc (.cells #[.int .u64 (Oct.word s 0 : Nat), .int .u64 (Oct.word s 1 : Nat), .int .u64 (Oct.word s 2 : Nat), .int .u64 (Oct.word s 3 : Nat)] 25) := ⟨_, rfl⟩
  obtain ⟨w1, hw1⟩ : ∃ w1, w1 = w0.alloc (.cells #[.int .i64 0, .int .u64 0, .int .u64 0, .int .u64 0, .int .u64 0, .slice none 0 0, .int .i64 0, .int .i64 0] 28) := ⟨_, rfl⟩
  have z0 : w0.heap.size = w.heap.size + 1 := by rw [hw0]; simp
  have k0 : Below w.heap.size w w0 := by rw [hw0]; exact (Below.refl _ _).alloc (Nat.le_refl _) _
  have k1 : Below w0.heap.size w0 w1 := by rw [hw1]; exact (Below.refl _ _).alloc (Nat.le_refl _) _
  have HBE : Hid (Below w.heap.size w w1) := below_trans k0 k1 k0.size
  have HA : Hid (SB w1 w.heap.size s) := by
    have hb0 : SB w0 w.heap.size s := by rw [hw0]; exact sb_new w s
    exact hb0.later k1
  have HR : Hid (NB w1 (w.heap.size + 1) zeroNd) := by
    have hb1 : NB w1 w0.heap.size zeroNd := by rw [hw1]; exact nb_zero w0
    rw [z0] at hb1
    exact hb1
  have HW1 : Hid (w0.alloc (.cells #[.int .i64 0, .int .u64 0, .int .u64 0, .int .u64 0, .int .u64 0, .slice none 0 0, .int .i64 0, .int .i64 0] 28) = w1) := hw1.symm
  have HW0 : Hid (w.alloc (.cells #[.int .u64 (Oct.word s 0 : Nat), .int .u64 (Oct.word s 1 : Nat), .int .u64 (Oct.word s 2 : Nat), .int .u64 (Oct.word s 3 : Nat)] 25) = w0) := hw0.symm
  obtain ⟨A, hA⟩ : ∃ A, A = w.heap.size := ⟨_, rfl⟩
  obtain ⟨R, hR⟩ : ∃ R, R = w.heap.size + 1 := ⟨_, rfl⟩
  rw [← hA] at HA
  rw [← hR] at HR
  have HAA : Hid (A = w.heap.size) := hA
  have HRR : Hid (R = w.heap.size + 1) := hR
  clear hw0 hw1 z0 k0 k1 hA hR
  obtain ⟨b0, b1, b2, b3⟩ := HA.out.cells
  obtain ⟨z0, z1, z2, z3, z4, z5, z6, z7⟩ := HR.out.cells
  have y0 := HR.out.frozen 0
  have y1 := HR.out.frozen 1
  have y2 := HR.out.frozen 2
  have y3 := HR.out.frozen 3
  have y4 := HR.out.frozen 4
  have y5 := HR.out.frozen 5
  have y6 := HR.out.frozen 6
  have y7 := HR.out.frozen 7
  unfold setV
  go_enter Try.func52, Try.ntmps52
  go_upto_region 1 with fail
  rw [HW0.out, HW1.out, ← HRR.out, ← HAA.out]
  go_wp2
  refine post_node Try.f52 2 rfl rfl rfl (HR.out.put8 ⟨(2 : Nat), s, none, 0, 0, 0, 0⟩) ?_
  exact ⟨rfl, below_put8 HBE.out (by rw [HRR.out]; omega) ⟨(2 : Nat), s, none, 0, 0, 0, 0⟩⟩
def markS : ByteArray := ⟨#[46, 91, 93, 40, 41, 42, 43, 63, 123, 125, 124, 94, 36, 92, 47, 45]⟩
theorem mark_mem (b : Nat) (k : Nat) (hk : k < markS.size) (h : byt markS k = b) : escapable b = true := by
  subst h
  have : ∀ k, k < 16 → escapable (byt markS k) = true := by decide +kernel
  exact this k hk
theorem mark_none (b : Nat) (h : ∀ m, m < 16 → byt markS m ≠ b) : escapable b = false := by
  unfold escapable
  rw [decide_eq_false_iff_not]
  intro hm
  simp only [List.mem_cons, List.not_mem_nil, or_false] at hm
  have e : ∀ k, k < 16 → byt markS k = [46, 91, 93, 40, 41, 42, 43, 63, 123, 125, 124, 94, 36, 92, 47, 45].getD k 0 := by decide +kernel
  rcases hm with rfl | rfl | rfl | rfl | rfl | rfl | rfl | rfl | rfl | rfl | rfl | rfl | rfl | rfl | rfl | rfl
  · exact h 0 (by decide) (e 0 (by decide))
  · exact h 1 (by decide) (e 1 (by decide))
  · exact h 2 (by decide) (e 2 (by decide))
  · exact h 3 (by decide) (e 3 (by decide))
  · exact h 4 (by decide) (e 4 (by decide))
  · exact h 5 (by decide) (e 5 (by decide))
  · exact h 6 (by decide) (e 6 (by decide))
  · exact h 7 (by decide) (e 7 (by decide))
  · exact h 8 (by decide) (e 8 (by decide))
  · exact h 9 (by decide) (e 9 (by decide))
  · exact h 10 (by decide) (e 10 (by decide))
  · exact h 11 (by decide) (e 11 (by decide))
  · exact h 12 (by decide) (e 12 (by decide))
  · exact h 13 (by decide) (e 13 (by decide))
  · exact h 14 (by decide) (e 14 (by decide))
  · exact h 15 (by decide) (e 15 (by decide))
set_option maxHeartbeats 1000000 in
theorem rmarked_any (b : Nat) (w : World) : Calls Try.prog 54 #[.int .u8 (b : Nat)] w fun e w' => e = .returned (.bool (escapable b)) ∧ w' = w := by
  obtain ⟨M, hM⟩ : ∃ M, M = markS := ⟨_, rfl⟩
  have HM : Hid (M = _) := hM
  have hsz : M.size = 16 := by rw [hM]; rfl
  have HYES : Hid (∀ k, k < M.size → byt M k = b → escapable b = true) := by rw [hM]; exact fun k hk h => mark_mem b k hk h
  have HNO : Hid ((∀ m, m < 16 → byt M m ≠ b) → escapable b = false) := by rw [hM]; exact mark_none b
  obtain ⟨E, hE⟩ : ∃ E, E = escapable b := ⟨_, rfl⟩
  rw [← hE] at HYES HNO ⊢
  clear hM hE
  go_enter Try.func54, Try.ntmps54
  go_upto_region 2 with fail
  rw [show (⟨#[46, 91, 93, 40, 41, 42, 43, 63, 123, 125, 124, 94, 36, 92, 47, 45]⟩ : ByteArray) = M from HM.out.symm]
  clear HM
  go_wp2_with fail
  go_loopw [4] (fun v u => ∃ k : Nat, k ≤ 16 ∧ v = .int .i64 k ∧ Hid (∀ m, m < k → byt M m ≠ b) ∧ u = w) (fun v _ => 100 - (intOf v).toNat)
  case atStart => exact ⟨0, Nat.zero_le _, rfl, fun m h => by omega, rfl⟩
  case round =>
    obtain ⟨k, hk, rfl, hno, hw⟩ := hrel
    subst hw
    by_cases hlt : k < M.size
    · have hlt' : (k : Int) < (M.size : Int) := by omega
      have hb := byt_eq hlt
      by_cases he : M[k].toNat = b
      · have g0 : ((M[k].toNat : Int) == (b : Int)) = true := by simp; omega
        have HV : Hid (E = true) := HYES.out k hlt (by rw [hb]; exact he)
        clear he hb
        go_wp2
        go_ret
        exact ⟨ret_bool HV.out.symm, rfl⟩
      · have g0 : ((M[k].toNat : Int) == (b : Int)) = false := by simp; omega
        have HN2 : Hid (∀ m, m < k + 1 → byt M m ≠ b) := fun m hm => by
          by_cases hmk : m = k
          · subst hmk; rw [hb]; exact he
          · exact hno.out m (by omega)
        clear he hb hno
        go_wp2
        go_roundw
        case rel => exact ⟨k + 1, by omega, by go_num, HN2, trivial⟩
        case measure => simp [intOf]; omega
    · have HV : Hid (E = false) := HNO.out (fun m hm => hno.out m (by omega))
      have hlt' : ¬ (k : Int) < (M.size : Int) := by omega
      go_wp2
      go_ret
      exact ⟨ret_bool HV.out.symm, rfl⟩
end Go.Proofs.Ytlcnmfgmgiijpaa

/- The document's alternative of layer 4. -/
namespace Go.Proofs.Ytlcnmfgmgiijpaa
open Go.RowKit
attribute [local go_sem ↓] Go.wp_at_zero Go.wp_at_succ

theorem Ps.nil_ {w : World} {s : ByteArray} {b0 B R d : Nat} {u : World} {i : Nat} {V : Value} {e a : Nat} (h : Ps w s b0 B R d u i V [] e a) : V = .slice none 0 0 := by
  obtain ⟨vs, _, _, h3, _⟩ := h.nodes
  exact h3 rfl
theorem RR.c1 {w : World} {b0 B : Nat} {s : ByteArray} {i d e a : Nat} (h : RR w b0 B s i d e a) : w.cell? ⟨B, 1, none⟩ = some (.int .i64 (i : Nat)) := by
  obtain ⟨_, _, _, h, _⟩ := h.cells
  exact h
theorem RR.c3 {w : World} {b0 B : Nat} {s : ByteArray} {i d e a : Nat} (h : RR w b0 B s i d e a) : w.cell? ⟨B, 3, none⟩ = some (.int .i64 (e : Nat)) := by
  obtain ⟨_, _, _, _, _, h, _⟩ := h.cells
  exact h
theorem fin_ok {base : Nat} {w : World} {b0 B : Nat} {s : ByteArray} {d : Nat} {r : Rs Tr} {t : Tr} {j : Nat} (h : r = .ok t j) (hj : j ≤ s.size) : ∀ (x : Nd) (w' : World), NewT base w' t x → RR w' b0 B s j d 0 0 → Fr b0 B w w' → RefT base w b0 B s d r (.returned x.val) w' := by
  intro x w' h1 h2 h3
  unfold RefT
  rw [h]
  exact ⟨hj, x, rfl, h1, h2, h3⟩
theorem fin_bad {base : Nat} {w : World} {b0 B : Nat} {s : ByteArray} {d : Nat} {r : Rs Tr} {t : Tr} {j d' a c : Nat} (h : r = .bad a c) (hc : c ≠ 0) : ∀ (x : Nd) (w' : World), NewT base w' t x → RR w' b0 B s j d' c a → Fr b0 B w w' → RefT base w b0 B s d r (.returned x.val) w' := by
  intro x w' h1 h2 h3
  unfold RefT
  rw [h]
  exact ⟨hc, t, x, j, d', rfl, h1, h2, h3⟩
theorem top_ok {s : ByteArray} {d : Nat} {r : Rs Tr} {t : Tr} {j : Nat} (h : r = .ok t j) (hn : d = 0 → sees s j 41 = false) : top s d r = .ok t j := by
  subst h
  unfold top
  simp only
  rw [if_neg]
  rintro ⟨h1, h2⟩
  rw [hn h1] at h2
  cases h2
theorem top_bad {s : ByteArray} {d : Nat} {r : Rs Tr} {a c : Nat} (h : r = .bad a c) : top s d r = .bad a c := by
  subst h
  rfl
theorem seesl {s : ByteArray} {j c : Nat} (h : sees s j c = true) : j < s.size := by unfold sees at h; simp at h; exact h.1
theorem sees_two {s : ByteArray} {j c c' : Nat} (h : sees s j c = true) (hn : c ≠ c') : sees s j c' = false := by
  unfold sees at h ⊢
  simp at h ⊢
  intro _
  omega
theorem sees_end {s : ByteArray} {j c : Nat} (h : ¬ j < s.size) : sees s j c = false := by unfold sees; simp [h]
set_option maxRecDepth 4000 in
set_option maxHeartbeats 8000000 in
theorem ralt_walk (n : Nat) (H : ∀ m, m < n → RPieceOK m) : RAltOK n := by
  intro b0 B i d s w pre hout
  obtain ⟨k, rfl⟩ : ∃ k, n = k + 1 := by
    cases n with
    | zero => exact absurd (by simp [alt]) hout
    | succ k => exact ⟨k, rfl⟩
  have HO : Hid (alt s (k + 1) d i ≠ .out) := hout
  have HP : Hid (∀ m, m < k + 1 → RPieceOK m) := H
  have hi := pre.hi
  have hs := pre.hs
  have hd := pre.hd
  have HB0 : Hid (b0 ≤ w.heap.size) := pre.hb
  have HNL : Hid (∀ k, k < s.size → byt s k ≠ 10) := pre.nl
  have hal : Below w.heap.size w (w.alloc (.cells #[.int .i64 0, .int .u64 0, .int .u64 0, .int .u64 0, .int .u64 0, .slice none 0 0, .int .i64 0, .int .i64 0] 28)) := (Below.refl _ _).alloc (Nat.le_refl _) _
  have HS : Hid (Ps w s b0 B w.heap.size d (w.alloc (.cells #[.int .i64 0, .int .u64 0, .int .u64 0, .int .u64 0, .int .u64 0, .slice none 0 0, .int .i64 0, .int .i64 0] 28)) i (.slice none 0 0) [] 0 0) :=
    ⟨nb_zero w, pre.rd.later hal, Fr.of_below b0 B hal, nodesT_nil _ _, rfl⟩
  obtain ⟨w1, hw1⟩ : ∃ w1, w1 = w.alloc (.cells #[.int .i64 0, .int .u64 0, .int .u64 0, .int .u64 0, .int .u64 0, .slice none 0 0, .int .i64 0, .int .i64 0] 28) := ⟨_, rfl⟩
  obtain ⟨R, hR⟩ : ∃ R, R = w.heap.size := ⟨_, rfl⟩
  rw [← hw1, ← hR] at HS
  have HW1 : Hid (w1 = _) := hw1
  have HRR : Hid (R = _) := hR
  have HRL : Hid (w.heap.size ≤ R) := by show _ ≤ _; omega
  have HRS : Hid (R < w.heap.size + 1) := by show _ < _; omega
  clear hw1 hR hal pre hout H
  go_enter Try.func36, Try.ntmps36
  go_upto_region 1 with fail
  rw [← HW1.out, ← HRR.out]
  clear HW1
  go_wp2_with fail
  go_loopw [3] (fun V u => ∃ (m : Nat) (ts : List Tr) (j d' e a : Nat), m < k + 1 ∧ ts.length ≤ 1030 ∧ Hid (Ps w s b0 B R d' u j V ts e a) ∧ ((e = 0 ∧ a = 0 ∧ d' = d ∧ j ≤ s.size ∧ ts.length ≤ j ∧ Hid (alt s (k + 1) d i = altLoop s m d ts j)) ∨ (e ≠ 0 ∧ Hid (top s d (alt s (k + 1) d i) = .bad a e)))) (fun _ u => if intOf ((u.cell? ⟨B, 3, none⟩).getD undef) = 0 then 4001 - (intOf ((u.cell? ⟨B, 1, none⟩).getD undef)).toNat else 0)
  case atStart => exact ⟨k, [], i, d, 0, 0, by omega, by simp, HS, Or.inl ⟨rfl, rfl, rfl, hi, by simp, by show _ = _; rw [alt]⟩⟩
  case round =>
    clear HS
    obtain ⟨m, ts, j, d', e, a, hm, htl, hpt, hcase⟩ := hrel
    rcases hcase with ⟨he, ha, hde, hj, htj, hal⟩ | ⟨he, hbd⟩
    · subst he ha
      rw [hde] at hpt
      clear hde
      have HMS : Hid ((if intOf ((wr.cell? ⟨B, 3, none⟩).getD undef) = 0 then 4001 - (intOf ((wr.cell? ⟨B, 1, none⟩).getD undef)).toNat else 0) = 4001 - j) := by show _ = _; simp only [hpt.out.rd.c3, hpt.out.rd.c1]; simp [intOf]
      obtain ⟨m, rfl⟩ : ∃ m', m = m' + 1 := by
        cases m with
        | zero => exact absurd (hal.out.trans (by simp [altLoop])) HO.out
        | succ m => exact ⟨m, rfl⟩
      have HEND : Hid ((decide (j < s.size) && !(sees s j 124) && !(sees s j 41)) = false → alt s (k + 1) d i = .ok (together 3 ts) j) := fun h => by rw [hal.out, altLoop, h]; rfl
      obtain ⟨o, cc, c0, c1, c2, c3, c4⟩ := hpt.out.rd.cells
      go_wp2_with fail
      refine (rmore_any b0 B j d 0 0 j s wr hpt.out.rd).mono ?_
      rintro e u1 ⟨rfl, hz⟩
      subst hz
      by_cases hend : j < s.size
      · rw [decide_eq_true hend]
        go_wp2_with fail
        refine (ris_any b0 B j d 0 0 j 124 s _ hpt.out.rd).mono ?_
        rintro e u1 ⟨rfl, hz⟩
        subst hz
        cases h124 : sees s j 124 with
        | true =>
          have FIN : Hid (∀ (x : Nd) (w' : World), NewT w.heap.size w' (together 3 ts) x → RR w' b0 B s j d 0 0 → Fr b0 B w w' → RefT w.heap.size w b0 B s d (top s d (alt s (k + 1) d i)) (.returned x.val) w') := fin_ok (top_ok (HEND.out (by simp [h124])) (fun _ => sees_two h124 (by decide))) hj
          clear h124 c0 c1 c2 c3 c4
          rcases ts with _ | ⟨t1, _ | ⟨t2, r⟩⟩
          · skip
            obtain rfl := hpt.out.nil_
            obtain ⟨z0, z1, z2, z3, z4, z5, z6, z7⟩ := hpt.out.res.cells
            have y0 := hpt.out.res.frozen 0
            have y1 := hpt.out.res.frozen 1
            have y2 := hpt.out.res.frozen 2
            have y3 := hpt.out.res.frozen 3
            have y4 := hpt.out.res.frozen 4
            have y5 := hpt.out.res.frozen 5
            have y6 := hpt.out.res.frozen 6
            have y7 := hpt.out.res.frozen 7
            go_wp2
            show bodyPost _ _ _ _ _ (put8z _ R 1 none 0 0 0 0)
            rw [put8z_eq]
            exact post_node Try.f36 2 rfl rfl rfl (hpt.out.res.put8 _) (FIN.out _ _ (NewT.leaf _ _ 1 Oct.none 0 0 none 0) (hpt.out.rd.put8 hpt.out.res _) (hpt.out.fr.put8 HRL.out _))
          · skip
            obtain ⟨g, cap, vs, hV, h1, hcap, hrow, hsub⟩ := hpt.out.nodes.row (by simp)
            subst hV
            obtain ⟨x, hx⟩ : ∃ x, vs[0]? = some x := by
              cases vs with
              | nil => simp at h1
              | cons x r => exact ⟨x, rfl⟩
            have HX1 : Hid (NewT (w.heap.size + 1) _ t1 x) := hsub 0 t1 x rfl hx
            obtain ⟨d0, d1, d2, d3, d4, d5, d6, d7⟩ := hrow.one hx
            simp only [List.length_cons, List.length_nil, Nat.zero_add] at hcap ⊢
            clear hsub hrow h1 hx
            obtain ⟨z0, z1, z2, z3, z4, z5, z6, z7⟩ := hpt.out.res.cells
            have y0 := hpt.out.res.frozen 0
            have y1 := hpt.out.res.frozen 1
            have y2 := hpt.out.res.frozen 2
            have y3 := hpt.out.res.frozen 3
            have y4 := hpt.out.res.frozen 4
            have y5 := hpt.out.res.frozen 5
            have y6 := hpt.out.res.frozen 6
            have y7 := hpt.out.res.frozen 7
            go_wp2
            exact post_node Try.f36 2 rfl rfl rfl (hpt.out.res.put8 _) (FIN.out _ _ ((HX1.out.put8 HRS.out _).less (Nat.le_succ _)) (hpt.out.rd.put8 hpt.out.res _) (hpt.out.fr.put8 HRL.out _))
          · skip
            obtain ⟨g, cap, vs, hV, h1, hcap, hrow, hsub⟩ := hpt.out.nodes.row (by simp)
            have HX1 : Hid (NewT (w.heap.size + 1) _ (.mk 3 Oct.none (t1 :: t2 :: r) 0 0) ⟨(3 : Nat), Oct.none, some ⟨g, 0, none⟩, (t1 :: t2 :: r).length, cap, 0, 0⟩) := .mk 3 Oct.none _ 0 0 _ _ cap vs rfl h1 hrow hsub
            obtain ⟨L, hL⟩ : ∃ L, L = (t1 :: t2 :: r).length := ⟨_, rfl⟩
            have hL2 : 2 ≤ L := by rw [hL]; simp
            have hl' : L ≤ 3000 := by rw [hL]; omega
            rw [← hL] at HX1 hV
            subst hV
            have q0 : ((L : Int) == 0) = false := by simp; omega
            have q1 : ((L : Int) == 1) = false := by simp; omega
            clear hsub hrow h1 hL hcap
            obtain ⟨z0, z1, z2, z3, z4, z5, z6, z7⟩ := hpt.out.res.cells
            have y0 := hpt.out.res.frozen 0
            have y1 := hpt.out.res.frozen 1
            have y2 := hpt.out.res.frozen 2
            have y3 := hpt.out.res.frozen 3
            have y4 := hpt.out.res.frozen 4
            have y5 := hpt.out.res.frozen 5
            have y6 := hpt.out.res.frozen 6
            have y7 := hpt.out.res.frozen 7
            go_wp2
            show bodyPost _ _ _ _ _ (put8z _ R 3 (some ⟨g, 0, none⟩) L cap 0 0)
            rw [put8z_eq]
            exact post_node Try.f36 2 rfl rfl rfl (hpt.out.res.put8 _) (FIN.out _ _ ((HX1.out.put8 HRS.out _).less (Nat.le_succ _)) (hpt.out.rd.put8 hpt.out.res _) (hpt.out.fr.put8 HRL.out _))
        | false =>
          have H124 : Hid (sees s j 124 = false) := h124
          clear h124
          go_wp2_with fail
          refine (ris_any b0 B j d 0 0 j 41 s _ hpt.out.rd).mono ?_
          rintro e u1 ⟨rfl, hz⟩
          subst hz
          cases h41 : sees s j 41 with
          | true =>
            have H41 : Hid (sees s j 41 = true) := h41
            clear h41
            by_cases hd0 : d = 0
            · have HBD : Hid (top s d (alt s (k + 1) d i) = .bad j 42) := by show _ = _; rw [HEND.out (by rw [H41.out]; simp)]; unfold top; simp only; rw [if_pos ⟨hd0, H41.out⟩]
              have q0 : ((d : Int) == 0) = true := by simp; omega
              clear hd0
              go_wp2_with fail
              refine (rfault_any b0 B j d 42 j s _ hpt.out.rd).mono ?_
              rintro e u2 ⟨rfl, hr2, hf2⟩
              have HS2 : Hid (Ps w s b0 B R d u2 j _ ts 42 j) := hpt.out.read hf2 hr2
              clear hr2 hf2 c0 c1 c2 c3 c4
              unfold zeroNd Nd.val
              have FIN : Hid (∀ (x : Nd) (w' : World), NewT w.heap.size w' (together 3 ts) x → RR w' b0 B s j d 42 j → Fr b0 B w w' → RefT w.heap.size w b0 B s d (top s d (alt s (k + 1) d i)) (.returned x.val) w') := fin_bad HBD.out (by decide)
              rcases ts with _ | ⟨t1, _ | ⟨t2, r⟩⟩
              · skip
                obtain rfl := HS2.out.nil_
                obtain ⟨z0, z1, z2, z3, z4, z5, z6, z7⟩ := HS2.out.res.cells
                have y0 := HS2.out.res.frozen 0
                have y1 := HS2.out.res.frozen 1
                have y2 := HS2.out.res.frozen 2
                have y3 := HS2.out.res.frozen 3
                have y4 := HS2.out.res.frozen 4
                have y5 := HS2.out.res.frozen 5
                have y6 := HS2.out.res.frozen 6
                have y7 := HS2.out.res.frozen 7
                go_wp2
                show bodyPost _ _ _ _ _ (put8z _ R 1 none 0 0 0 0)
                rw [put8z_eq]
                exact post_node Try.f36 2 rfl rfl rfl (HS2.out.res.put8 _) (FIN.out _ _ (NewT.leaf _ _ 1 Oct.none 0 0 none 0) (HS2.out.rd.put8 HS2.out.res _) (HS2.out.fr.put8 HRL.out _))
              · skip
                obtain ⟨g, cap, vs, hV, h1, hcap, hrow, hsub⟩ := HS2.out.nodes.row (by simp)
                subst hV
                obtain ⟨x, hx⟩ : ∃ x, vs[0]? = some x := by
                  cases vs with
                  | nil => simp at h1
                  | cons x r => exact ⟨x, rfl⟩
                have HX1 : Hid (NewT (w.heap.size + 1) _ t1 x) := hsub 0 t1 x rfl hx
                obtain ⟨d0, d1, d2, d3, d4, d5, d6, d7⟩ := hrow.one hx
                simp only [List.length_cons, List.length_nil, Nat.zero_add] at hcap ⊢
                clear hsub hrow h1 hx
                obtain ⟨z0, z1, z2, z3, z4, z5, z6, z7⟩ := HS2.out.res.cells
                have y0 := HS2.out.res.frozen 0
                have y1 := HS2.out.res.frozen 1
                have y2 := HS2.out.res.frozen 2
                have y3 := HS2.out.res.frozen 3
                have y4 := HS2.out.res.frozen 4
                have y5 := HS2.out.res.frozen 5
                have y6 := HS2.out.res.frozen 6
                have y7 := HS2.out.res.frozen 7
                go_wp2
                exact post_node Try.f36 2 rfl rfl rfl (HS2.out.res.put8 _) (FIN.out _ _ ((HX1.out.put8 HRS.out _).less (Nat.le_succ _)) (HS2.out.rd.put8 HS2.out.res _) (HS2.out.fr.put8 HRL.out _))
              · skip
                obtain ⟨g, cap, vs, hV, h1, hcap, hrow, hsub⟩ := HS2.out.nodes.row (by simp)
                have HX1 : Hid (NewT (w.heap.size + 1) _ (.mk 3 Oct.none (t1 :: t2 :: r) 0 0) ⟨(3 : Nat), Oct.none, some ⟨g, 0, none⟩, (t1 :: t2 :: r).length, cap, 0, 0⟩) := .mk 3 Oct.none _ 0 0 _ _ cap vs rfl h1 hrow hsub
                obtain ⟨L, hL⟩ : ∃ L, L = (t1 :: t2 :: r).length := ⟨_, rfl⟩
                have hL2 : 2 ≤ L := by rw [hL]; simp
                have hl' : L ≤ 3000 := by rw [hL]; omega
                rw [← hL] at HX1 hV
                subst hV
                have q0 : ((L : Int) == 0) = false := by simp; omega
                have q1 : ((L : Int) == 1) = false := by simp; omega
                clear hsub hrow h1 hL hcap
                obtain ⟨z0, z1, z2, z3, z4, z5, z6, z7⟩ := HS2.out.res.cells
                have y0 := HS2.out.res.frozen 0
                have y1 := HS2.out.res.frozen 1
                have y2 := HS2.out.res.frozen 2
                have y3 := HS2.out.res.frozen 3
                have y4 := HS2.out.res.frozen 4
                have y5 := HS2.out.res.frozen 5
                have y6 := HS2.out.res.frozen 6
                have y7 := HS2.out.res.frozen 7
                go_wp2
                show bodyPost _ _ _ _ _ (put8z _ R 3 (some ⟨g, 0, none⟩) L cap 0 0)
                rw [put8z_eq]
                exact post_node Try.f36 2 rfl rfl rfl (HS2.out.res.put8 _) (FIN.out _ _ ((HX1.out.put8 HRS.out _).less (Nat.le_succ _)) (HS2.out.rd.put8 HS2.out.res _) (HS2.out.fr.put8 HRL.out _))
            · have q0 : ((d : Int) == 0) = false := by simp; omega
              have FIN : Hid (∀ (x : Nd) (w' : World), NewT w.heap.size w' (together 3 ts) x → RR w' b0 B s j d 0 0 → Fr b0 B w w' → RefT w.heap.size w b0 B s d (top s d (alt s (k + 1) d i)) (.returned x.val) w') := fin_ok (top_ok (HEND.out (by rw [H41.out]; simp)) (fun h => absurd h hd0)) hj
              clear hd0
              rcases ts with _ | ⟨t1, _ | ⟨t2, r⟩⟩
              · skip
                obtain rfl := hpt.out.nil_
                obtain ⟨z0, z1, z2, z3, z4, z5, z6, z7⟩ := hpt.out.res.cells
                have y0 := hpt.out.res.frozen 0
                have y1 := hpt.out.res.frozen 1
                have y2 := hpt.out.res.frozen 2
                have y3 := hpt.out.res.frozen 3
                have y4 := hpt.out.res.frozen 4
                have y5 := hpt.out.res.frozen 5
                have y6 := hpt.out.res.frozen 6
                have y7 := hpt.out.res.frozen 7
                go_wp2
                show bodyPost _ _ _ _ _ (put8z _ R 1 none 0 0 0 0)
                rw [put8z_eq]
                exact post_node Try.f36 2 rfl rfl rfl (hpt.out.res.put8 _) (FIN.out _ _ (NewT.leaf _ _ 1 Oct.none 0 0 none 0) (hpt.out.rd.put8 hpt.out.res _) (hpt.out.fr.put8 HRL.out _))
              · skip
                obtain ⟨g, cap, vs, hV, h1, hcap, hrow, hsub⟩ := hpt.out.nodes.row (by simp)
                subst hV
                obtain ⟨x, hx⟩ : ∃ x, vs[0]? = some x := by
                  cases vs with
                  | nil => simp at h1
                  | cons x r => exact ⟨x, rfl⟩
                have HX1 : Hid (NewT (w.heap.size + 1) _ t1 x) := hsub 0 t1 x rfl hx
                obtain ⟨d0, d1, d2, d3, d4, d5, d6, d7⟩ := hrow.one hx
                simp only [List.length_cons, List.length_nil, Nat.zero_add] at hcap ⊢
                clear hsub hrow h1 hx
                obtain ⟨z0, z1, z2, z3, z4, z5, z6, z7⟩ := hpt.out.res.cells
                have y0 := hpt.out.res.frozen 0
                have y1 := hpt.out.res.frozen 1
                have y2 := hpt.out.res.frozen 2
                have y3 := hpt.out.res.frozen 3
                have y4 := hpt.out.res.frozen 4
                have y5 := hpt.out.res.frozen 5
                have y6 := hpt.out.res.frozen 6
                have y7 := hpt.out.res.frozen 7
                go_wp2
                exact post_node Try.f36 2 rfl rfl rfl (hpt.out.res.put8 _) (FIN.out _ _ ((HX1.out.put8 HRS.out _).less (Nat.le_succ _)) (hpt.out.rd.put8 hpt.out.res _) (hpt.out.fr.put8 HRL.out _))
              · skip
                obtain ⟨g, cap, vs, hV, h1, hcap, hrow, hsub⟩ := hpt.out.nodes.row (by simp)
                have HX1 : Hid (NewT (w.heap.size + 1) _ (.mk 3 Oct.none (t1 :: t2 :: r) 0 0) ⟨(3 : Nat), Oct.none, some ⟨g, 0, none⟩, (t1 :: t2 :: r).length, cap, 0, 0⟩) := .mk 3 Oct.none _ 0 0 _ _ cap vs rfl h1 hrow hsub
                obtain ⟨L, hL⟩ : ∃ L, L = (t1 :: t2 :: r).length := ⟨_, rfl⟩
                have hL2 : 2 ≤ L := by rw [hL]; simp
                have hl' : L ≤ 3000 := by rw [hL]; omega
                rw [← hL] at HX1 hV
                subst hV
                have q0 : ((L : Int) == 0) = false := by simp; omega
                have q1 : ((L : Int) == 1) = false := by simp; omega
                clear hsub hrow h1 hL hcap
                obtain ⟨z0, z1, z2, z3, z4, z5, z6, z7⟩ := hpt.out.res.cells
                have y0 := hpt.out.res.frozen 0
                have y1 := hpt.out.res.frozen 1
                have y2 := hpt.out.res.frozen 2
                have y3 := hpt.out.res.frozen 3
                have y4 := hpt.out.res.frozen 4
                have y5 := hpt.out.res.frozen 5
                have y6 := hpt.out.res.frozen 6
                have y7 := hpt.out.res.frozen 7
                go_wp2
                show bodyPost _ _ _ _ _ (put8z _ R 3 (some ⟨g, 0, none⟩) L cap 0 0)
                rw [put8z_eq]
                exact post_node Try.f36 2 rfl rfl rfl (hpt.out.res.put8 _) (FIN.out _ _ ((HX1.out.put8 HRS.out _).less (Nat.le_succ _)) (hpt.out.rd.put8 hpt.out.res _) (hpt.out.fr.put8 HRL.out _))
          | false =>
            have HGO : Hid (alt s (k + 1) d i = match piece s m d j with
              | .ok t j' => altLoop s m d (ts ++ [t]) j'
              | .bad a e => .bad a e
              | .out => .out) := by
              show _ = _
              rw [hal.out, altLoop, H124.out, h41, decide_eq_true hend]
              rfl
            clear h41 c0 c1 c2 c3 c4
            go_wp2_with fail
            have hpo : piece s m d j ≠ .out := fun e => HO.out (by rw [HGO.out, e])
            refine (HP.out m (by omega) b0 B j d s _ ⟨hpt.out.rd, hj, hs, hd, by have := HB0.out; have := hpt.out.fr.size; omega, HNL.out⟩ hend hpo).mono ?_
            intro e u4 h4
            clear hpo
            cases hc : piece s m d j with
            | out => rw [hc] at h4; exact h4.elim
            | bad a c =>
              rw [hc] at h4 HGO
              obtain ⟨hc0, t, x, j', d', rfl, hx, hr4, hf4⟩ := h4
              have HS4 : Hid (Ps w s b0 B R d' u4 j' _ ts c a) := hpt.out.read hf4 hr4
              clear hc hr4 hf4
              have hu3 := hpt.out.size
              have hvb : ∀ b, Value.ownBlock _ = some b → b < u1.heap.size := fun b hb => (hpt.out.nodes.blt b hb).2.1
              have hx5 := HS4.out.boxed hvb hu3 hx
              have hS5 := HS4.out.later ((Below.refl _ u4).alloc (Nat.le_refl _) (.cells #[.int .i64 x.k, .int .u64 (Oct.word x.s 0 : Nat), .int .u64 (Oct.word x.s 1 : Nat), .int .u64 (Oct.word x.s 2 : Nat), .int .u64 (Oct.word x.s 3 : Nat), .slice x.a x.n x.c, .int .i64 x.mn, .int .i64 x.mx] 28))
              have HX5 : Hid (NodeAt _ _ t x) := hx5
              have HS5 : Hid (Ps w s b0 B R d' _ j' _ ts c a) := hS5
              have HC5 : Hid (∀ j v, x.cells[j]? = some v → _) := cells_new u4 x
              have HL5 : Hid (ts.length ≤ 100000) := by show _ ≤ _; omega
              have HZ5 : Hid (w.heap.size + 1 ≤ _) := hS5.size
              clear hx hx5 hS5 hu3 hvb hpt HS4
              unfold Nd.val
              go_wp2_with (at_builtin; go_must (refine wpList_append_nodeT rfl _ _ rfl (w.heap.size + 1) _ ts rfl HS5.out.nodes ⟨u4.heap.size, 0, none⟩ 1 x t rfl HX5.out HC5.out HL5.out HZ5.out ?_; intro g cap' w6 hn6 hg6; have HS6 : Hid (Ps w s b0 B R d' w6 j' _ (ts ++ [t]) c a) := (HS5.out.more hn6 hg6); clear hn6 hg6))
              go_roundw
              case rel => exact ⟨m, ts ++ [t], j', d', c, a, by omega, by simp; omega, HS6, Or.inr ⟨hc0, top_bad HGO.out⟩⟩
              case measure =>
                rw [HMS.out, HS6.out.rd.c3]
                simp [intOf, hc0]
                omega
            | ok t j' =>
              have hjj := (read_ge s m).2.2.2.2.1 _ _ _ _ hc
              rw [hc] at h4 HGO
              obtain ⟨hj', x, rfl, hx, hr4, hf4⟩ := h4
              have HS4 : Hid (Ps w s b0 B R d u4 j' _ ts 0 0) := hpt.out.read hf4 hr4
              clear hc hr4 hf4
              have hu3 := hpt.out.size
              have hvb : ∀ b, Value.ownBlock _ = some b → b < u1.heap.size := fun b hb => (hpt.out.nodes.blt b hb).2.1
              have hx5 := HS4.out.boxed hvb hu3 hx
              have hS5 := HS4.out.later ((Below.refl _ u4).alloc (Nat.le_refl _) (.cells #[.int .i64 x.k, .int .u64 (Oct.word x.s 0 : Nat), .int .u64 (Oct.word x.s 1 : Nat), .int .u64 (Oct.word x.s 2 : Nat), .int .u64 (Oct.word x.s 3 : Nat), .slice x.a x.n x.c, .int .i64 x.mn, .int .i64 x.mx] 28))
              have HX5 : Hid (NodeAt _ _ t x) := hx5
              have HS5 : Hid (Ps w s b0 B R d _ j' _ ts 0 0) := hS5
              have HC5 : Hid (∀ j v, x.cells[j]? = some v → _) := cells_new u4 x
              have HL5 : Hid (ts.length ≤ 100000) := by show _ ≤ _; omega
              have HZ5 : Hid (w.heap.size + 1 ≤ _) := hS5.size
              clear hx hx5 hS5 hu3 hvb hpt HS4
              unfold Nd.val
              go_wp2_with (at_builtin; go_must (refine wpList_append_nodeT rfl _ _ rfl (w.heap.size + 1) _ ts rfl HS5.out.nodes ⟨u4.heap.size, 0, none⟩ 1 x t rfl HX5.out HC5.out HL5.out HZ5.out ?_; intro g cap' w6 hn6 hg6; have HS6 : Hid (Ps w s b0 B R d w6 j' _ (ts ++ [t]) 0 0) := (HS5.out.more hn6 hg6); clear hn6 hg6))
              go_roundw
              case rel => exact ⟨m, ts ++ [t], j', d, 0, 0, by omega, by simp; omega, HS6, Or.inl ⟨rfl, rfl, rfl, hj', by simp; omega, HGO⟩⟩
              case measure =>
                rw [HMS.out, HS6.out.rd.c3, HS6.out.rd.c1]
                simp [intOf]
                omega
      · rw [decide_eq_false hend]
        have FIN : Hid (∀ (x : Nd) (w' : World), NewT w.heap.size w' (together 3 ts) x → RR w' b0 B s j d 0 0 → Fr b0 B w w' → RefT w.heap.size w b0 B s d (top s d (alt s (k + 1) d i)) (.returned x.val) w') := fin_ok (top_ok (HEND.out (by simp [hend])) (fun _ => sees_end hend)) hj
        rcases ts with _ | ⟨t1, _ | ⟨t2, r⟩⟩
        · skip
          obtain rfl := hpt.out.nil_
          obtain ⟨z0, z1, z2, z3, z4, z5, z6, z7⟩ := hpt.out.res.cells
          have y0 := hpt.out.res.frozen 0
          have y1 := hpt.out.res.frozen 1
          have y2 := hpt.out.res.frozen 2
          have y3 := hpt.out.res.frozen 3
          have y4 := hpt.out.res.frozen 4
          have y5 := hpt.out.res.frozen 5
          have y6 := hpt.out.res.frozen 6
          have y7 := hpt.out.res.frozen 7
          go_wp2
          show bodyPost _ _ _ _ _ (put8z _ R 1 none 0 0 0 0)
          rw [put8z_eq]
          exact post_node Try.f36 2 rfl rfl rfl (hpt.out.res.put8 _) (FIN.out _ _ (NewT.leaf _ _ 1 Oct.none 0 0 none 0) (hpt.out.rd.put8 hpt.out.res _) (hpt.out.fr.put8 HRL.out _))
        · skip
          obtain ⟨g, cap, vs, hV, h1, hcap, hrow, hsub⟩ := hpt.out.nodes.row (by simp)
          subst hV
          obtain ⟨x, hx⟩ : ∃ x, vs[0]? = some x := by
            cases vs with
            | nil => simp at h1
            | cons x r => exact ⟨x, rfl⟩
          have HX1 : Hid (NewT (w.heap.size + 1) _ t1 x) := hsub 0 t1 x rfl hx
          obtain ⟨d0, d1, d2, d3, d4, d5, d6, d7⟩ := hrow.one hx
          simp only [List.length_cons, List.length_nil, Nat.zero_add] at hcap ⊢
          clear hsub hrow h1 hx
          obtain ⟨z0, z1, z2, z3, z4, z5, z6, z7⟩ := hpt.out.res.cells
          have y0 := hpt.out.res.frozen 0
          have y1 := hpt.out.res.frozen 1
          have y2 := hpt.out.res.frozen 2
          have y3 := hpt.out.res.frozen 3
          have y4 := hpt.out.res.frozen 4
          have y5 := hpt.out.res.frozen 5
          have y6 := hpt.out.res.frozen 6
          have y7 := hpt.out.res.frozen 7
          go_wp2
          exact post_node Try.f36 2 rfl rfl rfl (hpt.out.res.put8 _) (FIN.out _ _ ((HX1.out.put8 HRS.out _).less (Nat.le_succ _)) (hpt.out.rd.put8 hpt.out.res _) (hpt.out.fr.put8 HRL.out _))
        · skip
          obtain ⟨g, cap, vs, hV, h1, hcap, hrow, hsub⟩ := hpt.out.nodes.row (by simp)
          have HX1 : Hid (NewT (w.heap.size + 1) _ (.mk 3 Oct.none (t1 :: t2 :: r) 0 0) ⟨(3 : Nat), Oct.none, some ⟨g, 0, none⟩, (t1 :: t2 :: r).length, cap, 0, 0⟩) := .mk 3 Oct.none _ 0 0 _ _ cap vs rfl h1 hrow hsub
          obtain ⟨L, hL⟩ : ∃ L, L = (t1 :: t2 :: r).length := ⟨_, rfl⟩
          have hL2 : 2 ≤ L := by rw [hL]; simp
          have hl' : L ≤ 3000 := by rw [hL]; omega
          rw [← hL] at HX1 hV
          subst hV
          have q0 : ((L : Int) == 0) = false := by simp; omega
          have q1 : ((L : Int) == 1) = false := by simp; omega
          clear hsub hrow h1 hL hcap
          obtain ⟨z0, z1, z2, z3, z4, z5, z6, z7⟩ := hpt.out.res.cells
          have y0 := hpt.out.res.frozen 0
          have y1 := hpt.out.res.frozen 1
          have y2 := hpt.out.res.frozen 2
          have y3 := hpt.out.res.frozen 3
          have y4 := hpt.out.res.frozen 4
          have y5 := hpt.out.res.frozen 5
          have y6 := hpt.out.res.frozen 6
          have y7 := hpt.out.res.frozen 7
          go_wp2
          show bodyPost _ _ _ _ _ (put8z _ R 3 (some ⟨g, 0, none⟩) L cap 0 0)
          rw [put8z_eq]
          exact post_node Try.f36 2 rfl rfl rfl (hpt.out.res.put8 _) (FIN.out _ _ ((HX1.out.put8 HRS.out _).less (Nat.le_succ _)) (hpt.out.rd.put8 hpt.out.res _) (hpt.out.fr.put8 HRL.out _))
    · have q0 : ((e : Int) == 0) = false := by simp; omega
      obtain ⟨o, cc, c0, c1, c2, c3, c4⟩ := hpt.out.rd.cells
      have FIN : Hid (∀ (x : Nd) (w' : World), NewT w.heap.size w' (together 3 ts) x → RR w' b0 B s j d' e a → Fr b0 B w w' → RefT w.heap.size w b0 B s d (top s d (alt s (k + 1) d i)) (.returned x.val) w') := fin_bad hbd.out he
      rcases ts with _ | ⟨t1, _ | ⟨t2, r⟩⟩
      · skip
        obtain rfl := hpt.out.nil_
        obtain ⟨z0, z1, z2, z3, z4, z5, z6, z7⟩ := hpt.out.res.cells
        have y0 := hpt.out.res.frozen 0
        have y1 := hpt.out.res.frozen 1
        have y2 := hpt.out.res.frozen 2
        have y3 := hpt.out.res.frozen 3
        have y4 := hpt.out.res.frozen 4
        have y5 := hpt.out.res.frozen 5
        have y6 := hpt.out.res.frozen 6
        have y7 := hpt.out.res.frozen 7
        go_wp2
        show bodyPost _ _ _ _ _ (put8z _ R 1 none 0 0 0 0)
        rw [put8z_eq]
        exact post_node Try.f36 2 rfl rfl rfl (hpt.out.res.put8 _) (FIN.out _ _ (NewT.leaf _ _ 1 Oct.none 0 0 none 0) (hpt.out.rd.put8 hpt.out.res _) (hpt.out.fr.put8 HRL.out _))
      · skip
        obtain ⟨g, cap, vs, hV, h1, hcap, hrow, hsub⟩ := hpt.out.nodes.row (by simp)
        subst hV
        obtain ⟨x, hx⟩ : ∃ x, vs[0]? = some x := by
          cases vs with
          | nil => simp at h1
          | cons x r => exact ⟨x, rfl⟩
        have HX1 : Hid (NewT (w.heap.size + 1) _ t1 x) := hsub 0 t1 x rfl hx
        obtain ⟨d0, d1, d2, d3, d4, d5, d6, d7⟩ := hrow.one hx
        simp only [List.length_cons, List.length_nil, Nat.zero_add] at hcap ⊢
        clear hsub hrow h1 hx
        obtain ⟨z0, z1, z2, z3, z4, z5, z6, z7⟩ := hpt.out.res.cells
        have y0 := hpt.out.res.frozen 0
        have y1 := hpt.out.res.frozen 1
        have y2 := hpt.out.res.frozen 2
        have y3 := hpt.out.res.frozen 3
        have y4 := hpt.out.res.frozen 4
        have y5 := hpt.out.res.frozen 5
        have y6 := hpt.out.res.frozen 6
        have y7 := hpt.out.res.frozen 7
        go_wp2
        exact post_node Try.f36 2 rfl rfl rfl (hpt.out.res.put8 _) (FIN.out _ _ ((HX1.out.put8 HRS.out _).less (Nat.le_succ _)) (hpt.out.rd.put8 hpt.out.res _) (hpt.out.fr.put8 HRL.out _))
      · skip
        obtain ⟨g, cap, vs, hV, h1, hcap, hrow, hsub⟩ := hpt.out.nodes.row (by simp)
        have HX1 : Hid (NewT (w.heap.size + 1) _ (.mk 3 Oct.none (t1 :: t2 :: r) 0 0) ⟨(3 : Nat), Oct.none, some ⟨g, 0, none⟩, (t1 :: t2 :: r).length, cap, 0, 0⟩) := .mk 3 Oct.none _ 0 0 _ _ cap vs rfl h1 hrow hsub
        obtain ⟨L, hL⟩ : ∃ L, L = (t1 :: t2 :: r).length := ⟨_, rfl⟩
        have hL2 : 2 ≤ L := by rw [hL]; simp
        have hl' : L ≤ 3000 := by rw [hL]; omega
        rw [← hL] at HX1 hV
        subst hV
        have q0 : ((L : Int) == 0) = false := by simp; omega
        have q1 : ((L : Int) == 1) = false := by simp; omega
        clear hsub hrow h1 hL hcap
        obtain ⟨z0, z1, z2, z3, z4, z5, z6, z7⟩ := hpt.out.res.cells
        have y0 := hpt.out.res.frozen 0
        have y1 := hpt.out.res.frozen 1
        have y2 := hpt.out.res.frozen 2
        have y3 := hpt.out.res.frozen 3
        have y4 := hpt.out.res.frozen 4
        have y5 := hpt.out.res.frozen 5
        have y6 := hpt.out.res.frozen 6
        have y7 := hpt.out.res.frozen 7
        go_wp2
        show bodyPost _ _ _ _ _ (put8z _ R 3 (some ⟨g, 0, none⟩) L cap 0 0)
        rw [put8z_eq]
        exact post_node Try.f36 2 rfl rfl rfl (hpt.out.res.put8 _) (FIN.out _ _ ((HX1.out.put8 HRS.out _).less (Nat.le_succ _)) (hpt.out.rd.put8 hpt.out.res _) (hpt.out.fr.put8 HRL.out _))
end Go.Proofs.Ytlcnmfgmgiijpaa

/- The document's pattern of layer 4. -/
namespace Go.Proofs.Ytlcnmfgmgiijpaa
open Go.RowKit
attribute [local go_sem ↓] Go.wp_at_zero Go.wp_at_succ

theorem top_ok_inv {s : ByteArray} {d : Nat} {r : Rs Tr} {t : Tr} {j : Nat} (h : top s d r = .ok t j) : r = .ok t j ∧ (d = 0 → sees s j 41 = false) := by
  unfold top at h
  cases r with
  | ok t' j' =>
    simp only at h
    split at h
    · cases h
    · rename_i hn
      cases h
      exact ⟨rfl, fun h0 => by cases hs : sees s j 41 with | false => rfl | true => exact absurd ⟨h0, hs⟩ hn⟩
  | bad a e => cases h
  | out => cases h
theorem top_go {s : ByteArray} {d m : Nat} {r P : Rs Tr} {a c : Nat} {F : Tr → List Tr} (hP : P = match r with
    | .ok t j => patLoop s m d (F t) j
    | .bad a e => .bad a e
    | .out => .out) (ho : P ≠ .out) (h : top s d r = .bad a c) : top s d P = .bad a c := by
  unfold top at h
  cases r with
  | ok t' j' =>
    simp only at h hP
    split at h
    · rename_i hn
      cases h
      cases m with
      | zero => exact absurd (by rw [hP, patLoop]) ho
      | succ m =>
        rw [patLoop, sees_two hn.2 (by decide)] at hP
        rw [hP]
        unfold top
        simp only [Bool.false_eq_true, if_false]
        rw [if_pos hn]
    · cases h
  | bad a' e' =>
    cases h
    rw [hP]
    rfl
  | out => cases h
theorem read_top {s : ByteArray} {d : Nat} {r : Rs Tr} (h : r ≠ .out) : top s d r ≠ .out := by
  unfold top
  cases r with
  | ok t j =>
    simp only
    split <;> simp
  | bad a e => simp
  | out => exact absurd rfl h
set_option maxRecDepth 4000 in
set_option maxHeartbeats 8000000 in
theorem rpat_walk (n : Nat) (H : ∀ m, m < n → RAltOK m) : RPatOK n := by
  intro b0 B i d s w pre hout
  obtain ⟨k, rfl⟩ : ∃ k, n = k + 1 := by
    cases n with
    | zero => exact absurd (by simp [pat]) hout
    | succ k => exact ⟨k, rfl⟩
  have HO : Hid (pat s (k + 1) d i ≠ .out) := hout
  have HP : Hid (∀ m, m < k + 1 → RAltOK m) := H
  have hi := pre.hi
  have hs := pre.hs
  have hd := pre.hd
  have HB0 : Hid (b0 ≤ w.heap.size) := pre.hb
  have HNL : Hid (∀ k, k < s.size → byt s k ≠ 10) := pre.nl
  have hal : Below w.heap.size w (w.alloc (.cells #[.int .i64 0, .int .u64 0, .int .u64 0, .int .u64 0, .int .u64 0, .slice none 0 0, .int .i64 0, .int .i64 0] 28)) := (Below.refl _ _).alloc (Nat.le_refl _) _
  have HS : Hid (Ps w s b0 B w.heap.size d (w.alloc (.cells #[.int .i64 0, .int .u64 0, .int .u64 0, .int .u64 0, .int .u64 0, .slice none 0 0, .int .i64 0, .int .i64 0] 28)) i (.slice none 0 0) [] 0 0) :=
    ⟨nb_zero w, pre.rd.later hal, Fr.of_below b0 B hal, nodesT_nil _ _, rfl⟩
  obtain ⟨w1, hw1⟩ : ∃ w1, w1 = w.alloc (.cells #[.int .i64 0, .int .u64 0, .int .u64 0, .int .u64 0, .int .u64 0, .slice none 0 0, .int .i64 0, .int .i64 0] 28) := ⟨_, rfl⟩
  obtain ⟨R, hR⟩ : ∃ R, R = w.heap.size := ⟨_, rfl⟩
  rw [← hw1, ← hR] at HS
  have HW1 : Hid (w1 = _) := hw1
  have HRR : Hid (R = _) := hR
  have HRL : Hid (w.heap.size ≤ R) := by show _ ≤ _; omega
  have HRS : Hid (R < w.heap.size + 1) := by show _ < _; omega
  clear hw1 hR hal pre hout H
  go_enter Try.func27, Try.ntmps27
  go_upto_region 1 with fail
  rw [← HW1.out, ← HRR.out]
  clear HW1
  go_wp2_with fail
  have HPA : Hid (pat s (k + 1) d i = match alt s k d i with
    | .ok t j => patLoop s k d [t] j
    | .bad a e => .bad a e
    | .out => .out) := by show _ = _; rw [pat]; rfl
  have hpo : alt s k d i ≠ .out := fun e => HO.out (by rw [HPA.out, e])
  refine (HP.out k (by omega) b0 B i d s w1 ⟨HS.out.rd, hi, hs, hd, by have := HB0.out; have := HS.out.fr.size; omega, HNL.out⟩ hpo).mono ?_
  intro e w2 h2
  clear hpo
  obtain ⟨t, x, j0, d0, e0, a0, he, hx, hr2, hf2, hcase⟩ : ∃ (t : Tr) (x : Nd) (j0 d0 e0 a0 : Nat), e = .returned x.val ∧ NewT w1.heap.size w2 t x ∧ RR w2 b0 B s j0 d0 e0 a0 ∧ Fr b0 B w1 w2 ∧ ((e0 = 0 ∧ a0 = 0 ∧ d0 = d ∧ j0 ≤ s.size ∧ (d = 0 → sees s j0 41 = false) ∧ pat s (k + 1) d i = patLoop s k d [t] j0) ∨ (e0 ≠ 0 ∧ top s d (pat s (k + 1) d i) = .bad a0 e0)) := by
    cases hc : top s d (alt s k d i) with
    | out => rw [hc] at h2; exact h2.elim
    | bad a c =>
      rw [hc] at h2
      obtain ⟨hc0, t, x, j', d', he, hx, hr, hf⟩ := h2
      exact ⟨t, x, j', d', c, a, he, hx, hr, hf, Or.inr ⟨hc0, top_go HPA.out HO.out hc⟩⟩
    | ok t j =>
      rw [hc] at h2
      obtain ⟨hj, x, he, hx, hr, hf⟩ := h2
      obtain ⟨h3, h4⟩ := top_ok_inv hc
      exact ⟨t, x, j, d, 0, 0, he, hx, hr, hf, Or.inl ⟨rfl, rfl, rfl, hj, h4, by rw [HPA.out, h3]⟩⟩
  subst he
  have HCASE : Hid ((e0 = 0 ∧ a0 = 0 ∧ d0 = d ∧ j0 ≤ s.size ∧ (d = 0 → sees s j0 41 = false) ∧ pat s (k + 1) d i = patLoop s k d [t] j0) ∨ (e0 ≠ 0 ∧ top s d (pat s (k + 1) d i) = .bad a0 e0)) := hcase
  have hp2 := HS.out.read hf2 hr2
  have hz1 := HS.out.size
  have hz2 := hp2.size
  have hal2 : Below w2.heap.size w2 (w2.alloc (.cells #[.int .i64 x.k, .int .u64 (Oct.word x.s 0 : Nat), .int .u64 (Oct.word x.s 1 : Nat), .int .u64 (Oct.word x.s 2 : Nat), .int .u64 (Oct.word x.s 3 : Nat), .slice x.a x.n x.c, .int .i64 x.mn, .int .i64 x.mx] 28)) := (Below.refl _ _).alloc (Nat.le_refl _) _
  have hp3 := hp2.later hal2
  have HS3 : Hid (Ps w s b0 B R d0 (w2.alloc (.cells #[.int .i64 x.k, .int .u64 (Oct.word x.s 0 : Nat), .int .u64 (Oct.word x.s 1 : Nat), .int .u64 (Oct.word x.s 2 : Nat), .int .u64 (Oct.word x.s 3 : Nat), .slice x.a x.n x.c, .int .i64 x.mn, .int .i64 x.mx] 28)) j0 (.slice (some ⟨w2.heap.size, 0, none⟩) 1 1) [t] e0 a0) :=
    ⟨hp3.res, hp3.rd, hp3.fr, nodesT_one (hx.less hz1) hz2, hp3.hR⟩
  obtain ⟨w3, hw3⟩ : ∃ w3, w3 = w2.alloc (.cells #[.int .i64 x.k, .int .u64 (Oct.word x.s 0 : Nat), .int .u64 (Oct.word x.s 1 : Nat), .int .u64 (Oct.word x.s 2 : Nat), .int .u64 (Oct.word x.s 3 : Nat), .slice x.a x.n x.c, .int .i64 x.mn, .int .i64 x.mx] 28) := ⟨_, rfl⟩
  obtain ⟨G, hG⟩ : ∃ G, G = w2.heap.size := ⟨_, rfl⟩
  rw [← hw3, ← hG] at HS3
  have HW3 : Hid (w3 = _) := hw3
  have HGG : Hid (G = _) := hG
  clear hcase h2 hr2 hf2 hx hp2 hp3 hz1 hz2 hal2 hw3 hG HS
  unfold Nd.val
  go_wp2_with fail
  rw [← HW3.out, ← HGG.out]
  clear HW3 HGG
  go_loopw [3] (fun V u => ∃ (m : Nat) (ts : List Tr) (j d' e a : Nat), m < k + 1 ∧ ts ≠ [] ∧ ts.length ≤ 1030 ∧ Hid (Ps w s b0 B R d' u j V ts e a) ∧ ((e = 0 ∧ a = 0 ∧ d' = d ∧ j ≤ s.size ∧ ts.length ≤ j + 1 ∧ Hid (d = 0 → sees s j 41 = false) ∧ Hid (pat s (k + 1) d i = patLoop s m d ts j)) ∨ (e ≠ 0 ∧ Hid (top s d (pat s (k + 1) d i) = .bad a e)))) (fun _ u => if intOf ((u.cell? ⟨B, 3, none⟩).getD undef) = 0 then 4001 - (intOf ((u.cell? ⟨B, 1, none⟩).getD undef)).toNat else 0)
  case atStart =>
    refine ⟨k, [t], j0, d0, e0, a0, by omega, by simp, by simp, HS3, ?_⟩
    rcases HCASE.out with ⟨h1, h2, h3, h4, h5, h6⟩ | ⟨h1, h2⟩
    · exact Or.inl ⟨h1, h2, h3, h4, by simp, h5, h6⟩
    · exact Or.inr ⟨h1, h2⟩
  case round =>
    clear HS3 HCASE
    obtain ⟨m, ts, j, d', e, a, hm, hne, htl, hpt, hcase⟩ := hrel
    rcases hcase with ⟨he, ha, hde, hj, htj, hnp, hal⟩ | ⟨he, hbd⟩
    · subst he ha
      rw [hde] at hpt
      clear hde
      have HMS : Hid ((if intOf ((wr.cell? ⟨B, 3, none⟩).getD undef) = 0 then 4001 - (intOf ((wr.cell? ⟨B, 1, none⟩).getD undef)).toNat else 0) = 4001 - j) := by show _ = _; simp only [hpt.out.rd.c3, hpt.out.rd.c1]; simp [intOf]
      obtain ⟨m, rfl⟩ : ∃ m', m = m' + 1 := by
        cases m with
        | zero => exact absurd (hal.out.trans (by simp [patLoop])) HO.out
        | succ m => exact ⟨m, rfl⟩
      obtain ⟨o, cc, c0, c1, c2, c3, c4⟩ := hpt.out.rd.cells
      go_wp2_with fail
      refine (ris_any b0 B j d 0 0 j 124 s wr hpt.out.rd).mono ?_
      rintro e u1 ⟨rfl, hz⟩
      subst hz
      cases h124 : sees s j 124 with
      | false =>
        have FIN : Hid (∀ (x : Nd) (w' : World), NewT w.heap.size w' (together 4 ts) x → RR w' b0 B s j d 0 0 → Fr b0 B w w' → RefT w.heap.size w b0 B s d (top s d (pat s (k + 1) d i)) (.returned x.val) w') := fin_ok (top_ok (by rw [hal.out, patLoop, h124]; rfl) hnp.out) hj
        clear h124 c0 c1 c2 c3 c4
        rcases ts with _ | ⟨t1, _ | ⟨t2, r⟩⟩
        · exact absurd rfl hne
        · skip
          obtain ⟨g, cap, vs, hV, h1, hcap, hrow, hsub⟩ := hpt.out.nodes.row (by simp)
          subst hV
          obtain ⟨x, hx⟩ : ∃ x, vs[0]? = some x := by
            cases vs with
            | nil => simp at h1
            | cons x r => exact ⟨x, rfl⟩
          have HX1 : Hid (NewT (w.heap.size + 1) _ t1 x) := hsub 0 t1 x rfl hx
          obtain ⟨d0, d1, d2, d3, d4, d5, d6, d7⟩ := hrow.one hx
          simp only [List.length_cons, List.length_nil, Nat.zero_add] at hcap ⊢
          clear hsub hrow h1 hx
          obtain ⟨z0, z1, z2, z3, z4, z5, z6, z7⟩ := hpt.out.res.cells
          have y0 := hpt.out.res.frozen 0
          have y1 := hpt.out.res.frozen 1
          have y2 := hpt.out.res.frozen 2
          have y3 := hpt.out.res.frozen 3
          have y4 := hpt.out.res.frozen 4
          have y5 := hpt.out.res.frozen 5
          have y6 := hpt.out.res.frozen 6
          have y7 := hpt.out.res.frozen 7
          go_wp2
          exact post_node Try.f27 2 rfl rfl rfl (hpt.out.res.put8 _) (FIN.out _ _ ((HX1.out.put8 HRS.out _).less (Nat.le_succ _)) (hpt.out.rd.put8 hpt.out.res _) (hpt.out.fr.put8 HRL.out _))
        · skip
          obtain ⟨g, cap, vs, hV, h1, hcap, hrow, hsub⟩ := hpt.out.nodes.row (by simp)
          have HX1 : Hid (NewT (w.heap.size + 1) _ (.mk 4 Oct.none (t1 :: t2 :: r) 0 0) ⟨(4 : Nat), Oct.none, some ⟨g, 0, none⟩, (t1 :: t2 :: r).length, cap, 0, 0⟩) := .mk 4 Oct.none _ 0 0 _ _ cap vs rfl h1 hrow hsub
          obtain ⟨L, hL⟩ : ∃ L, L = (t1 :: t2 :: r).length := ⟨_, rfl⟩
          have hL2 : 2 ≤ L := by rw [hL]; simp
          have hl' : L ≤ 3000 := by rw [hL]; omega
          rw [← hL] at HX1 hV
          subst hV
          have q0 : ((L : Int) == 0) = false := by simp; omega
          have q1 : ((L : Int) == 1) = false := by simp; omega
          clear hsub hrow h1 hL hcap
          obtain ⟨z0, z1, z2, z3, z4, z5, z6, z7⟩ := hpt.out.res.cells
          have y0 := hpt.out.res.frozen 0
          have y1 := hpt.out.res.frozen 1
          have y2 := hpt.out.res.frozen 2
          have y3 := hpt.out.res.frozen 3
          have y4 := hpt.out.res.frozen 4
          have y5 := hpt.out.res.frozen 5
          have y6 := hpt.out.res.frozen 6
          have y7 := hpt.out.res.frozen 7
          go_wp2
          show bodyPost _ _ _ _ _ (put8z _ R 4 (some ⟨g, 0, none⟩) L cap 0 0)
          rw [put8z_eq]
          exact post_node Try.f27 2 rfl rfl rfl (hpt.out.res.put8 _) (FIN.out _ _ ((HX1.out.put8 HRS.out _).less (Nat.le_succ _)) (hpt.out.rd.put8 hpt.out.res _) (hpt.out.fr.put8 HRL.out _))
      | true =>
        have hlt : j < s.size := seesl h124
        have HGO : Hid (pat s (k + 1) d i = match alt s m d (j + 1) with
          | .ok t j' => patLoop s m d (ts ++ [t]) j'
          | .bad a e => .bad a e
          | .out => .out) := by
          show _ = _
          rw [hal.out, patLoop, h124]
          rfl
        clear h124
        have f1 := hpt.out.rd.frozen 1
        have hj3 : j ≤ 1024 := by omega
        have HS2 : Hid (Ps w s b0 B R d (u1.setCell ⟨B, 1, none⟩ (.int .i64 ((j : Int) + 1))) (j + 1) _ ts 0 0) := hpt.out.read (Fr.set _ _ _ _ _) (hpt.out.rd.at (j + 1))
        go_upto_region 4 with fail
        obtain ⟨u2, hu2⟩ : ∃ u2, u2 = u1.setCell ⟨B, 1, none⟩ (.int .i64 ((j : Int) + 1)) := ⟨_, rfl⟩
        rw [← hu2] at HS2 ⊢
        clear hu2 c0 c1 c2 c3 c4 f1
        go_wp2_with fail
        have hpo : alt s m d (j + 1) ≠ .out := fun e => HO.out (by rw [HGO.out, e])
        refine (HP.out m (by omega) b0 B (j + 1) d s u2 ⟨HS2.out.rd, by omega, hs, hd, by have := HB0.out; have := HS2.out.fr.size; omega, HNL.out⟩ hpo).mono ?_
        intro e u4 h4
        clear hpo
        cases hc : top s d (alt s m d (j + 1)) with
        | out => rw [hc] at h4; exact h4.elim
        | bad a c =>
          rw [hc] at h4
          obtain ⟨hc0, t, x, j', d', rfl, hx, hr4, hf4⟩ := h4
          have HBD : Hid (top s d (pat s (k + 1) d i) = .bad a c) := top_go HGO.out HO.out hc
          have HS4 : Hid (Ps w s b0 B R d' u4 j' _ ts c a) := HS2.out.read hf4 hr4
          clear hc hr4 hf4
          have hu3 := HS2.out.size
          have hvb : ∀ b, Value.ownBlock _ = some b → b < u2.heap.size := fun b hb => (HS2.out.nodes.blt b hb).2.1
          have hx5 := HS4.out.boxed hvb hu3 hx
          have hS5 := HS4.out.later ((Below.refl _ u4).alloc (Nat.le_refl _) (.cells #[.int .i64 x.k, .int .u64 (Oct.word x.s 0 : Nat), .int .u64 (Oct.word x.s 1 : Nat), .int .u64 (Oct.word x.s 2 : Nat), .int .u64 (Oct.word x.s 3 : Nat), .slice x.a x.n x.c, .int .i64 x.mn, .int .i64 x.mx] 28))
          have HX5 : Hid (NodeAt _ _ t x) := hx5
          have HS5 : Hid (Ps w s b0 B R d' _ j' _ ts c a) := hS5
          have HC5 : Hid (∀ j v, x.cells[j]? = some v → _) := cells_new u4 x
          have HL5 : Hid (ts.length ≤ 100000) := by show _ ≤ _; omega
          have HZ5 : Hid (w.heap.size + 1 ≤ _) := hS5.size
          clear hx hx5 hS5 hu3 hvb HS2 HS4
          unfold Nd.val
          go_wp2_with (at_builtin; go_must (refine wpList_append_nodeT rfl _ _ rfl (w.heap.size + 1) _ ts rfl HS5.out.nodes ⟨u4.heap.size, 0, none⟩ 1 x t rfl HX5.out HC5.out HL5.out HZ5.out ?_; intro g cap' w6 hn6 hg6; have HS6 : Hid (Ps w s b0 B R d' w6 j' _ (ts ++ [t]) c a) := (HS5.out.more hn6 hg6); clear hn6 hg6))
          go_roundw
          case rel => exact ⟨m, ts ++ [t], j', d', c, a, by omega, by simp, by simp; omega, HS6, Or.inr ⟨hc0, HBD⟩⟩
          case measure =>
            rw [HMS.out, HS6.out.rd.c3]
            simp [intOf, hc0]
            omega
        | ok t j' =>
          obtain ⟨hc1, hc2⟩ := top_ok_inv hc
          have hjj := (read_ge s m).2.2.1 _ _ _ _ hc1
          rw [hc] at h4
          obtain ⟨hj', x, rfl, hx, hr4, hf4⟩ := h4
          have HNP : Hid (d = 0 → sees s j' 41 = false) := hc2
          have HGO2 : Hid (pat s (k + 1) d i = patLoop s m d (ts ++ [t]) j') := by show _ = _; rw [HGO.out, hc1]
          have HS4 : Hid (Ps w s b0 B R d u4 j' _ ts 0 0) := HS2.out.read hf4 hr4
          clear hc hc1 hc2 hr4 hf4
          have hu3 := HS2.out.size
          have hvb : ∀ b, Value.ownBlock _ = some b → b < u2.heap.size := fun b hb => (HS2.out.nodes.blt b hb).2.1
          have hx5 := HS4.out.boxed hvb hu3 hx
          have hS5 := HS4.out.later ((Below.refl _ u4).alloc (Nat.le_refl _) (.cells #[.int .i64 x.k, .int .u64 (Oct.word x.s 0 : Nat), .int .u64 (Oct.word x.s 1 : Nat), .int .u64 (Oct.word x.s 2 : Nat), .int .u64 (Oct.word x.s 3 : Nat), .slice x.a x.n x.c, .int .i64 x.mn, .int .i64 x.mx] 28))
          have HX5 : Hid (NodeAt _ _ t x) := hx5
          have HS5 : Hid (Ps w s b0 B R d _ j' _ ts 0 0) := hS5
          have HC5 : Hid (∀ j v, x.cells[j]? = some v → _) := cells_new u4 x
          have HL5 : Hid (ts.length ≤ 100000) := by show _ ≤ _; omega
          have HZ5 : Hid (w.heap.size + 1 ≤ _) := hS5.size
          clear hx hx5 hS5 hu3 hvb HS2 HS4
          unfold Nd.val
          go_wp2_with (at_builtin; go_must (refine wpList_append_nodeT rfl _ _ rfl (w.heap.size + 1) _ ts rfl HS5.out.nodes ⟨u4.heap.size, 0, none⟩ 1 x t rfl HX5.out HC5.out HL5.out HZ5.out ?_; intro g cap' w6 hn6 hg6; have HS6 : Hid (Ps w s b0 B R d w6 j' _ (ts ++ [t]) 0 0) := (HS5.out.more hn6 hg6); clear hn6 hg6))
          go_roundw
          case rel => exact ⟨m, ts ++ [t], j', d, 0, 0, by omega, by simp, by simp; omega, HS6, Or.inl ⟨rfl, rfl, rfl, hj', by simp; omega, HNP, HGO2⟩⟩
          case measure =>
            rw [HMS.out, HS6.out.rd.c3, HS6.out.rd.c1]
            simp [intOf]
            omega
    · have q0 : ((e : Int) == 0) = false := by simp; omega
      obtain ⟨o, cc, c0, c1, c2, c3, c4⟩ := hpt.out.rd.cells
      have FIN : Hid (∀ (x : Nd) (w' : World), NewT w.heap.size w' (together 4 ts) x → RR w' b0 B s j d' e a → Fr b0 B w w' → RefT w.heap.size w b0 B s d (top s d (pat s (k + 1) d i)) (.returned x.val) w') := fin_bad hbd.out he
      rcases ts with _ | ⟨t1, _ | ⟨t2, r⟩⟩
      · exact absurd rfl hne
      · skip
        obtain ⟨g, cap, vs, hV, h1, hcap, hrow, hsub⟩ := hpt.out.nodes.row (by simp)
        subst hV
        obtain ⟨x, hx⟩ : ∃ x, vs[0]? = some x := by
          cases vs with
          | nil => simp at h1
          | cons x r => exact ⟨x, rfl⟩
        have HX1 : Hid (NewT (w.heap.size + 1) _ t1 x) := hsub 0 t1 x rfl hx
        obtain ⟨d0, d1, d2, d3, d4, d5, d6, d7⟩ := hrow.one hx
        simp only [List.length_cons, List.length_nil, Nat.zero_add] at hcap ⊢
        clear hsub hrow h1 hx
        obtain ⟨z0, z1, z2, z3, z4, z5, z6, z7⟩ := hpt.out.res.cells
        have y0 := hpt.out.res.frozen 0
        have y1 := hpt.out.res.frozen 1
        have y2 := hpt.out.res.frozen 2
        have y3 := hpt.out.res.frozen 3
        have y4 := hpt.out.res.frozen 4
        have y5 := hpt.out.res.frozen 5
        have y6 := hpt.out.res.frozen 6
        have y7 := hpt.out.res.frozen 7
        go_wp2
        exact post_node Try.f27 2 rfl rfl rfl (hpt.out.res.put8 _) (FIN.out _ _ ((HX1.out.put8 HRS.out _).less (Nat.le_succ _)) (hpt.out.rd.put8 hpt.out.res _) (hpt.out.fr.put8 HRL.out _))
      · skip
        obtain ⟨g, cap, vs, hV, h1, hcap, hrow, hsub⟩ := hpt.out.nodes.row (by simp)
        have HX1 : Hid (NewT (w.heap.size + 1) _ (.mk 4 Oct.none (t1 :: t2 :: r) 0 0) ⟨(4 : Nat), Oct.none, some ⟨g, 0, none⟩, (t1 :: t2 :: r).length, cap, 0, 0⟩) := .mk 4 Oct.none _ 0 0 _ _ cap vs rfl h1 hrow hsub
        obtain ⟨L, hL⟩ : ∃ L, L = (t1 :: t2 :: r).length := ⟨_, rfl⟩
        have hL2 : 2 ≤ L := by rw [hL]; simp
        have hl' : L ≤ 3000 := by rw [hL]; omega
        rw [← hL] at HX1 hV
        subst hV
        have q2 : ((L : Int) == 0) = false := by simp; omega
        have q1 : ((L : Int) == 1) = false := by simp; omega
        clear hsub hrow h1 hL hcap
        obtain ⟨z0, z1, z2, z3, z4, z5, z6, z7⟩ := hpt.out.res.cells
        have y0 := hpt.out.res.frozen 0
        have y1 := hpt.out.res.frozen 1
        have y2 := hpt.out.res.frozen 2
        have y3 := hpt.out.res.frozen 3
        have y4 := hpt.out.res.frozen 4
        have y5 := hpt.out.res.frozen 5
        have y6 := hpt.out.res.frozen 6
        have y7 := hpt.out.res.frozen 7
        go_wp2
        show bodyPost _ _ _ _ _ (put8z _ R 4 (some ⟨g, 0, none⟩) L cap 0 0)
        rw [put8z_eq]
        exact post_node Try.f27 2 rfl rfl rfl (hpt.out.res.put8 _) (FIN.out _ _ ((HX1.out.put8 HRS.out _).less (Nat.le_succ _)) (hpt.out.rd.put8 hpt.out.res _) (hpt.out.fr.put8 HRL.out _))
end Go.Proofs.Ytlcnmfgmgiijpaa
