/- The maker's methods: the state between two calls; rows of numbers of the call's own. -/
import Derived.Test.YtjmbimgofceanaaG20
import Derived.Laws.StructEq
namespace Go.Proofs.Ytjmbimgofceanaa
open Go.RowKit

theorem below_low {b c : Nat} {w w' : World} (h : Below b w w') (hc : c ≤ b) : Below c w w' := ⟨h.os, h.tape, h.output, h.size, fun k hk => h.block k (Nat.lt_of_lt_of_le hk hc)⟩
theorem below_two {b : Nat} {w u v : World} (h : Below b w u) (h2 : Below b u v) : Below b w v :=
  ⟨h2.os.trans h.os, h2.tape.trans h.tape, h2.output.trans h.output, Nat.le_trans h.size h2.size, fun k hk => (h2.block k hk).trans (h.block k hk)⟩
theorem InAt.later {w w' : World} {t : Tn} {x : Nd} (h : InAt w t x) (hb : Below w.heap.size w w') : InAt w' t x := by
  induction h with
  | mk k s subs mn mx a n c vs hn hl hm hr hs ih => exact .mk k s subs mn mx a n c vs hn hl hm (hr.keep (fun _ h _ => h) (fun b _ hlt => hb.block b hlt)) (fun i t v ht hv => ih i t v ht hv)
/-- A ROW OF NUMBERS OF THE CALL's OWN. -/
def RowI (w : World) (base : Nat) (V : Value) (l : List Nat) : Prop := w.ownsRow base 3 1 V l.length (l.map fun a => Value.int .i64 (a : Nat))
theorem info3 : (Try.prog.info? 3).map (fun i => (i.zero, i.size, i.bytes)) = some (some (.int .i64 0), 1, 8) := by kernel_rfl
theorem rowI_nil (w : World) (base : Nat) : RowI w base (.slice none 0 0) [] := World.ownsRow_nil w base 3 1
theorem RowI.ty {w : World} {base : Nat} {V : Value} {l : List Nat} (h : RowI w base V l) : ∀ b, V.ownBlock = some b → base ≤ b ∧ TyB w 3 b := by
  intro b hb
  rcases h.2 with ⟨rfl, _⟩ | ⟨g, cap, cur, rfl, hbg, hg, _⟩
  · simp [Value.ownBlock] at hb
  · simp [Value.ownBlock] at hb
    subst hb
    exact ⟨hbg, ⟨_, _, hg⟩⟩
theorem RowI.keep {w w' : World} {base : Nat} {V : Value} {l : List Nat} (h : RowI w base V l) (hk : ∀ b, base ≤ b → b < w.heap.size → TyB w 3 b → w'.heap[b]? = w.heap[b]?) : RowI w' base V l := by
  refine ⟨h.1, ?_⟩
  rcases h.2 with h6 | ⟨g, cap, cur, rfl, hBg, hg, rest⟩
  · exact Or.inl h6
  · exact Or.inr ⟨g, cap, cur, rfl, hBg, (hk g hBg (Array.getElem?_eq_some_iff.1 hg).1 ⟨_, _, hg⟩).trans hg, rest⟩
theorem RowI.form {w : World} {base : Nat} {V : Value} {l : List Nat} (h : RowI w base V l) : ∃ (a : Option Addr) (c : Nat), V = .slice a l.length c ∧ l.length ≤ c ∧ c ≤ maxLen := by
  rcases h.2 with ⟨hv, hn⟩ | ⟨g, cap, cur, hv, hbg, hg, h1, h2, h3, h4⟩
  · exact ⟨none, 0, by rw [hv, hn], by omega, by decide⟩
  · exact ⟨_, cap, hv, h1, h2⟩
theorem RowI.at {w : World} {base : Nat} {a : Option Addr} {n c : Nat} {l : List Nat} (h : RowI w base (.slice a n c) l) {j x : Nat} (hx : l[j]? = some x) : ∃ g, a = some ⟨g, 0, none⟩ ∧ w.cell? ⟨g, j, none⟩ = some (.int .i64 (x : Nat)) := by
  have hj := (List.getElem?_eq_some_iff.1 hx).1
  rcases h.2 with ⟨hv, hn⟩ | ⟨g, cap, cur, hv, hbg, hg, h1, h2, h3, h4⟩
  · omega
  · cases hv
    refine ⟨g, rfl, ?_⟩
    have e : (l.map fun a => Value.int .i64 (a : Nat))[j]? = some (.int .i64 (x : Nat)) := by rw [List.getElem?_map, hx]; rfl
    rw [← h4, List.getElem?_take_of_lt (by omega)] at e
    simp only [World.cell?, hg]
    simpa using e
theorem wpList_append_int {w : World} {ops : Array Oper} {rest : List Oper} {o : Oper} {a : Act} {Q : Exit → Act → World → Prop} (hgd : o.guard = none) (s y : Operand)
    (ho : o.op = .call { callee := .builtin .append, args := #[s, y], argTypes := #[96, 96] })
    (base : Nat) (V : Value) (l : List Nat) (hs : a.eval s = V) (hn : RowI w base V l) (ad : Addr) (cap : Nat) (x : Nat) (hy : a.eval y = .slice (some ad) 1 cap) (hc : w.cell? ad = some (.int .i64 (x : Nat))) (hl : l.length ≤ 2000000) (hb : base ≤ w.heap.size)
    (h : ∀ g cap' w', RowI w' base (.slice (some ⟨g, 0, none⟩) (l.length + 1) cap') (l ++ [x]) → w.grownBy w' V.ownBlock → wpList Try.prog ops Q rest (a.put o.dst (.slice (some ⟨g, 0, none⟩) (l.length + 1) cap')) w') : wpList Try.prog ops Q (o :: rest) a w := by
  refine wpList_plain hgd fun K hK => ?_
  obtain ⟨i0, hi, hz0, hz1, hz2⟩ := info_parts info3
  obtain ⟨g, cap', w', hr, ho2, hg, hgg, hlt⟩ := run_append_lies (P := Try.prog) w 96 o.type base 3 i0 _ 1 8 Try.underlying96 hi hz0 hz1 hz2 rfl (by decide) V l.length _ hn ad 1 cap [.int .i64 (x : Nat)] rfl
    (fun j v hj => by
      cases j with
      | zero => simp at hj; subst hj; simpa [Addr.add] using hc
      | succ j => simp at hj) (fun v hv => by simp at hv; subst hv; rfl) (by decide) (by simp only [maxLen]; omega) (by omega) hb w.heap.size rfl
  unfold Oper.wp execOp
  simp only [ho, resolve, invoke, builtin, Sem.run_bind, Sem.run_pure, Result.andThen_ok, List.map_toArray, List.map_cons, List.map_nil, hs, hy, hr]
  refine hK _ _ (h g cap' w' ?_ hg)
  unfold RowI
  rw [List.length_append, List.map_append]
  exact ho2
theorem frees_step {l : List Nat} {i x : Nat} (h : l[i]? = some x) (s : Nat) (m : Mk) : frees (l.drop i) s m = frees (l.drop (i + 1)) s (m.fr x s) := by
  have hlt := (List.getElem?_eq_some_iff.1 h).1
  rw [List.drop_eq_getElem_cons hlt, (List.getElem?_eq_some_iff.1 h).2, frees]
/-- THE STATE of a method of the maker that looks at a node. -/
structure Sm (w0 : World) (b0 B A : Nat) (x : Nd) (w u : World) (m : Mk) : Prop where
  mb : MB u b0 B m
  nb : NB u A x
  fm : Fm b0 B w u
  low : Below w0.heap.size w0 u
  sz : b0 ≤ u.heap.size
  h0 : w0.heap.size ≤ b0
section
variable {w0 : World} {b0 B A : Nat} {x : Nd} {w u u' : World} {m m' : Mk}
theorem Sm.later (h : Sm w0 b0 B A x w u m) (hb : Below u.heap.size u u') : Sm w0 b0 B A x w u' m :=
  ⟨h.mb.later hb, h.nb.later hb, h.fm.later hb, below_two h.low (below_low hb h.low.size), Nat.le_trans h.sz hb.size, h.h0⟩
theorem Sm.call (h : Sm w0 b0 B A x w u m) (hm : MB u' b0 B m') (hf : Fm b0 B u u') : Sm w0 b0 B A x w u' m' :=
  ⟨hm, hf.keep h.nb (h.mb.ne ⟨_, _, h.nb⟩ (by decide)) (by decide), h.fm.trans hf, below_two h.low (below_low (hf.below h.mb.1 h.sz) h.h0), Nat.le_trans h.sz hf.size, h.h0⟩
theorem Sm.own (h : Sm w0 b0 B A x w u m) {r : Option Nat} (hg : u.grownBy u' r) (hr : ∀ k, r = some k → w.heap.size ≤ k ∧ TyB u 3 k) (hw : b0 ≤ w.heap.size) : Sm w0 b0 B A x w u' m := by
  refine ⟨h.mb.grown hg (fun k hk h2 => ?_), (hg.block A h.nb.lt (fun e => absurd (TyB.ne (hr A e.symm).2 ⟨_, _, h.nb⟩) (by decide))).trans h.nb, ⟨hg.os.trans h.fm.os, hg.tape.trans h.fm.tape, hg.output.trans h.fm.output, Nat.le_trans h.fm.size hg.size, fun k hk hne ht => ?_⟩, ?_, Nat.le_trans h.sz hg.size, h.h0⟩
  · obtain ⟨_, h1⟩ := hr k hk
    rcases h2 with h2 | h2
    · exact absurd (TyB.ne h1 h2) (by decide)
    · exact absurd (TyB.ne h1 h2) (by decide)
  · exact (hg.block k (Nat.lt_of_lt_of_le hk h.fm.size) (fun e => by have := (hr k e.symm).1; omega)).trans (h.fm.block k hk hne ht)
  · exact ⟨hg.os.trans h.low.os, hg.tape.trans h.low.tape, hg.output.trans h.low.output, Nat.le_trans h.low.size hg.size, fun k hk => (hg.block k (Nat.lt_of_lt_of_le hk h.low.size) (fun e => by have := (hr k e.symm).1; have := h.h0; omega)).trans (h.low.block k hk)⟩
theorem RowI.fm {base : Nat} {V : Value} {l : List Nat} (h : RowI u base V l) (hm : MB u b0 B m) (hf : Fm b0 B u u') : RowI u' base V l :=
  h.keep (fun b _ hlt ht => hf.block b hlt (hm.ne ht (by decide)) (fun _ h2 => absurd (TyB.ne ht h2) (by decide)))
theorem sm_start (w0 : World) (x : Nd) (hm : MB w b0 B m) (hlow : Below w0.heap.size w0 w) (hb : b0 ≤ w.heap.size) (h0 : w0.heap.size ≤ b0) : Sm w0 b0 B w.heap.size x w (w.alloc (.cells #[.int .i64 x.k, .int .u64 (Oct.word x.s 0 : Nat), .int .u64 (Oct.word x.s 1 : Nat), .int .u64 (Oct.word x.s 2 : Nat), .int .u64 (Oct.word x.s 3 : Nat), .slice x.a x.n x.c, .int .i64 x.mn, .int .i64 x.mx] 30)) m := by
  have kk : Below w.heap.size w (w.alloc (.cells #[.int .i64 x.k, .int .u64 (Oct.word x.s 0 : Nat), .int .u64 (Oct.word x.s 1 : Nat), .int .u64 (Oct.word x.s 2 : Nat), .int .u64 (Oct.word x.s 3 : Nat), .slice x.a x.n x.c, .int .i64 x.mn, .int .i64 x.mx] 30)) := (Below.refl _ _).alloc (Nat.le_refl _) _
  exact ⟨hm.later kk, nb_new w x, Fm.of_below b0 B kk, below_two hlow (below_low kk hlow.size), Nat.le_trans hb kk.size, h0⟩
end
/-- WHAT lay SAYS OF A NODE IN MEMORY. -/
def LayOK (w0 : World) (t : Tn) (v : Nd) : Prop := ∀ (w : World) (b0 B : Nat) (m : Mk) (a : Nat), Below w0.heap.size w0 w → w0.heap.size ≤ b0 → b0 ≤ w.heap.size → MB w b0 B m → (lay t m a).1.S ≤ 1000000 → (lay t m a).1.es.length ≤ 1000000 →
  Calls Try.prog 39 #[.pointer (some ⟨B, 0, none⟩), v.val, .int .i64 (a : Nat)] w fun e w' => e = .returned (.int .i64 ((lay t m a).2 : Nat)) ∧ MB w' b0 B (lay t m a).1 ∧ Fm b0 B w w'
end Go.Proofs.Ytjmbimgofceanaa

/- A machine in memory; what Build answers. -/
namespace Go.Proofs.Ytjmbimgofceanaa
open Go.RowKit

structure Ma where
  S : Int
  es : List Eg
  rs : List Nat
def zeroMa : Ma := ⟨0, [], []⟩
/-- edges one behind the other, from an address on -/
def EAt (X : Nat → Prop) (w : World) (a : Option Addr) (es : List Eg) : Prop := es = [] ∨ ∃ b off, a = some ⟨b, off, none⟩ ∧ X b ∧ ∀ j v, (flatE es)[j]? = some v → w.cell? ⟨b, off + j, none⟩ = some v
def UAt (X : Nat → Prop) (w : World) (a : Option Addr) (rs : List Nat) : Prop := rs = [] ∨ ∃ b off, a = some ⟨b, off, none⟩ ∧ X b ∧ ∀ j x, rs[j]? = some x → w.cell? ⟨b, off + j, none⟩ = some (.int .u32 (x : Nat))
structure Nf where
  S : Int
  ea : Option Addr
  en : Nat
  ec : Nat
  ra : Option Addr
  rn : Nat
  rc : Nat
def Nf.val (x : Nf) : Value := .agg #[.int .i64 x.S, .slice x.ea x.en x.ec, .slice x.ra x.rn x.rc]
def Nf.cells (x : Nf) : List Value := [.int .i64 x.S, .slice x.ea x.en x.ec, .slice x.ra x.rn x.rc]
/-- A MACHINE IN MEMORY, whose lists lie in blocks of a kind. -/
structure MaAt (X : Nat → Prop) (w : World) (M : Ma) (x : Nf) : Prop where
  s : x.S = M.S
  n : x.en = M.es.length
  r : x.rn = M.rs.length
  e : EAt X w x.ea M.es
  u : UAt X w x.ra M.rs
theorem lt_of_cell {w : World} {b j : Nat} {v : Value} (h : w.cell? ⟨b, j, none⟩ = some v) : b < w.heap.size := by
  cases hg : w.heap[b]? with
  | none => simp [World.cell?, hg] at h
  | some o => exact (Array.getElem?_eq_some_iff.1 hg).1
theorem EAt.keep {X Y : Nat → Prop} {w w' : World} {a : Option Addr} {es : List Eg} (h : EAt X w a es) (hXY : ∀ b, X b → b < w.heap.size → Y b) (hk : ∀ b, X b → b < w.heap.size → w'.heap[b]? = w.heap[b]?) : EAt Y w' a es := by
  rcases h with h | ⟨b, off, rfl, hX, hc⟩
  · exact Or.inl h
  · cases es with
    | nil => exact Or.inl rfl
    | cons e es =>
      have hlt : b < w.heap.size := lt_of_cell (hc 0 _ rfl)
      exact Or.inr ⟨b, off, rfl, hXY b hX hlt, fun j v hj => (World.cell?_of_block (a := ⟨b, off + j, none⟩) (hk b hX hlt)).trans (hc j v hj)⟩
theorem UAt.keep {X Y : Nat → Prop} {w w' : World} {a : Option Addr} {rs : List Nat} (h : UAt X w a rs) (hXY : ∀ b, X b → b < w.heap.size → Y b) (hk : ∀ b, X b → b < w.heap.size → w'.heap[b]? = w.heap[b]?) : UAt Y w' a rs := by
  rcases h with h | ⟨b, off, rfl, hX, hc⟩
  · exact Or.inl h
  · cases rs with
    | nil => exact Or.inl rfl
    | cons e es =>
      have hlt : b < w.heap.size := lt_of_cell (hc 0 _ rfl)
      exact Or.inr ⟨b, off, rfl, hXY b hX hlt, fun j v hj => (World.cell?_of_block (a := ⟨b, off + j, none⟩) (hk b hX hlt)).trans (hc j v hj)⟩
theorem MaAt.keep {X Y : Nat → Prop} {w w' : World} {M : Ma} {x : Nf} (h : MaAt X w M x) (hXY : ∀ b, X b → b < w.heap.size → Y b) (hk : ∀ b, X b → b < w.heap.size → w'.heap[b]? = w.heap[b]?) : MaAt Y w' M x :=
  ⟨h.s, h.n, h.r, h.e.keep hXY hk, h.u.keep hXY hk⟩
theorem MaAt.later {X : Nat → Prop} {w w' : World} {M : Ma} {x : Nf} (h : MaAt X w M x) (hb : Below w.heap.size w w') : MaAt X w' M x := h.keep (fun _ h _ => h) (fun b _ hlt => hb.block b hlt)
theorem zero_maAt (X : Nat → Prop) (w : World) : MaAt X w zeroMa ⟨0, none, 0, 0, none, 0, 0⟩ := ⟨rfl, rfl, rfl, Or.inl rfl, Or.inl rfl⟩
theorem RowE.at {w : World} {base : Nat} {a : Option Addr} {n c : Nat} {es : List Eg} (h : RowE w base (.slice a n c) es) : n = es.length ∧ EAt (fun b => base ≤ b) w a es := by
  rcases h.2 with ⟨hv, hn⟩ | ⟨g, cap, cur, hv, hbg, hg, h1, h2, h3, h4⟩
  · cases hv
    exact ⟨hn.symm, Or.inl (List.length_eq_zero_iff.1 hn)⟩
  · cases hv
    refine ⟨rfl, Or.inr ⟨g, 0, rfl, hbg, fun j v hj => ?_⟩⟩
    have hlt := (List.getElem?_eq_some_iff.1 hj).1
    rw [flatE_length] at hlt
    rw [← h4, List.getElem?_take_of_lt (by omega)] at hj
    simp only [World.cell?, hg, Nat.zero_add]
    simpa using hj
theorem RowE.at2 {w : World} {base : Nat} {a : Option Addr} {n c : Nat} {es : List Eg} (h : RowE w base (.slice a n c) es) : EAt (fun b => base ≤ b ∧ TyB w 57 b) w a es := by
  rcases h.at.2 with h1 | ⟨b, off, ha, hb, hc⟩
  · exact Or.inl h1
  · subst ha
    by_cases he : es = []
    · exact Or.inl he
    · refine Or.inr ⟨b, off, rfl, ⟨hb, ?_⟩, hc⟩
      rcases h.2 with ⟨hv, _⟩ | ⟨g, cap, cur, hv, _, hg, _⟩
      · cases hv
      · cases hv
        exact ⟨_, _, hg⟩
theorem RowE.later {w w' : World} {base : Nat} {V : Value} {es : List Eg} (h : RowE w base V es) (hb : Below w.heap.size w w') : RowE w' base V es := h.keep (fun b _ hlt _ => hb.block b hlt)
theorem RowE.set {w : World} {base : Nat} {V : Value} {es : List Eg} (h : RowE w base V es) {A : Nat} {t : TypeId} (hA : TyB w t A) (ht : t ≠ 57) (j : Nat) (v : Value) : RowE (w.setCell ⟨A, j, none⟩ v) base V es :=
  h.keep (fun b _ _ hb => Below.heap_setCell w ⟨A, j, none⟩ v b (fun e => by have e : b = A := e; subst e; exact ht (TyB.ne hA hb)))
/-- what Build answers -/
def mach (t : Tn) (rule : Nat) : Ma := ⟨(lay t ⟨1, []⟩ 0).1.S, (lay t ⟨1, []⟩ 0).1.es, (List.replicate (lay t ⟨1, []⟩ 0).1.S 0).set (lay t ⟨1, []⟩ 0).2 (2 ^ rule)⟩
def buildOf (t : Tn) (rule : Int) : Ma × Nat := if (plc t).2 = false then (zeroMa, 50) else if 2048 < placesOf t then (zeroMa, 48) else if rule < 0 ∨ 31 < rule then (zeroMa, 1) else (mach t rule.toNat, 0)
theorem frees_S (l : List Nat) (s : Nat) (m : Mk) : (frees l s m).S = m.S := (frees_size l s m).1
theorem joint_lt (r : Mk × List Nat) : (joint r).2 < (joint r).1.S := by
  unfold joint
  simp only [frees_S]
  exact Nat.lt_succ_self _
theorem rounds_lt {F : Mk → Nat → Mk × Nat} (h : ∀ (m : Mk) (a : Nat), a < m.S → (F m a).2 < (F m a).1.S) : ∀ (n : Nat) (x : Mk × Nat), x.2 < x.1.S → (rounds F n x).2 < (rounds F n x).1.S
  | 0, _, hx => hx
  | n + 1, x, hx => rounds_lt h n _ (h x.1 x.2 hx)
theorem times_lt {F : Mk → Nat → Mk × Nat} (h : ∀ (m : Mk) (a : Nat), a < m.S → (F m a).2 < (F m a).1.S) (p : Nat) (mn mx : Int) (m : Mk) (a : Nat) (ha : a < m.S) : (timesOf F p mn mx m a).2 < (timesOf F p mn mx m a).1.S := by
  unfold timesOf
  split
  · exact ha
  split
  · unfold again
    exact Nat.lt_succ_self _
  split
  · exact rounds_lt h _ (m, a) ha
  · exact joint_lt _
mutual
theorem lay_lt : ∀ (t : Tn) (m : Mk) (a : Nat), a < m.S → (lay t m a).2 < (lay t m a).1.S
  | .mk k s subs mn mx, m, a, ha => by
    rw [lay]
    split
    · exact Nat.lt_succ_self _
    split
    · exact seqs_lt subs m a ha
    split
    · exact joint_lt _
    split
    · exact times_lt (fun m a ha => heads_lt subs m a ha) _ _ _ _ _ ha
    · exact ha
theorem seqs_lt : ∀ (ts : List Tn) (m : Mk) (a : Nat), a < m.S → (seqs ts m a).2 < (seqs ts m a).1.S
  | [], m, a, ha => by rw [seqs]; exact ha
  | t :: ts, m, a, ha => by rw [seqs]; exact seqs_lt ts _ _ (lay_lt t m a ha)
theorem heads_lt : ∀ (ts : List Tn) (m : Mk) (a : Nat), a < m.S → (heads ts m a).2 < (heads ts m a).1.S
  | [], m, a, ha => by rw [heads]; exact ha
  | t :: _, m, a, ha => by rw [heads]; exact lay_lt t m a ha
end
/-- a tree of at most MaxPlaces places is laid in bounds -/
theorem lay_bounds {t : Tn} (h : (plc t).2 = true) (hp : ¬ 2048 < placesOf t) : (lay t ⟨1, []⟩ 0).1.S ≤ 2048 ∧ (lay t ⟨1, []⟩ 0).1.es.length ≤ 4096 := by
  obtain ⟨h1, h2⟩ := lay_size t h ⟨1, []⟩ 0
  have h3 := plc_raw t h
  unfold placesOf at hp
  rw [if_pos h, h3] at hp
  simp only [List.length_nil] at h1 h2
  omega
end Go.Proofs.Ytjmbimgofceanaa

/- Rows of words of the call's own. -/
namespace Go.Proofs.Ytjmbimgofceanaa
open Go.RowKit

def wds (rs : List Nat) : List Value := rs.map fun x => Value.int .u32 (x : Nat)
theorem wds_length (rs : List Nat) : (wds rs).length = rs.length := List.length_map _
def RowU (w : World) (base : Nat) (V : Value) (rs : List Nat) : Prop := w.ownsRow base 44 1 V rs.length (wds rs)
theorem infoU : (Try.prog.info? 44).map (fun i => (i.zero, i.size, i.bytes)) = some (some (.int .u32 0), 1, 4) := by kernel_rfl
theorem rowU_nil (w : World) (base : Nat) : RowU w base (.slice none 0 0) [] := World.ownsRow_nil w base 44 1
section
variable {w w' : World} {base : Nat} {V : Value} {rs : List Nat}
theorem RowU.ty (h : RowU w base V rs) : ∀ b, V.ownBlock = some b → base ≤ b ∧ TyB w 44 b := by
  intro b hb
  rcases h.2 with ⟨rfl, _⟩ | ⟨g, cap, cur, rfl, hbg, hg, _⟩
  · simp [Value.ownBlock] at hb
  · simp [Value.ownBlock] at hb
    subst hb
    exact ⟨hbg, ⟨_, _, hg⟩⟩
theorem RowU.keep (h : RowU w base V rs) (hk : ∀ b, base ≤ b → b < w.heap.size → TyB w 44 b → w'.heap[b]? = w.heap[b]?) : RowU w' base V rs := by
  refine ⟨h.1, ?_⟩
  rcases h.2 with h6 | ⟨g, cap, cur, rfl, hBg, hg, rest⟩
  · exact Or.inl h6
  · exact Or.inr ⟨g, cap, cur, rfl, hBg, (hk g hBg (Array.getElem?_eq_some_iff.1 hg).1 ⟨_, _, hg⟩).trans hg, rest⟩
theorem RowU.later (h : RowU w base V rs) (hb : Below w.heap.size w w') : RowU w' base V rs := h.keep (fun b _ hlt _ => hb.block b hlt)
theorem RowU.set (h : RowU w base V rs) {A : Nat} {t : TypeId} (hA : TyB w t A) (ht : t ≠ 44) (j : Nat) (v : Value) : RowU (w.setCell ⟨A, j, none⟩ v) base V rs :=
  h.keep (fun b _ _ hb => Below.heap_setCell w ⟨A, j, none⟩ v b (fun e => by have e : b = A := e; subst e; exact ht (TyB.ne hA hb)))
theorem RowU.form (h : RowU w base V rs) : ∃ a c, V = .slice a rs.length c ∧ rs.length ≤ c ∧ c ≤ maxLen := by
  rcases h.2 with ⟨hv, hn⟩ | ⟨g, cap, cur, hv, hbg, hg, h1, h2, h3, h4⟩
  · exact ⟨none, 0, by rw [hv, hn], by omega, by decide⟩
  · exact ⟨_, _, hv, h1, h2⟩
end
theorem RowU.at {w : World} {base : Nat} {a : Option Addr} {n c : Nat} {rs : List Nat} (h : RowU w base (.slice a n c) rs) : n = rs.length ∧ UAt (fun b => base ≤ b) w a rs := by
  rcases h.2 with ⟨hv, hn⟩ | ⟨g, cap, cur, hv, hbg, hg, h1, h2, h3, h4⟩
  · cases hv
    exact ⟨hn.symm, Or.inl (List.length_eq_zero_iff.1 hn)⟩
  · cases hv
    refine ⟨rfl, Or.inr ⟨g, 0, rfl, hbg, fun j x hj => ?_⟩⟩
    have hlt := (List.getElem?_eq_some_iff.1 hj).1
    have e : (wds rs)[j]? = some (.int .u32 (x : Nat)) := by unfold wds; rw [List.getElem?_map, hj]; rfl
    rw [← h4, List.getElem?_take_of_lt (by omega)] at e
    simp only [World.cell?, hg, Nat.zero_add]
    simpa using e
theorem RowU.at2 {w : World} {base : Nat} {a : Option Addr} {n c : Nat} {rs : List Nat} (h : RowU w base (.slice a n c) rs) : UAt (fun b => base ≤ b ∧ TyB w 44 b) w a rs := by
  rcases h.at.2 with h1 | ⟨b, off, ha, hb, hc⟩
  · exact Or.inl h1
  · subst ha
    by_cases he : rs = []
    · exact Or.inl he
    · refine Or.inr ⟨b, off, rfl, ⟨hb, ?_⟩, hc⟩
      rcases h.2 with ⟨hv, _⟩ | ⟨g, cap, cur, hv, _, hg, _⟩
      · cases hv
      · cases hv
        exact ⟨_, _, hg⟩
theorem RowU.cell {w : World} {base g n c : Nat} {rs : List Nat} (h : RowU w base (.slice (some ⟨g, 0, none⟩) n c) rs) {i x : Nat} (hx : rs[i]? = some x) : w.cell? ⟨g, i, none⟩ = some (.int .u32 (x : Nat)) ∧ w.frozen? ⟨g, i, none⟩ = false := by
  refine ⟨?_, ?_⟩
  · rcases h.at.2 with h1 | ⟨b, off, hb, _, hc⟩
    · rw [h1] at hx; cases hx
    · rcases h.2 with ⟨hv, _⟩ | ⟨g', cap, cur, hv, hbg, hg, h1, h2, h3, h4⟩
      · cases hv
      · cases hv
        cases hb
        have := hc i x hx
        simpa using this
  · rcases h.2 with ⟨hv, _⟩ | ⟨g', cap, cur, hv, hbg, hg, _⟩
    · cases hv
    · cases hv
      simp [World.frozen?, hg]
theorem RowU.put {w : World} {base g n c : Nat} {rs : List Nat} (h : RowU w base (.slice (some ⟨g, 0, none⟩) n c) rs) (i x : Nat) : RowU (w.setCell ⟨g, i, none⟩ (.int .u32 (x : Nat))) base (.slice (some ⟨g, 0, none⟩) n c) (rs.set i x) := by
  refine ⟨by simp [wds], ?_⟩
  rcases h.2 with ⟨hv, _⟩ | ⟨g', cap, cur, hv, hbg, hg, h1, h2, h3, h4⟩
  · cases hv
  · cases hv
    refine Or.inr ⟨g, c, _, by simp, hbg, heap_set hg i _, by simpa using h1, h2, by simpa using h3, ?_⟩
    rw [Array.toList_setIfInBounds, List.take_set]
    have e : wds (rs.set i x) = (wds rs).set i (.int .u32 (x : Nat)) := by unfold wds; rw [List.map_set]
    rw [e, List.length_set, h4]
theorem madeCells_u32 (n : Nat) : (madeCells (Value.int .u32 0).cells (n * 1)).toList = wds (List.replicate n 0) := by
  apply List.ext_getElem?
  intro k
  simp [madeCells, wds, Value.cells]
  by_cases hk : k < n
  · simp [hk, Nat.mod_one]
  · simp [hk]
theorem wpList_make_u32 {w : World} {ops : Array Oper} {rest : List Oper} {o : Oper} {a : Act} {Q : Exit → Act → World → Prop} (hgd : o.guard = none) (l c : Operand)
    (ho : o.op = Op.makeSlice 36 l c) (base n : Nat) (hb : base ≤ w.heap.size) (hl : a.eval l = .int .i64 (n : Nat)) (hc : a.eval c = .int .i64 (n : Nat)) (hn : n ≤ 1000000)
    (h : ∀ w', RowU w' base (.slice (some ⟨w.heap.size, 0, none⟩) n n) (List.replicate n 0) → Below w.heap.size w w' → wpList Try.prog ops Q rest (a.put o.dst (.slice (some ⟨w.heap.size, 0, none⟩) n n)) w') : wpList Try.prog ops Q (o :: rest) a w := by
  obtain ⟨i0, hi, hz0, hz1, hz2⟩ := info_parts infoU
  refine wpList_make_full (P := Try.prog) w hgd l c 36 ho base 44 i0 (.int .u32 0) 1 Try.underlying36 hi hz0 hz1 .i64 .i64 (n : Nat) (n : Nat) n hl hc rfl rfl (by rw [hz2]; omega) (by simp only [maxLen]; omega) hb ?_
  intro w' h1 h2
  rw [madeCells_u32] at h1
  exact h w' (by unfold RowU; rw [List.length_replicate]; exact h1) ((Below.refl _ _).grown h2 (Nat.le_refl _) (fun k hk => by cases hk))
/-- a machine's block -/
def NFB (w : World) (R : Nat) (x : Nf) : Prop := w.heap[R]? = some (.cells #[.int .i64 x.S, .slice x.ea x.en x.ec, .slice x.ra x.rn x.rc] 38 (0, 0))
section
variable {w w' : World} {R : Nat} {x : Nf}
theorem NFB.lt (h : NFB w R x) : R < w.heap.size := (Array.getElem?_eq_some_iff.1 h).1
theorem NFB.later (h : NFB w R x) (hb : Below w.heap.size w w') : NFB w' R x := (hb.block R h.lt).trans h
theorem NFB.ty (h : NFB w R x) : TyB w 38 R := ⟨_, _, h⟩
theorem NFB.cells (h : NFB w R x) : w.cell? ⟨R, 0, none⟩ = some (.int .i64 x.S) ∧ w.cell? ⟨R, 1, none⟩ = some (.slice x.ea x.en x.ec) ∧ w.cell? ⟨R, 2, none⟩ = some (.slice x.ra x.rn x.rc) := by
  unfold NFB at h
  refine ⟨?_, ?_, ?_⟩ <;> simp [World.cell?, h]
theorem NFB.frozen (h : NFB w R x) (j : Nat) : w.frozen? ⟨R, j, none⟩ = false := by
  unfold NFB at h
  simp [World.frozen?, h]
end
theorem nfb_new (w : World) (x : Nf) : NFB (w.alloc (.cells #[.int .i64 x.S, .slice x.ea x.en x.ec, .slice x.ra x.rn x.rc] 38)) w.heap.size x := heap_alloc_new w _
def put3 (w : World) (R : Nat) (x : Nf) : World := ((w.setCell ⟨R, 0, none⟩ (.int .i64 x.S)).setCell ⟨R, 1, none⟩ (.slice x.ea x.en x.ec)).setCell ⟨R, 2, none⟩ (.slice x.ra x.rn x.rc)
theorem NFB.put3 {w : World} {R : Nat} {y : Nf} (h : NFB w R y) (x : Nf) : NFB (put3 w R x) R x := by
  have e := heap_set (heap_set (heap_set h 0 (.int .i64 x.S)) 1 (.slice x.ea x.en x.ec)) 2 (.slice x.ra x.rn x.rc)
  exact e
theorem heap_put3 (w : World) (R : Nat) (x : Nf) (k : Nat) (h : k ≠ R) : (put3 w R x).heap[k]? = w.heap[k]? := by
  unfold put3
  rw [Below.heap_setCell _ ⟨R, 2, none⟩ _ k h, Below.heap_setCell _ ⟨R, 1, none⟩ _ k h, Below.heap_setCell _ ⟨R, 0, none⟩ _ k h]
theorem below_put3 {w u : World} {b : Nat} (h : Below b w u) {R : Nat} (hR : b ≤ R) (x : Nf) : Below b w (put3 u R x) := ((h.setCell (p := ⟨R, 0, none⟩) hR _).setCell (p := ⟨R, 1, none⟩) hR _).setCell (p := ⟨R, 2, none⟩) hR _
end Go.Proofs.Ytjmbimgofceanaa

/- Machines that are read: an edge, a word at its place; two edges held against each other. -/
namespace Go.Proofs.Ytjmbimgofceanaa
open Go.RowKit

theorem EAt.nth {X : Nat → Prop} {w : World} {a : Option Addr} {es : List Eg} (h : EAt X w a es) {i : Nat} {e : Eg} (hx : es[i]? = some e) : ∃ b off, a = some ⟨b, off, none⟩ ∧ w.cell? ⟨b, off + i * 7, none⟩ = some (.int .i64 e.k) ∧ w.cell? ⟨b, off + i * 7 + 1, none⟩ = some (.int .i64 e.f) ∧ w.cell? ⟨b, off + i * 7 + 2, none⟩ = some (.int .i64 e.t) ∧ w.cell? ⟨b, off + i * 7 + 3, none⟩ = some (.int .u64 (Oct.word e.s 0 : Nat)) ∧ w.cell? ⟨b, off + i * 7 + 4, none⟩ = some (.int .u64 (Oct.word e.s 1 : Nat)) ∧ w.cell? ⟨b, off + i * 7 + 5, none⟩ = some (.int .u64 (Oct.word e.s 2 : Nat)) ∧ w.cell? ⟨b, off + i * 7 + 6, none⟩ = some (.int .u64 (Oct.word e.s 3 : Nat)) := by
  rcases h with h | ⟨b, off, ha, _, hc⟩
  · subst h; simp at hx
  · rw [Nat.mul_comm i 7]
    refine ⟨b, off, ha, ?_, ?_, ?_, ?_, ?_, ?_, ?_⟩
    · exact hc _ _ (flatE_at hx (m := 0) (by decide))
    · rw [Nat.add_assoc]; exact hc _ _ (flatE_at hx (m := 1) (by decide))
    · rw [Nat.add_assoc]; exact hc _ _ (flatE_at hx (m := 2) (by decide))
    · rw [Nat.add_assoc]; exact hc _ _ (flatE_at hx (m := 3) (by decide))
    · rw [Nat.add_assoc]; exact hc _ _ (flatE_at hx (m := 4) (by decide))
    · rw [Nat.add_assoc]; exact hc _ _ (flatE_at hx (m := 5) (by decide))
    · rw [Nat.add_assoc]; exact hc _ _ (flatE_at hx (m := 6) (by decide))
theorem UAt.nth {X : Nat → Prop} {w : World} {a : Option Addr} {rs : List Nat} (h : UAt X w a rs) {i x : Nat} (hx : rs[i]? = some x) : ∃ b off, a = some ⟨b, off, none⟩ ∧ w.cell? ⟨b, off + i, none⟩ = some (.int .u32 (x : Nat)) := by
  rcases h with h | ⟨b, off, ha, _, hc⟩
  · subst h; simp at hx
  · exact ⟨b, off, ha, hc i x hx⟩
theorem eq4_any (d : Nat) (a b c e : Int) (w : World) : (Op.equalIn (d + 2) 27 (.agg #[.int .u64 a, .int .u64 b, .int .u64 c, .int .u64 e]) (.agg #[.int .u64 a, .int .u64 b, .int .u64 c, .int .u64 e])).run Try.prog w = .ok true w := by
  obtain ⟨i0, hi, hz0, hz1, hz2⟩ := info_parts info25
  have h1 : ∀ x : Int, (Op.equalIn (d + 1) 25 (.int .u64 x) (.int .u64 x)).run Try.prog w = .ok true w := fun x => by
    rw [run_equalIn_int w d 25 .u64 .u64 x x Try.underlying25]; simp
  rw [Op.equalIn]
  simp [run_underlying Try.underlying27, sizeOf, typeInfo, hi, hz1, part, Try.isAgg25, Std.Legacy.Range.forIn_eq_forIn_range', Std.Legacy.Range.size, List.range'_succ, List.range'_zero, h1]
theorem infoSet : (Try.prog.info? 27).map (fun i => (i.zero, i.size, i.bytes)) = some (some (.agg #[.int .u64 0, .int .u64 0, .int .u64 0, .int .u64 0]), 4, 32) := by kernel_rfl
set_option maxRecDepth 4000 in
theorem eq7_same (k f t a b c e : Int) (w : World) : (Op.equalIn 10000 57 (.agg #[.int .i64 k, .int .i64 f, .int .i64 t, .int .u64 a, .int .u64 b, .int .u64 c, .int .u64 e]) (.agg #[.int .i64 k, .int .i64 f, .int .i64 t, .int .u64 a, .int .u64 b, .int .u64 c, .int .u64 e])).run Try.prog w = .ok true w := by
  have h1 : ∀ x : Int, (Op.equalIn 9999 3 (.int .i64 x) (.int .i64 x)).run Try.prog w = .ok true w := fun x => by
    rw [run_equalIn_int w 9998 3 .i64 .i64 x x Try.underlying3]; simp
  have h4 := eq4_any 9997 a b c e w
  rw [show (10000 : Nat) = 9999 + 1 from rfl, run_equalIn_struct w 9999 57 _ _ (by kernel_rfl) (by kernel_rfl)]
  have hf : (Try.prog.fieldsOf 57).toList.map (fun f => (f.name, f.type, f.offset)) = [("Kind", 3, 0), ("From", 3, 1), ("To", 3, 2), ("Set", 27, 3)] := by kernel_rfl
  generalize (Try.prog.fieldsOf 57).toList = fs at hf
  obtain ⟨i0, hi, hz0, hz1, hz2⟩ := info_parts infoSet
  rcases fs with _ | ⟨f1, _ | ⟨f2, _ | ⟨f3, _ | ⟨f4, _ | ⟨f5, fs⟩⟩⟩⟩⟩ <;> simp only [List.map_cons, List.map_nil, List.cons.injEq, Prod.mk.injEq, and_true, reduceCtorEq, and_false] at hf
  obtain ⟨⟨n1, t1, o1⟩, ⟨n2, t2, o2⟩, ⟨n3, t3, o3⟩, ⟨n4, t4, o4⟩⟩ := hf
  simp only [Op.eqFields, n1, n2, n3, n4, t1, t2, t3, t4, o1, o2, o3, o4]
  simp [part, Try.isAgg3, Try.isAgg27, sizeOf, typeInfo, hi, hz1, h1, h4]
end Go.Proofs.Ytjmbimgofceanaa

/- heronref07's Right. -/
namespace Go.Proofs.Ytjmbimgofceanaa
open Go.RowKit
attribute [local go_sem ↓] Go.wp_at_zero Go.wp_at_succ

/-- an edge that fits -/
def okE (S : Int) (e : Eg) : Bool := !(decide (e.k < 1) || decide (4 < e.k) || decide (e.f < 0) || decide (S ≤ e.f) || decide (e.t < 0) || decide (S ≤ e.t) || (!decide (e.k = 2) && !noSet e.s))
/-- a machine that fits -/
def rightOf (M : Ma) : Bool := decide (1 ≤ M.S) && decide ((M.rs.length : Int) = M.S) && M.es.all (okE M.S)
theorem right_no {M : Ma} {j : Nat} {e : Eg} (h : M.es[j]? = some e) (ho : okE M.S e = false) : rightOf M = false := by
  unfold rightOf
  rw [Bool.and_eq_false_iff]
  refine Or.inr ?_
  rw [List.all_eq_false]
  exact ⟨e, List.mem_of_getElem? h, by simp [ho]⟩
set_option maxRecDepth 4000 in
set_option maxHeartbeats 16000000 in
theorem right_any {X : Nat → Prop} {M : Ma} {x : Nf} (w : World) (hx : MaAt X w M x) (he : M.es.length ≤ 100000000) : Calls Try.prog 23 #[x.val] w fun e w' => e = .returned (.bool (rightOf M)) ∧ Below w.heap.size w w' := by
  have kk : Below w.heap.size w (w.alloc (.cells #[.int .i64 x.S, .slice x.ea x.en x.ec, .slice x.ra x.rn x.rc] 38)) := (Below.refl _ _).alloc (Nat.le_refl _) _
  have HNX : Hid (NFB (w.alloc (.cells #[.int .i64 x.S, .slice x.ea x.en x.ec, .slice x.ra x.rn x.rc] 38)) w.heap.size x) := nfb_new w x
  have HB : Hid (Below w.heap.size w (w.alloc (.cells #[.int .i64 x.S, .slice x.ea x.en x.ec, .slice x.ra x.rn x.rc] 38))) := kk
  obtain ⟨w2, hw2⟩ : ∃ w2, w.alloc (.cells #[.int .i64 x.S, .slice x.ea x.en x.ec, .slice x.ra x.rn x.rc] 38) = w2 := ⟨_, rfl⟩
  rw [hw2] at HNX HB
  obtain ⟨A, hA⟩ : ∃ A, w.heap.size = A := ⟨_, rfl⟩
  rw [hA] at HNX
  have HW2 : Hid (w.alloc (.cells #[.int .i64 x.S, .slice x.ea x.en x.ec, .slice x.ra x.rn x.rc] 38) = w2) := hw2
  have HAA : Hid (w.heap.size = A) := hA
  have HX : Hid (MaAt X w M x) := hx
  clear hw2 hA kk hx
  obtain ⟨xS, xa, xn, xc, xra, xrn, xrc⟩ := x
  have e1 : xS = M.S := HX.out.s
  have e3 : xn = M.es.length := HX.out.n
  have e5 : xrn = M.rs.length := HX.out.r
  subst e1 e3 e5
  obtain ⟨n, hn⟩ : ∃ n, M.es.length = n := ⟨_, rfl⟩
  obtain ⟨rn, hrn⟩ : ∃ rn, M.rs.length = rn := ⟨_, rfl⟩
  have HE : Hid (EAt X w xa M.es) := HX.out.e
  have HN : Hid (M.es.length = n ∧ M.rs.length = rn) := ⟨hn, hrn⟩
  rw [hn] at HNX HW2 he
  rw [hrn] at HNX HW2
  unfold Nf.val
  simp only at HW2 ⊢
  rw [hn, hrn]
  obtain ⟨S, hS⟩ : ∃ S, M.S = S := ⟨_, rfl⟩
  rw [hS] at HNX HW2 ⊢
  have HS : Hid (M.S = S) := hS
  have HRO : Hid (rightOf M = (decide (1 ≤ S) && decide ((rn : Int) = S) && M.es.all (okE S))) := by show _ = _; unfold rightOf; rw [hS, hrn]
  clear hn hrn HX hS
  go_enter Try.func23, Try.ntmps23
  go_upto_region 1 with fail
  rw [HW2.out, HAA.out]
  clear HW2
  obtain ⟨x0, x1, x2⟩ := HNX.out.cells
  simp only at x0 x1 x2
  by_cases hS1 : S < 1
  · have HNo : Hid (rightOf M = false) := by show _ = _; rw [HRO.out, show decide (1 ≤ S) = false by simp; omega]; rfl
    go_wp2
    go_ret
    exact ⟨by rw [HNo.out]; rfl, HB.out⟩
  by_cases hS2 : (rn : Int) = S
  case neg =>
    have hS3 : ((rn : Int) != S) = true := by simp [hS2]
    have hS4 : ((rn : Int) == S) = false := by simp [hS2]
    have HNo : Hid (rightOf M = false) := by show _ = _; rw [HRO.out, show decide ((rn : Int) = S) = false by simp [hS2]]; simp
    go_wp2
    go_ret
    exact ⟨by rw [HNo.out]; rfl, HB.out⟩
  case pos =>
  have hS3 : ((rn : Int) != S) = false := by simp [hS2]
  have hS4 : ((rn : Int) == S) = true := by simp [hS2]
  have hd1 : decide (S < 1) = false := by simp; omega
  have HR2 : Hid (rightOf M = M.es.all (okE S)) := by show _ = _; rw [HRO.out, show decide (1 ≤ S) = true by simp; omega, show decide ((rn : Int) = S) = true by simp [hS2]]; simp
  clear HRO
  have HSr : Hid ((rn : Int) = S) := hS2
  clear hS2
  go_wp2_with fail
  clear x0 x1 x2
  go_loopw [3] (fun i u => ∃ j : Nat, i = .int .i64 (j : Nat) ∧ j ≤ n ∧ Hid ((M.es.take j).all (okE S) = true) ∧ Hid (Below w2.heap.size w2 u)) (fun i _ => n - (intOf i).toNat)
  case atStart => exact ⟨0, rfl, Nat.zero_le _, by show _ = _; simp, Below.refl _ _⟩
  case round =>
    obtain ⟨j, rfl, hjn, HAL, HBj⟩ := hrel
    obtain ⟨x0, x1, x2⟩ := (HNX.out.later HBj.out).cells
    simp only at x0 x1 x2
    by_cases hlt : j < n
    · have hlt' : (j : Int) < (n : Int) := by omega
      obtain ⟨e, hee⟩ : ∃ e, M.es[j]? = some e := ⟨_, List.getElem?_eq_getElem (by rw [HN.out.1]; exact hlt)⟩
      have HBw : Hid (Below w.heap.size w wr) := below_step HB.out HBj.out
      have HE2 := HE.out
      obtain ⟨b, off, rfl, p0, p1, p2, p3, p4, p5, p6⟩ := (HE2.keep (w' := wr) (fun _ h _ => h) (fun k _ hk => HBw.out.block k hk)).nth hee
      have HEE : Hid (M.es[j]? = some e) := hee
      clear hee HE2
      have kk : Below wr.heap.size wr (wr.alloc (.cells #[.int .i64 e.k, .int .i64 e.f, .int .i64 e.t, .int .u64 (Oct.word e.s 0 : Nat), .int .u64 (Oct.word e.s 1 : Nat), .int .u64 (Oct.word e.s 2 : Nat), .int .u64 (Oct.word e.s 3 : Nat)] 57)) := (Below.refl _ _).alloc (Nat.le_refl _) _
      have HK4 : Hid (Below w2.heap.size w2 (wr.alloc (.cells #[.int .i64 e.k, .int .i64 e.f, .int .i64 e.t, .int .u64 (Oct.word e.s 0 : Nat), .int .u64 (Oct.word e.s 1 : Nat), .int .u64 (Oct.word e.s 2 : Nat), .int .u64 (Oct.word e.s 3 : Nat)] 57))) := below_step HBj.out kk
      have HG4 : Hid ((wr.alloc (.cells #[.int .i64 e.k, .int .i64 e.f, .int .i64 e.t, .int .u64 (Oct.word e.s 0 : Nat), .int .u64 (Oct.word e.s 1 : Nat), .int .u64 (Oct.word e.s 2 : Nat), .int .u64 (Oct.word e.s 3 : Nat)] 57)).heap[wr.heap.size]? = some (.cells #[.int .i64 e.k, .int .i64 e.f, .int .i64 e.t, .int .u64 (Oct.word e.s 0 : Nat), .int .u64 (Oct.word e.s 1 : Nat), .int .u64 (Oct.word e.s 2 : Nat), .int .u64 (Oct.word e.s 3 : Nat)] 57 (0, 0))) := heap_alloc_new wr _
      clear kk
      go_upto_region 7 with fail
      obtain ⟨w4, hw4⟩ : ∃ w4, wr.alloc (.cells #[.int .i64 e.k, .int .i64 e.f, .int .i64 e.t, .int .u64 (Oct.word e.s 0 : Nat), .int .u64 (Oct.word e.s 1 : Nat), .int .u64 (Oct.word e.s 2 : Nat), .int .u64 (Oct.word e.s 3 : Nat)] 57) = w4 := ⟨_, rfl⟩
      obtain ⟨G, hG⟩ : ∃ G, wr.heap.size = G := ⟨_, rfl⟩
      rw [hw4] at HK4 HG4 ⊢
      rw [hG] at HG4 ⊢
      clear hw4 hG p0 p1 p2 p3 p4 p5 p6 x0 x1 x2
      have HB4 : Hid (Below w.heap.size w w4) := below_step HB.out HK4.out
      obtain ⟨x0, x1, x2⟩ := (HNX.out.later HK4.out).cells
      simp only at x0 x1 x2
      have g0 : w4.cell? ⟨G, 0, none⟩ = some (.int .i64 e.k) := by simp [World.cell?, HG4.out]
      have g1 : w4.cell? ⟨G, 1, none⟩ = some (.int .i64 e.f) := by simp [World.cell?, HG4.out]
      have g2 : w4.cell? ⟨G, 2, none⟩ = some (.int .i64 e.t) := by simp [World.cell?, HG4.out]
      have g3 : w4.cell? ⟨G, 3, none⟩ = some (.int .u64 (Oct.word e.s 0 : Nat)) := by simp [World.cell?, HG4.out]
      have g4 : w4.cell? ⟨G, 4, none⟩ = some (.int .u64 (Oct.word e.s 1 : Nat)) := by simp [World.cell?, HG4.out]
      have g5 : w4.cell? ⟨G, 5, none⟩ = some (.int .u64 (Oct.word e.s 2 : Nat)) := by simp [World.cell?, HG4.out]
      have g6 : w4.cell? ⟨G, 6, none⟩ = some (.int .u64 (Oct.word e.s 3 : Nat)) := by simp [World.cell?, HG4.out]
      have hSM : M.S = S := HS.out
      have hq := eq4_zero (Oct.word e.s 0) (Oct.word e.s 1) (Oct.word e.s 2) (Oct.word e.s 3) w4
      rw [show (decide (Oct.word e.s 0 = 0) && decide (Oct.word e.s 1 = 0) && decide (Oct.word e.s 2 = 0) && decide (Oct.word e.s 3 = 0)) = noSet e.s from rfl] at hq
      obtain ⟨z, hz⟩ : ∃ z, noSet e.s = z := ⟨_, rfl⟩
      rw [hz] at hq
      have HZ : Hid (noSet e.s = z) := hz
      have HSM : Hid (M.S = S) := hSM
      clear hz hSM
      by_cases h1 : e.k < 1
      · have HNo : Hid (rightOf M = false) := right_no HEE.out (by unfold okE; rw [HSM.out]; simp; omega)
        go_wp2
        go_ret
        exact ⟨by rw [HNo.out]; rfl, HB4.out⟩
      by_cases h2 : 4 < e.k
      · have HNo : Hid (rightOf M = false) := right_no HEE.out (by unfold okE; rw [HSM.out]; simp; omega)
        go_wp2
        go_ret
        exact ⟨by rw [HNo.out]; rfl, HB4.out⟩
      by_cases h3 : e.f < 0
      · have HNo : Hid (rightOf M = false) := right_no HEE.out (by unfold okE; rw [HSM.out]; simp; omega)
        go_wp2
        go_ret
        exact ⟨by rw [HNo.out]; rfl, HB4.out⟩
      by_cases h4 : S ≤ e.f
      · have HNo : Hid (rightOf M = false) := right_no HEE.out (by unfold okE; rw [HSM.out]; simp; omega)
        go_wp2
        go_ret
        exact ⟨by rw [HNo.out]; rfl, HB4.out⟩
      by_cases h5 : e.t < 0
      · have HNo : Hid (rightOf M = false) := right_no HEE.out (by unfold okE; rw [HSM.out]; simp; omega)
        go_wp2
        go_ret
        exact ⟨by rw [HNo.out]; rfl, HB4.out⟩
      by_cases h6 : S ≤ e.t
      · have HNo : Hid (rightOf M = false) := right_no HEE.out (by unfold okE; rw [HSM.out]; simp; omega)
        go_wp2
        go_ret
        exact ⟨by rw [HNo.out]; rfl, HB4.out⟩
      by_cases h7 : e.k = 2
      · have HOK : Hid (okE S e = true) := by show _ = _; unfold okE; simp [h7]; omega
        have h7a : (e.k != 2) = false := by simp [h7]
        have h7b : (e.k == 2) = true := by simp [h7]
        have HA2 : Hid ((M.es.take (j + 1)).all (okE S) = true) := by show _ = _; rw [List.take_add_one, HEE.out]; simp only [Option.toList_some, List.all_append, HAL.out, List.all_cons, HOK.out, List.all_nil, Bool.and_self]
        go_wp2
        go_roundw
        case rel => exact ⟨j + 1, by go_num, by omega, HA2, HK4⟩
        case measure => simp [intOf]; omega
      have h7a : (e.k != 2) = true := by simp [h7]
      have h7b : (e.k == 2) = false := by simp [h7]
      cases z with
      | false =>
        have HNo : Hid (rightOf M = false) := right_no HEE.out (by unfold okE; rw [HZ.out]; simp [h7])
        go_wp2
        go_ret
        exact ⟨by rw [HNo.out]; rfl, HB4.out⟩
      | true =>
        have HOK : Hid (okE S e = true) := by show _ = _; unfold okE; rw [HZ.out]; simp; omega
        have HA2 : Hid ((M.es.take (j + 1)).all (okE S) = true) := by show _ = _; rw [List.take_add_one, HEE.out]; simp only [Option.toList_some, List.all_append, HAL.out, List.all_cons, HOK.out, List.all_nil, Bool.and_self]
        go_wp2
        go_roundw
        case rel => exact ⟨j + 1, by go_num, by omega, HA2, HK4⟩
        case measure => simp [intOf]; omega
    · have hlt' : ¬ (j : Int) < (n : Int) := by omega
      have HBw : Hid (Below w.heap.size w wr) := below_step HB.out HBj.out
      have HYes : Hid (rightOf M = true) := by
        show _ = _
        rw [HR2.out, ← HAL.out, List.take_of_length_le (by rw [HN.out.1]; omega)]
      go_wp2
      go_ret
      exact ⟨by rw [HYes.out]; rfl, HBw.out⟩
end Go.Proofs.Ytjmbimgofceanaa
