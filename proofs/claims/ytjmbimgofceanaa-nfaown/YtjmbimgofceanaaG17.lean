/- A machine in memory; what Build answers. -/
import Derived.Test.YtjmbimgofceanaaG16
import Derived.Laws.StructEq
namespace Go.Proofs.Ytjmbimgofceanaa
open Go.RowKit

structure Ma where
  S : Int
  es : List Eg
  rs : List Nat
def zeroMa : Ma := ⟨0, [], []⟩
/-- edges one behind the other, from an address on -/
def EAt (X : Nat → Prop) (w : World) (a : Option Addr) (es : List Eg) : Prop := es = [] ∨ ∃ b off, a = some ⟨b, off, none⟩ ∧ X b ∧ ∀ j v, (flatE es)[j]? = some v → w.cell? ⟨b, off + j, none⟩ = some v
def UAt (X : Nat → Prop) (w : World) (a : Option Addr) (rs : List Nat) : Prop := rs = [] ∨ ∃ b off, a = some ⟨b, off, none⟩ ∧ X b ∧ ∀ j x, rs[j]? = some x → w.cell? ⟨b, off + j, none⟩ = some (.int .u32 (x : Nat))
structure Nf where
  S : Int
  ea : Option Addr
  en : Nat
  ec : Nat
  ra : Option Addr
  rn : Nat
  rc : Nat
def Nf.val (x : Nf) : Value := .agg #[.int .i64 x.S, .slice x.ea x.en x.ec, .slice x.ra x.rn x.rc]
def Nf.cells (x : Nf) : List Value := [.int .i64 x.S, .slice x.ea x.en x.ec, .slice x.ra x.rn x.rc]
/-- A MACHINE IN MEMORY, whose lists lie in blocks of a kind. -/
structure MaAt (X : Nat → Prop) (w : World) (M : Ma) (x : Nf) : Prop where
  s : x.S = M.S
  n : x.en = M.es.length
  r : x.rn = M.rs.length
  e : EAt X w x.ea M.es
  u : UAt X w x.ra M.rs
theorem lt_of_cell {w : World} {b j : Nat} {v : Value} (h : w.cell? ⟨b, j, none⟩ = some v) : b < w.heap.size := by
  cases hg : w.heap[b]? with
  | none => simp [World.cell?, hg] at h
  | some o => exact (Array.getElem?_eq_some_iff.1 hg).1
theorem EAt.keep {X Y : Nat → Prop} {w w' : World} {a : Option Addr} {es : List Eg} (h : EAt X w a es) (hXY : ∀ b, X b → b < w.heap.size → Y b) (hk : ∀ b, X b → b < w.heap.size → w'.heap[b]? = w.heap[b]?) : EAt Y w' a es := by
  rcases h with h | ⟨b, off, rfl, hX, hc⟩
  · exact Or.inl h
  · cases es with
    | nil => exact Or.inl rfl
    | cons e es =>
      have hlt : b < w.heap.size := lt_of_cell (hc 0 _ rfl)
      exact Or.inr ⟨b, off, rfl, hXY b hX hlt, fun j v hj => (World.cell?_of_block (a := ⟨b, off + j, none⟩) (hk b hX hlt)).trans (hc j v hj)⟩
theorem UAt.keep {X Y : Nat → Prop} {w w' : World} {a : Option Addr} {rs : List Nat} (h : UAt X w a rs) (hXY : ∀ b, X b → b < w.heap.size → Y b) (hk : ∀ b, X b → b < w.heap.size → w'.heap[b]? = w.heap[b]?) : UAt Y w' a rs := by
  rcases h with h | ⟨b, off, rfl, hX, hc⟩
  · exact Or.inl h
  · cases rs with
    | nil => exact Or.inl rfl
    | cons e es =>
      have hlt : b < w.heap.size := lt_of_cell (hc 0 _ rfl)
      exact Or.inr ⟨b, off, rfl, hXY b hX hlt, fun j v hj => (World.cell?_of_block (a := ⟨b, off + j, none⟩) (hk b hX hlt)).trans (hc j v hj)⟩
theorem MaAt.keep {X Y : Nat → Prop} {w w' : World} {M : Ma} {x : Nf} (h : MaAt X w M x) (hXY : ∀ b, X b → b < w.heap.size → Y b) (hk : ∀ b, X b → b < w.heap.size → w'.heap[b]? = w.heap[b]?) : MaAt Y w' M x :=
  ⟨h.s, h.n, h.r, h.e.keep hXY hk, h.u.keep hXY hk⟩
theorem MaAt.later {X : Nat → Prop} {w w' : World} {M : Ma} {x : Nf} (h : MaAt X w M x) (hb : Below w.heap.size w w') : MaAt X w' M x := h.keep (fun _ h _ => h) (fun b _ hlt => hb.block b hlt)
theorem zero_maAt (X : Nat → Prop) (w : World) : MaAt X w zeroMa ⟨0, none, 0, 0, none, 0, 0⟩ := ⟨rfl, rfl, rfl, Or.inl rfl, Or.inl rfl⟩
theorem RowE.at {w : World} {base : Nat} {a : Option Addr} {n c : Nat} {es : List Eg} (h : RowE w base (.slice a n c) es) : n = es.length ∧ EAt (fun b => base ≤ b) w a es := by
  rcases h.2 with ⟨hv, hn⟩ | ⟨g, cap, cur, hv, hbg, hg, h1, h2, h3, h4⟩
  · cases hv
    exact ⟨hn.symm, Or.inl (List.length_eq_zero_iff.1 hn)⟩
  · cases hv
    refine ⟨rfl, Or.inr ⟨g, 0, rfl, hbg, fun j v hj => ?_⟩⟩
    have hlt := (List.getElem?_eq_some_iff.1 hj).1
    rw [flatE_length] at hlt
    rw [← h4, List.getElem?_take_of_lt (by omega)] at hj
    simp only [World.cell?, hg, Nat.zero_add]
    simpa using hj
theorem RowE.at2 {w : World} {base : Nat} {a : Option Addr} {n c : Nat} {es : List Eg} (h : RowE w base (.slice a n c) es) : EAt (fun b => base ≤ b ∧ TyB w 57 b) w a es := by
  rcases h.at.2 with h1 | ⟨b, off, ha, hb, hc⟩
  · exact Or.inl h1
  · subst ha
    by_cases he : es = []
    · exact Or.inl he
    · refine Or.inr ⟨b, off, rfl, ⟨hb, ?_⟩, hc⟩
      rcases h.2 with ⟨hv, _⟩ | ⟨g, cap, cur, hv, _, hg, _⟩
      · cases hv
      · cases hv
        exact ⟨_, _, hg⟩
theorem RowE.later {w w' : World} {base : Nat} {V : Value} {es : List Eg} (h : RowE w base V es) (hb : Below w.heap.size w w') : RowE w' base V es := h.keep (fun b _ hlt _ => hb.block b hlt)
theorem RowE.set {w : World} {base : Nat} {V : Value} {es : List Eg} (h : RowE w base V es) {A : Nat} {t : TypeId} (hA : TyB w t A) (ht : t ≠ 57) (j : Nat) (v : Value) : RowE (w.setCell ⟨A, j, none⟩ v) base V es :=
  h.keep (fun b _ _ hb => Below.heap_setCell w ⟨A, j, none⟩ v b (fun e => by have e : b = A := e; subst e; exact ht (TyB.ne hA hb)))
/-- what Build answers -/
def mach (t : Tn) (rule : Nat) : Ma := ⟨(lay t ⟨1, []⟩ 0).1.S, (lay t ⟨1, []⟩ 0).1.es, (List.replicate (lay t ⟨1, []⟩ 0).1.S 0).set (lay t ⟨1, []⟩ 0).2 (2 ^ rule)⟩
def buildOf (t : Tn) (rule : Int) : Ma × Nat := if (plc t).2 = false then (zeroMa, 50) else if 2048 < placesOf t then (zeroMa, 48) else if rule < 0 ∨ 31 < rule then (zeroMa, 1) else (mach t rule.toNat, 0)
theorem frees_S (l : List Nat) (s : Nat) (m : Mk) : (frees l s m).S = m.S := (frees_size l s m).1
theorem joint_lt (r : Mk × List Nat) : (joint r).2 < (joint r).1.S := by
  unfold joint
  simp only [frees_S]
  exact Nat.lt_succ_self _
theorem rounds_lt {F : Mk → Nat → Mk × Nat} (h : ∀ (m : Mk) (a : Nat), a < m.S → (F m a).2 < (F m a).1.S) : ∀ (n : Nat) (x : Mk × Nat), x.2 < x.1.S → (rounds F n x).2 < (rounds F n x).1.S
  | 0, _, hx => hx
  | n + 1, x, hx => rounds_lt h n _ (h x.1 x.2 hx)
theorem times_lt {F : Mk → Nat → Mk × Nat} (h : ∀ (m : Mk) (a : Nat), a < m.S → (F m a).2 < (F m a).1.S) (p : Nat) (mn mx : Int) (m : Mk) (a : Nat) (ha : a < m.S) : (timesOf F p mn mx m a).2 < (timesOf F p mn mx m a).1.S := by
  unfold timesOf
  split
  · exact ha
  split
  · unfold again
    exact Nat.lt_succ_self _
  split
  · exact rounds_lt h _ (m, a) ha
  · exact joint_lt _
mutual
theorem lay_lt : ∀ (t : Tn) (m : Mk) (a : Nat), a < m.S → (lay t m a).2 < (lay t m a).1.S
  | .mk k s subs mn mx, m, a, ha => by
    rw [lay]
    split
    · exact Nat.lt_succ_self _
    split
    · exact seqs_lt subs m a ha
    split
    · exact joint_lt _
    split
    · exact times_lt (fun m a ha => heads_lt subs m a ha) _ _ _ _ _ ha
    · exact ha
theorem seqs_lt : ∀ (ts : List Tn) (m : Mk) (a : Nat), a < m.S → (seqs ts m a).2 < (seqs ts m a).1.S
  | [], m, a, ha => by rw [seqs]; exact ha
  | t :: ts, m, a, ha => by rw [seqs]; exact seqs_lt ts _ _ (lay_lt t m a ha)
theorem heads_lt : ∀ (ts : List Tn) (m : Mk) (a : Nat), a < m.S → (heads ts m a).2 < (heads ts m a).1.S
  | [], m, a, ha => by rw [heads]; exact ha
  | t :: _, m, a, ha => by rw [heads]; exact lay_lt t m a ha
end
/-- a tree of at most MaxPlaces places is laid in bounds -/
theorem lay_bounds {t : Tn} (h : (plc t).2 = true) (hp : ¬ 2048 < placesOf t) : (lay t ⟨1, []⟩ 0).1.S ≤ 2048 ∧ (lay t ⟨1, []⟩ 0).1.es.length ≤ 4096 := by
  obtain ⟨h1, h2⟩ := lay_size t h ⟨1, []⟩ 0
  have h3 := plc_raw t h
  unfold placesOf at hp
  rw [if_pos h, h3] at hp
  simp only [List.length_nil] at h1 h2
  omega
end Go.Proofs.Ytjmbimgofceanaa

/- Rows of words of the call's own. -/
namespace Go.Proofs.Ytjmbimgofceanaa
open Go.RowKit

def wds (rs : List Nat) : List Value := rs.map fun x => Value.int .u32 (x : Nat)
theorem wds_length (rs : List Nat) : (wds rs).length = rs.length := List.length_map _
def RowU (w : World) (base : Nat) (V : Value) (rs : List Nat) : Prop := w.ownsRow base 44 1 V rs.length (wds rs)
theorem infoU : (Try.prog.info? 44).map (fun i => (i.zero, i.size, i.bytes)) = some (some (.int .u32 0), 1, 4) := by kernel_rfl
theorem rowU_nil (w : World) (base : Nat) : RowU w base (.slice none 0 0) [] := World.ownsRow_nil w base 44 1
section
variable {w w' : World} {base : Nat} {V : Value} {rs : List Nat}
theorem RowU.ty (h : RowU w base V rs) : ∀ b, V.ownBlock = some b → base ≤ b ∧ TyB w 44 b := by
  intro b hb
  rcases h.2 with ⟨rfl, _⟩ | ⟨g, cap, cur, rfl, hbg, hg, _⟩
  · simp [Value.ownBlock] at hb
  · simp [Value.ownBlock] at hb
    subst hb
    exact ⟨hbg, ⟨_, _, hg⟩⟩
theorem RowU.keep (h : RowU w base V rs) (hk : ∀ b, base ≤ b → b < w.heap.size → TyB w 44 b → w'.heap[b]? = w.heap[b]?) : RowU w' base V rs := by
  refine ⟨h.1, ?_⟩
  rcases h.2 with h6 | ⟨g, cap, cur, rfl, hBg, hg, rest⟩
  · exact Or.inl h6
  · exact Or.inr ⟨g, cap, cur, rfl, hBg, (hk g hBg (Array.getElem?_eq_some_iff.1 hg).1 ⟨_, _, hg⟩).trans hg, rest⟩
theorem RowU.later (h : RowU w base V rs) (hb : Below w.heap.size w w') : RowU w' base V rs := h.keep (fun b _ hlt _ => hb.block b hlt)
theorem RowU.set (h : RowU w base V rs) {A : Nat} {t : TypeId} (hA : TyB w t A) (ht : t ≠ 44) (j : Nat) (v : Value) : RowU (w.setCell ⟨A, j, none⟩ v) base V rs :=
  h.keep (fun b _ _ hb => Below.heap_setCell w ⟨A, j, none⟩ v b (fun e => by have e : b = A := e; subst e; exact ht (TyB.ne hA hb)))
theorem RowU.form (h : RowU w base V rs) : ∃ a c, V = .slice a rs.length c ∧ rs.length ≤ c ∧ c ≤ maxLen := by
  rcases h.2 with ⟨hv, hn⟩ | ⟨g, cap, cur, hv, hbg, hg, h1, h2, h3, h4⟩
  · exact ⟨none, 0, by rw [hv, hn], by omega, by decide⟩
  · exact ⟨_, _, hv, h1, h2⟩
end
theorem RowU.at {w : World} {base : Nat} {a : Option Addr} {n c : Nat} {rs : List Nat} (h : RowU w base (.slice a n c) rs) : n = rs.length ∧ UAt (fun b => base ≤ b) w a rs := by
  rcases h.2 with ⟨hv, hn⟩ | ⟨g, cap, cur, hv, hbg, hg, h1, h2, h3, h4⟩
  · cases hv
    exact ⟨hn.symm, Or.inl (List.length_eq_zero_iff.1 hn)⟩
  · cases hv
    refine ⟨rfl, Or.inr ⟨g, 0, rfl, hbg, fun j x hj => ?_⟩⟩
    have hlt := (List.getElem?_eq_some_iff.1 hj).1
    have e : (wds rs)[j]? = some (.int .u32 (x : Nat)) := by unfold wds; rw [List.getElem?_map, hj]; rfl
    rw [← h4, List.getElem?_take_of_lt (by omega)] at e
    simp only [World.cell?, hg, Nat.zero_add]
    simpa using e
theorem RowU.at2 {w : World} {base : Nat} {a : Option Addr} {n c : Nat} {rs : List Nat} (h : RowU w base (.slice a n c) rs) : UAt (fun b => base ≤ b ∧ TyB w 44 b) w a rs := by
  rcases h.at.2 with h1 | ⟨b, off, ha, hb, hc⟩
  · exact Or.inl h1
  · subst ha
    by_cases he : rs = []
    · exact Or.inl he
    · refine Or.inr ⟨b, off, rfl, ⟨hb, ?_⟩, hc⟩
      rcases h.2 with ⟨hv, _⟩ | ⟨g, cap, cur, hv, _, hg, _⟩
      · cases hv
      · cases hv
        exact ⟨_, _, hg⟩
theorem RowU.cell {w : World} {base g n c : Nat} {rs : List Nat} (h : RowU w base (.slice (some ⟨g, 0, none⟩) n c) rs) {i x : Nat} (hx : rs[i]? = some x) : w.cell? ⟨g, i, none⟩ = some (.int .u32 (x : Nat)) ∧ w.frozen? ⟨g, i, none⟩ = false := by
  refine ⟨?_, ?_⟩
  · rcases h.at.2 with h1 | ⟨b, off, hb, _, hc⟩
    · rw [h1] at hx; cases hx
    · rcases h.2 with ⟨hv, _⟩ | ⟨g', cap, cur, hv, hbg, hg, h1, h2, h3, h4⟩
      · cases hv
      · cases hv
        cases hb
        have := hc i x hx
        simpa using this
  · rcases h.2 with ⟨hv, _⟩ | ⟨g', cap, cur, hv, hbg, hg, _⟩
    · cases hv
    · cases hv
      simp [World.frozen?, hg]
theorem RowU.put {w : World} {base g n c : Nat} {rs : List Nat} (h : RowU w base (.slice (some ⟨g, 0, none⟩) n c) rs) (i x : Nat) : RowU (w.setCell ⟨g, i, none⟩ (.int .u32 (x : Nat))) base (.slice (some ⟨g, 0, none⟩) n c) (rs.set i x) := by
  refine ⟨by simp [wds], ?_⟩
  rcases h.2 with ⟨hv, _⟩ | ⟨g', cap, cur, hv, hbg, hg, h1, h2, h3, h4⟩
  · cases hv
  · cases hv
    refine Or.inr ⟨g, c, _, by simp, hbg, heap_set hg i _, by simpa using h1, h2, by simpa using h3, ?_⟩
    rw [Array.toList_setIfInBounds, List.take_set]
    have e : wds (rs.set i x) = (wds rs).set i (.int .u32 (x : Nat)) := by unfold wds; rw [List.map_set]
    rw [e, List.length_set, h4]
theorem madeCells_u32 (n : Nat) : (madeCells (Value.int .u32 0).cells (n * 1)).toList = wds (List.replicate n 0) := by
  apply List.ext_getElem?
  intro k
  simp [madeCells, wds, Value.cells]
  by_cases hk : k < n
  · simp [hk, Nat.mod_one]
  · simp [hk]
theorem wpList_make_u32 {w : World} {ops : Array Oper} {rest : List Oper} {o : Oper} {a : Act} {Q : Exit → Act → World → Prop} (hgd : o.guard = none) (l c : Operand)
    (ho : o.op = Op.makeSlice 36 l c) (base n : Nat) (hb : base ≤ w.heap.size) (hl : a.eval l = .int .i64 (n : Nat)) (hc : a.eval c = .int .i64 (n : Nat)) (hn : n ≤ 1000000)
    (h : ∀ w', RowU w' base (.slice (some ⟨w.heap.size, 0, none⟩) n n) (List.replicate n 0) → Below w.heap.size w w' → wpList Try.prog ops Q rest (a.put o.dst (.slice (some ⟨w.heap.size, 0, none⟩) n n)) w') : wpList Try.prog ops Q (o :: rest) a w := by
  obtain ⟨i0, hi, hz0, hz1, hz2⟩ := info_parts infoU
  refine wpList_make_full (P := Try.prog) w hgd l c 36 ho base 44 i0 (.int .u32 0) 1 Try.underlying36 hi hz0 hz1 .i64 .i64 (n : Nat) (n : Nat) n hl hc rfl rfl (by rw [hz2]; omega) (by simp only [maxLen]; omega) hb ?_
  intro w' h1 h2
  rw [madeCells_u32] at h1
  exact h w' (by unfold RowU; rw [List.length_replicate]; exact h1) ((Below.refl _ _).grown h2 (Nat.le_refl _) (fun k hk => by cases hk))
/-- a machine's block -/
def NFB (w : World) (R : Nat) (x : Nf) : Prop := w.heap[R]? = some (.cells #[.int .i64 x.S, .slice x.ea x.en x.ec, .slice x.ra x.rn x.rc] 38 (0, 0))
section
variable {w w' : World} {R : Nat} {x : Nf}
theorem NFB.lt (h : NFB w R x) : R < w.heap.size := (Array.getElem?_eq_some_iff.1 h).1
theorem NFB.later (h : NFB w R x) (hb : Below w.heap.size w w') : NFB w' R x := (hb.block R h.lt).trans h
theorem NFB.ty (h : NFB w R x) : TyB w 38 R := ⟨_, _, h⟩
theorem NFB.cells (h : NFB w R x) : w.cell? ⟨R, 0, none⟩ = some (.int .i64 x.S) ∧ w.cell? ⟨R, 1, none⟩ = some (.slice x.ea x.en x.ec) ∧ w.cell? ⟨R, 2, none⟩ = some (.slice x.ra x.rn x.rc) := by
  unfold NFB at h
  refine ⟨?_, ?_, ?_⟩ <;> simp [World.cell?, h]
theorem NFB.frozen (h : NFB w R x) (j : Nat) : w.frozen? ⟨R, j, none⟩ = false := by
  unfold NFB at h
  simp [World.frozen?, h]
end
theorem nfb_new (w : World) (x : Nf) : NFB (w.alloc (.cells #[.int .i64 x.S, .slice x.ea x.en x.ec, .slice x.ra x.rn x.rc] 38)) w.heap.size x := heap_alloc_new w _
def put3 (w : World) (R : Nat) (x : Nf) : World := ((w.setCell ⟨R, 0, none⟩ (.int .i64 x.S)).setCell ⟨R, 1, none⟩ (.slice x.ea x.en x.ec)).setCell ⟨R, 2, none⟩ (.slice x.ra x.rn x.rc)
theorem NFB.put3 {w : World} {R : Nat} {y : Nf} (h : NFB w R y) (x : Nf) : NFB (put3 w R x) R x := by
  have e := heap_set (heap_set (heap_set h 0 (.int .i64 x.S)) 1 (.slice x.ea x.en x.ec)) 2 (.slice x.ra x.rn x.rc)
  exact e
theorem heap_put3 (w : World) (R : Nat) (x : Nf) (k : Nat) (h : k ≠ R) : (put3 w R x).heap[k]? = w.heap[k]? := by
  unfold put3
  rw [Below.heap_setCell _ ⟨R, 2, none⟩ _ k h, Below.heap_setCell _ ⟨R, 1, none⟩ _ k h, Below.heap_setCell _ ⟨R, 0, none⟩ _ k h]
theorem below_put3 {w u : World} {b : Nat} (h : Below b w u) {R : Nat} (hR : b ≤ R) (x : Nf) : Below b w (put3 u R x) := ((h.setCell (p := ⟨R, 0, none⟩) hR _).setCell (p := ⟨R, 1, none⟩) hR _).setCell (p := ⟨R, 2, none⟩) hR _
end Go.Proofs.Ytjmbimgofceanaa

/- Machines that are read: an edge, a word at its place; two edges held against each other. -/
namespace Go.Proofs.Ytjmbimgofceanaa
open Go.RowKit

theorem EAt.nth {X : Nat → Prop} {w : World} {a : Option Addr} {es : List Eg} (h : EAt X w a es) {i : Nat} {e : Eg} (hx : es[i]? = some e) : ∃ b off, a = some ⟨b, off, none⟩ ∧ w.cell? ⟨b, off + i * 7, none⟩ = some (.int .i64 e.k) ∧ w.cell? ⟨b, off + i * 7 + 1, none⟩ = some (.int .i64 e.f) ∧ w.cell? ⟨b, off + i * 7 + 2, none⟩ = some (.int .i64 e.t) ∧ w.cell? ⟨b, off + i * 7 + 3, none⟩ = some (.int .u64 (Oct.word e.s 0 : Nat)) ∧ w.cell? ⟨b, off + i * 7 + 4, none⟩ = some (.int .u64 (Oct.word e.s 1 : Nat)) ∧ w.cell? ⟨b, off + i * 7 + 5, none⟩ = some (.int .u64 (Oct.word e.s 2 : Nat)) ∧ w.cell? ⟨b, off + i * 7 + 6, none⟩ = some (.int .u64 (Oct.word e.s 3 : Nat)) := by
  rcases h with h | ⟨b, off, ha, _, hc⟩
  · subst h; simp at hx
  · rw [Nat.mul_comm i 7]
    refine ⟨b, off, ha, ?_, ?_, ?_, ?_, ?_, ?_, ?_⟩
    · exact hc _ _ (flatE_at hx (m := 0) (by decide))
    · rw [Nat.add_assoc]; exact hc _ _ (flatE_at hx (m := 1) (by decide))
    · rw [Nat.add_assoc]; exact hc _ _ (flatE_at hx (m := 2) (by decide))
    · rw [Nat.add_assoc]; exact hc _ _ (flatE_at hx (m := 3) (by decide))
    · rw [Nat.add_assoc]; exact hc _ _ (flatE_at hx (m := 4) (by decide))
    · rw [Nat.add_assoc]; exact hc _ _ (flatE_at hx (m := 5) (by decide))
    · rw [Nat.add_assoc]; exact hc _ _ (flatE_at hx (m := 6) (by decide))
theorem UAt.nth {X : Nat → Prop} {w : World} {a : Option Addr} {rs : List Nat} (h : UAt X w a rs) {i x : Nat} (hx : rs[i]? = some x) : ∃ b off, a = some ⟨b, off, none⟩ ∧ w.cell? ⟨b, off + i, none⟩ = some (.int .u32 (x : Nat)) := by
  rcases h with h | ⟨b, off, ha, _, hc⟩
  · subst h; simp at hx
  · exact ⟨b, off, ha, hc i x hx⟩
theorem eq4_any (d : Nat) (a b c e : Int) (w : World) : (Op.equalIn (d + 2) 27 (.agg #[.int .u64 a, .int .u64 b, .int .u64 c, .int .u64 e]) (.agg #[.int .u64 a, .int .u64 b, .int .u64 c, .int .u64 e])).run Try.prog w = .ok true w := by
  obtain ⟨i0, hi, hz0, hz1, hz2⟩ := info_parts info25
  have h1 : ∀ x : Int, (Op.equalIn (d + 1) 25 (.int .u64 x) (.int .u64 x)).run Try.prog w = .ok true w := fun x => by
    rw [run_equalIn_int w d 25 .u64 .u64 x x Try.underlying25]; simp
  rw [Op.equalIn]
  simp [run_underlying Try.underlying27, sizeOf, typeInfo, hi, hz1, part, Try.isAgg25, Std.Legacy.Range.forIn_eq_forIn_range', Std.Legacy.Range.size, List.range'_succ, List.range'_zero, h1]
theorem infoSet : (Try.prog.info? 27).map (fun i => (i.zero, i.size, i.bytes)) = some (some (.agg #[.int .u64 0, .int .u64 0, .int .u64 0, .int .u64 0]), 4, 32) := by kernel_rfl
set_option maxRecDepth 4000 in
theorem eq7_same (k f t a b c e : Int) (w : World) : (Op.equalIn 10000 57 (.agg #[.int .i64 k, .int .i64 f, .int .i64 t, .int .u64 a, .int .u64 b, .int .u64 c, .int .u64 e]) (.agg #[.int .i64 k, .int .i64 f, .int .i64 t, .int .u64 a, .int .u64 b, .int .u64 c, .int .u64 e])).run Try.prog w = .ok true w := by
  have h1 : ∀ x : Int, (Op.equalIn 9999 3 (.int .i64 x) (.int .i64 x)).run Try.prog w = .ok true w := fun x => by
    rw [run_equalIn_int w 9998 3 .i64 .i64 x x Try.underlying3]; simp
  have h4 := eq4_any 9997 a b c e w
  rw [show (10000 : Nat) = 9999 + 1 from rfl, run_equalIn_struct w 9999 57 _ _ (by kernel_rfl) (by kernel_rfl)]
  have hf : (Try.prog.fieldsOf 57).toList.map (fun f => (f.name, f.type, f.offset)) = [("Kind", 3, 0), ("From", 3, 1), ("To", 3, 2), ("Set", 27, 3)] := by kernel_rfl
  generalize (Try.prog.fieldsOf 57).toList = fs at hf
  obtain ⟨i0, hi, hz0, hz1, hz2⟩ := info_parts infoSet
  rcases fs with _ | ⟨f1, _ | ⟨f2, _ | ⟨f3, _ | ⟨f4, _ | ⟨f5, fs⟩⟩⟩⟩⟩ <;> simp only [List.map_cons, List.map_nil, List.cons.injEq, Prod.mk.injEq, and_true, reduceCtorEq, and_false] at hf
  obtain ⟨⟨n1, t1, o1⟩, ⟨n2, t2, o2⟩, ⟨n3, t3, o3⟩, ⟨n4, t4, o4⟩⟩ := hf
  simp only [Op.eqFields, n1, n2, n3, n4, t1, t2, t3, t4, o1, o2, o3, o4]
  simp [part, Try.isAgg3, Try.isAgg27, sizeOf, typeInfo, hi, hz1, h1, h4]
end Go.Proofs.Ytjmbimgofceanaa

/- heronref07's Right. -/
namespace Go.Proofs.Ytjmbimgofceanaa
open Go.RowKit
attribute [local go_sem ↓] Go.wp_at_zero Go.wp_at_succ

/-- an edge that fits -/
def okE (S : Int) (e : Eg) : Bool := !(decide (e.k < 1) || decide (4 < e.k) || decide (e.f < 0) || decide (S ≤ e.f) || decide (e.t < 0) || decide (S ≤ e.t) || (!decide (e.k = 2) && !noSet e.s))
/-- a machine that fits -/
def rightOf (M : Ma) : Bool := decide (1 ≤ M.S) && decide ((M.rs.length : Int) = M.S) && M.es.all (okE M.S)
end Go.Proofs.Ytjmbimgofceanaa

/- heronref07's Same of two machines that are the same. -/
namespace Go.Proofs.Ytjmbimgofceanaa
open Go.RowKit
attribute [local go_sem ↓] Go.wp_at_zero Go.wp_at_succ

set_option maxRecDepth 4000 in
set_option maxHeartbeats 16000000 in
theorem same_any {X Y : Nat → Prop} {M : Ma} {x y : Nf} (w : World) (hx : MaAt X w M x) (hy : MaAt Y w M y) (he : M.es.length ≤ 100000000) (hr : M.rs.length ≤ 100000000) : Calls Try.prog 19 #[x.val, y.val] w fun e w' => e = .returned (.bool true) ∧ Below w.heap.size w w' := by
  have kk : Below w.heap.size w ((w.alloc (.cells #[.int .i64 x.S, .slice x.ea x.en x.ec, .slice x.ra x.rn x.rc] 38)).alloc (.cells #[.int .i64 y.S, .slice y.ea y.en y.ec, .slice y.ra y.rn y.rc] 38)) := ((Below.refl _ _).alloc (Nat.le_refl _) _).alloc (by simp) _
  have HNX : Hid (NFB ((w.alloc (.cells #[.int .i64 x.S, .slice x.ea x.en x.ec, .slice x.ra x.rn x.rc] 38)).alloc (.cells #[.int .i64 y.S, .slice y.ea y.en y.ec, .slice y.ra y.rn y.rc] 38)) w.heap.size x) := (nfb_new w x).later ((Below.refl _ _).alloc (Nat.le_refl _) _)
  have HNY : Hid (NFB ((w.alloc (.cells #[.int .i64 x.S, .slice x.ea x.en x.ec, .slice x.ra x.rn x.rc] 38)).alloc (.cells #[.int .i64 y.S, .slice y.ea y.en y.ec, .slice y.ra y.rn y.rc] 38)) (w.heap.size + 1) y) := by
    have h1 := nfb_new (w.alloc (.cells #[.int .i64 x.S, .slice x.ea x.en x.ec, .slice x.ra x.rn x.rc] 38)) y
    rw [show (w.alloc (.cells #[.int .i64 x.S, .slice x.ea x.en x.ec, .slice x.ra x.rn x.rc] 38)).heap.size = w.heap.size + 1 by simp] at h1
    exact h1
  have HB : Hid (Below w.heap.size w ((w.alloc (.cells #[.int .i64 x.S, .slice x.ea x.en x.ec, .slice x.ra x.rn x.rc] 38)).alloc (.cells #[.int .i64 y.S, .slice y.ea y.en y.ec, .slice y.ra y.rn y.rc] 38))) := kk
  obtain ⟨w2, hw2⟩ : ∃ w2, ((w.alloc (.cells #[.int .i64 x.S, .slice x.ea x.en x.ec, .slice x.ra x.rn x.rc] 38)).alloc (.cells #[.int .i64 y.S, .slice y.ea y.en y.ec, .slice y.ra y.rn y.rc] 38)) = w2 := ⟨_, rfl⟩
  rw [hw2] at HNX HNY HB
  obtain ⟨A, hA⟩ : ∃ A, w.heap.size = A := ⟨_, rfl⟩
  obtain ⟨C, hC⟩ : ∃ C, w.heap.size + 1 = C := ⟨_, rfl⟩
  rw [hA] at HNX
  rw [hC] at HNY
  have HW2 : Hid (((w.alloc (.cells #[.int .i64 x.S, .slice x.ea x.en x.ec, .slice x.ra x.rn x.rc] 38)).alloc (.cells #[.int .i64 y.S, .slice y.ea y.en y.ec, .slice y.ra y.rn y.rc] 38)) = w2) := hw2
  have HAA : Hid (w.heap.size = A) := hA
  have HCC : Hid (w.heap.size + 1 = C) := hC
  have HX : Hid (MaAt X w M x) := hx
  have HY : Hid (MaAt Y w M y) := hy
  clear hw2 hA hC kk hx hy
  obtain ⟨xS, xa, xn, xc, xra, xrn, xrc⟩ := x
  obtain ⟨yS, ya, yn, yc, yra, yrn, yrc⟩ := y
  have e1 : xS = M.S := HX.out.s
  have e2 : yS = M.S := HY.out.s
  have e3 : xn = M.es.length := HX.out.n
  have e4 : yn = M.es.length := HY.out.n
  have e5 : xrn = M.rs.length := HX.out.r
  have e6 : yrn = M.rs.length := HY.out.r
  subst e1 e2 e3 e4 e5 e6
  obtain ⟨n, hn⟩ : ∃ n, M.es.length = n := ⟨_, rfl⟩
  obtain ⟨rn, hrn⟩ : ∃ rn, M.rs.length = rn := ⟨_, rfl⟩
  have HE : Hid (EAt X w xa M.es ∧ EAt Y w ya M.es) := ⟨HX.out.e, HY.out.e⟩
  have HU : Hid (UAt X w xra M.rs ∧ UAt Y w yra M.rs) := ⟨HX.out.u, HY.out.u⟩
  have HN : Hid (M.es.length = n ∧ M.rs.length = rn) := ⟨hn, hrn⟩
  rw [hn] at HNX HNY HW2 he
  rw [hrn] at HNX HNY HW2 hr
  unfold Nf.val
  simp only at HW2 ⊢
  rw [hn, hrn]
  clear hn hrn HX HY
  obtain ⟨S, hS⟩ : ∃ S, M.S = S := ⟨_, rfl⟩
  rw [hS] at HNX HNY HW2 ⊢
  clear hS
  go_enter Try.func19, Try.ntmps19
  go_upto_region 1 with fail
  rw [HW2.out, HCC.out, HAA.out]
  clear HW2
  obtain ⟨x0, x1, x2⟩ := HNX.out.cells
  obtain ⟨y0, y1, y2⟩ := HNY.out.cells
  simp only at x0 x1 x2 y0 y1 y2
  go_wp2_with fail
  clear x0 x1 x2 y0 y1 y2
  go_loopw [5] (fun i u => ∃ j : Nat, i = .int .i64 (j : Nat) ∧ j ≤ n ∧ Hid (Below w2.heap.size w2 u)) (fun i _ => n - (intOf i).toNat)
  case atStart => exact ⟨0, rfl, Nat.zero_le _, Below.refl _ _⟩
  case round =>
    obtain ⟨j, rfl, hjn, HBj⟩ := hrel
    obtain ⟨x0, x1, x2⟩ := (HNX.out.later HBj.out).cells
    obtain ⟨y0, y1, y2⟩ := (HNY.out.later HBj.out).cells
    simp only at x0 x1 x2 y0 y1 y2
    by_cases hlt : j < n
    · have hlt' : (j : Int) < (n : Int) := by omega
      obtain ⟨e, hee⟩ : ∃ e, M.es[j]? = some e := ⟨_, List.getElem?_eq_getElem (by rw [HN.out.1]; exact hlt)⟩
      have HBw : Hid (Below w.heap.size w wr) := below_step HB.out HBj.out
      have HE2 := HE.out
      obtain ⟨b, off, rfl, p0, p1, p2, p3, p4, p5, p6⟩ := (HE2.1.keep (w' := wr) (fun _ h _ => h) (fun k _ hk => HBw.out.block k hk)).nth hee
      obtain ⟨b', off', rfl, q0, q1, q2, q3, q4, q5, q6⟩ := (HE2.2.keep (w' := wr) (fun _ h _ => h) (fun k _ hk => HBw.out.block k hk)).nth hee
      have heq : ∀ u : World, (Op.equalIn 10000 57 (.agg #[.int .i64 e.k, .int .i64 e.f, .int .i64 e.t, .int .u64 (Oct.word e.s 0 : Nat), .int .u64 (Oct.word e.s 1 : Nat), .int .u64 (Oct.word e.s 2 : Nat), .int .u64 (Oct.word e.s 3 : Nat)]) (.agg #[.int .i64 e.k, .int .i64 e.f, .int .i64 e.t, .int .u64 (Oct.word e.s 0 : Nat), .int .u64 (Oct.word e.s 1 : Nat), .int .u64 (Oct.word e.s 2 : Nat), .int .u64 (Oct.word e.s 3 : Nat)])).run Try.prog u = .ok true u := fun u => eq7_same _ _ _ _ _ _ _ u
      have HBd : Hid (Below w2.heap.size w2 wr.drew) := HBj.out.drew
      clear hee HE2
      go_upto_region 6 with fail
      go_region
      all_goals
        go_wp2
        go_roundw
        case rel => exact ⟨j + 1, by go_num, by omega, HBd⟩
        case measure => simp [intOf]; omega
    · have hlt' : ¬ (j : Int) < (n : Int) := by omega
      go_wp2_with fail
      clear x0 x1 x2 y0 y1 y2 hlt hlt' hjn
      obtain ⟨w3, hw3⟩ : ∃ w3 : World, w3 = wr := ⟨_, rfl⟩
      subst hw3
      go_loopw [6] (fun i u => ∃ j : Nat, i = .int .i64 (j : Nat) ∧ j ≤ rn ∧ Hid (Below w2.heap.size w2 u)) (fun i _ => rn - (intOf i).toNat)
      case atStart => exact ⟨0, rfl, Nat.zero_le _, HBj⟩
      case round =>
        clear HBj
        obtain ⟨j, rfl, hjn, HBj⟩ := hrel
        obtain ⟨x0, x1, x2⟩ := (HNX.out.later HBj.out).cells
        obtain ⟨y0, y1, y2⟩ := (HNY.out.later HBj.out).cells
        simp only at x0 x1 x2 y0 y1 y2
        by_cases hlt : j < rn
        · have hlt' : (j : Int) < (rn : Int) := by omega
          obtain ⟨e, hee⟩ : ∃ e, M.rs[j]? = some e := ⟨_, List.getElem?_eq_getElem (by rw [HN.out.2]; exact hlt)⟩
          have HBw : Hid (Below w.heap.size w wr) := below_step HB.out HBj.out
          have HU2 := HU.out
          obtain ⟨b, off, rfl, p0⟩ := (HU2.1.keep (w' := wr) (fun _ h _ => h) (fun k _ hk => HBw.out.block k hk)).nth hee
          obtain ⟨b', off', rfl, q0⟩ := (HU2.2.keep (w' := wr) (fun _ h _ => h) (fun k _ hk => HBw.out.block k hk)).nth hee
          have HBd : Hid (Below w2.heap.size w2 wr.drew) := HBj.out.drew
          clear hee HU2
          go_upto_region 11 with fail
          go_region
          all_goals
            go_wp2
            go_roundw
            case rel => exact ⟨j + 1, by go_num, by omega, HBd⟩
            case measure => simp [intOf]; omega
        · have hlt' : ¬ (j : Int) < (rn : Int) := by omega
          have HBw : Hid (Below w.heap.size w wr) := below_step HB.out HBj.out
          go_wp2
          go_ret
          exact ⟨rfl, HBw.out⟩
end Go.Proofs.Ytjmbimgofceanaa

/- The union of machines: plain; a list of machines in memory; the union under way. -/
namespace Go.Proofs.Ytjmbimgofceanaa
open Go.RowKit

def shiftE (a : Int) (e : Eg) : Eg := ⟨e.k, e.f + a, e.t + a, e.s⟩
def addM (o M : Ma) : Ma := ⟨o.S + M.S, o.es ++ [⟨1, 0, o.S, Oct.none⟩] ++ M.es.map (shiftE o.S), o.rs ++ M.rs⟩
def unions : List Ma → Ma → Ma
  | [], o => o
  | M :: Ms, o => unions Ms (addM o M)
def unionOf (Ms : List Ma) : Ma × Nat := if Ms.all rightOf then (unions Ms ⟨1, [], [0]⟩, 0) else (zeroMa, 70)
theorem unions_le : ∀ (Ms : List Ma) (o : Ma), o.es.length ≤ (unions Ms o).es.length ∧ o.rs.length ≤ (unions Ms o).rs.length
  | [], _ => ⟨Nat.le_refl _, Nat.le_refl _⟩
  | M :: Ms, o => by
    have h := unions_le Ms (addM o M)
    rw [unions]
    simp only [addM, List.length_append, List.length_cons, List.length_nil, List.length_map] at h
    simp only [addM] at h ⊢
    omega
theorem unions_has : ∀ (Ms : List Ma) (o : Ma), ∀ M ∈ Ms, M.es.length ≤ (unions Ms o).es.length ∧ M.rs.length ≤ (unions Ms o).rs.length
  | [], _, M, h => by cases h
  | M' :: Ms, o, M, h => by
    rw [unions]
    rcases List.mem_cons.1 h with rfl | h
    · have h1 := unions_le Ms (addM o M)
      simp only [addM, List.length_append, List.length_cons, List.length_nil, List.length_map] at h1
      simp only [addM] at h1 ⊢
      omega
    · exact unions_has Ms (addM o M') M h
theorem unions_step {Ms : List Ma} {i : Nat} {M : Ma} (h : Ms[i]? = some M) (o : Ma) : unions (Ms.drop i) o = unions (Ms.drop (i + 1)) (addM o M) := by
  have hlt := (List.getElem?_eq_some_iff.1 h).1
  rw [List.drop_eq_getElem_cons hlt, (List.getElem?_eq_some_iff.1 h).2, unions]
theorem right_parts {M : Ma} (h : rightOf M = true) : 1 ≤ M.S ∧ (M.rs.length : Int) = M.S ∧ ∀ e ∈ M.es, 0 ≤ e.f ∧ e.f < M.S ∧ 0 ≤ e.t ∧ e.t < M.S := by
  unfold rightOf at h
  simp only [Bool.and_eq_true, decide_eq_true_eq, List.all_eq_true] at h
  refine ⟨h.1.1, h.1.2, fun e he => ?_⟩
  have := h.2 e he
  unfold okE at this
  simp at this
  omega
/-! ### lists of machines in memory -/
def flatM (xs : List Nf) : List Value := xs.flatMap Nf.cells
theorem flatM_at {xs : List Nf} {i : Nat} {x : Nf} (h : xs[i]? = some x) {m : Nat} (hm : m < 3) : (flatM xs)[3 * i + m]? = x.cells[m]? := by
  induction xs generalizing i with
  | nil => simp at h
  | cons y r ih =>
    have hf : flatM (y :: r) = y.cells ++ flatM r := by simp [flatM]
    have hy : y.cells.length = 3 := rfl
    rw [hf]
    cases i with
    | zero =>
      simp at h
      subst h
      rw [List.getElem?_append_left (by omega)]
      simp
    | succ i =>
      rw [List.getElem?_append_right (by omega), hy, show 3 * (i + 1) + m - 3 = 3 * i + m by omega]
      exact ih (by simpa using h)
def LAt (w : World) (a : Option Addr) (xs : List Nf) : Prop := xs = [] ∨ ∃ b off, a = some ⟨b, off, none⟩ ∧ ∀ j v, (flatM xs)[j]? = some v → w.cell? ⟨b, off + j, none⟩ = some v
theorem LAt.nth {w : World} {a : Option Addr} {xs : List Nf} (h : LAt w a xs) {i : Nat} {x : Nf} (hx : xs[i]? = some x) : ∃ b off, a = some ⟨b, off, none⟩ ∧ w.cell? ⟨b, off + i * 3, none⟩ = some (.int .i64 x.S) ∧ w.cell? ⟨b, off + i * 3 + 1, none⟩ = some (.slice x.ea x.en x.ec) ∧ w.cell? ⟨b, off + i * 3 + 2, none⟩ = some (.slice x.ra x.rn x.rc) := by
  rcases h with h | ⟨b, off, ha, hc⟩
  · subst h; simp at hx
  · rw [Nat.mul_comm i 3]
    refine ⟨b, off, ha, ?_, ?_, ?_⟩
    · exact hc _ _ (flatM_at hx (m := 0) (by decide))
    · rw [Nat.add_assoc]; exact hc _ _ (flatM_at hx (m := 1) (by decide))
    · rw [Nat.add_assoc]; exact hc _ _ (flatM_at hx (m := 2) (by decide))
theorem LAt.later {w w' : World} {a : Option Addr} {xs : List Nf} (h : LAt w a xs) (hb : Below w.heap.size w w') : LAt w' a xs := by
  rcases h with h | ⟨b, off, rfl, hc⟩
  · exact Or.inl h
  · refine Or.inr ⟨b, off, rfl, fun j v hj => ?_⟩
    have h1 := hc j v hj
    exact (World.cell?_of_block (a := ⟨b, off + j, none⟩) (hb.block b (lt_of_cell h1))).trans h1
/-- A LIST OF MACHINES IN MEMORY. -/
structure ListAt (w : World) (a : Option Addr) (Ms : List Ma) (xs : List Nf) : Prop where
  at_ : LAt w a xs
  len : xs.length = Ms.length
  ma : ∀ (i : Nat) (M : Ma) (x : Nf), Ms[i]? = some M → xs[i]? = some x → MaAt (fun _ => True) w M x
theorem ListAt.later {w w' : World} {a : Option Addr} {Ms : List Ma} {xs : List Nf} (h : ListAt w a Ms xs) (hb : Below w.heap.size w w') : ListAt w' a Ms xs :=
  ⟨h.at_.later hb, h.len, fun i M x hM hx => (h.ma i M x hM hx).later hb⟩
/-! ### appends -/
theorem wpList_append_edge {w : World} {ops : Array Oper} {rest : List Oper} {o : Oper} {a : Act} {Q : Exit → Act → World → Prop} (hgd : o.guard = none) (s y : Operand)
    (ho : o.op = .call { callee := .builtin .append, args := #[s, y], argTypes := #[35, 35] })
    (base n : Nat) (V : Value) (es : List Eg) (hs : a.eval s = V) (hlen : es.length = n) (hn : RowE w base V es) (ad : Addr) (cap : Nat) (e : Eg) (hy : a.eval y = .slice (some ad) 1 cap) (hc : ∀ j v, e.cells[j]? = some v → w.cell? (ad.add j) = some v) (hl : n ≤ 20000000) (hb : base ≤ w.heap.size)
    (h : ∀ g cap' w', RowE w' base (.slice (some ⟨g, 0, none⟩) (n + 1) cap') (es ++ [e]) → w.grownBy w' V.ownBlock → wpList Try.prog ops Q rest (a.put o.dst (.slice (some ⟨g, 0, none⟩) (n + 1) cap')) w') : wpList Try.prog ops Q (o :: rest) a w := by
  refine wpList_plain hgd fun K hK => ?_
  subst hlen
  obtain ⟨i0, hi, hz0, hz1, hz2⟩ := info_parts infoE
  obtain ⟨g, cap', w', hr, ho2, hg, hgg, hlt⟩ := run_append_lies (P := Try.prog) w 35 o.type base 57 i0 _ 7 56 Try.underlying35 hi hz0 hz1 hz2 rfl (by decide) V es.length _ hn ad 1 cap e.cells rfl hc
    (by have := flatE_one [e]; simpa [flatE] using this) (by decide) (by simp only [maxLen]; omega) (by omega) hb w.heap.size rfl
  unfold Oper.wp execOp
  simp only [ho, resolve, invoke, builtin, Sem.run_bind, Sem.run_pure, Result.andThen_ok, List.map_toArray, List.map_cons, List.map_nil, hs, hy, hr]
  exact hK _ _ (h g cap' w' (rowE_snoc rfl ho2) hg)
theorem wpList_append_words {w : World} {ops : Array Oper} {rest : List Oper} {o : Oper} {a : Act} {Q : Exit → Act → World → Prop} (hgd : o.guard = none) (s y : Operand)
    (ho : o.op = .call { callee := .builtin .append, args := #[s, y], argTypes := #[36, 36] })
    (base n m : Nat) (V : Value) (rs ts : List Nat) (hs : a.eval s = V) (hlen : rs.length = n) (hn : RowU w base V rs) (b off : Nat) (cap : Nat) (hy : a.eval y = .slice (some ⟨b, off, none⟩) m cap) (hm : ts.length = m) (hm0 : 0 < m) (hc : ∀ j x, ts[j]? = some x → w.cell? ⟨b, off + j, none⟩ = some (.int .u32 (x : Nat))) (hl : n + m ≤ 20000000) (hb : base ≤ w.heap.size)
    (h : ∀ g cap' w', RowU w' base (.slice (some ⟨g, 0, none⟩) (n + m) cap') (rs ++ ts) → w.grownBy w' V.ownBlock → wpList Try.prog ops Q rest (a.put o.dst (.slice (some ⟨g, 0, none⟩) (n + m) cap')) w') : wpList Try.prog ops Q (o :: rest) a w := by
  refine wpList_plain hgd fun K hK => ?_
  subst hlen hm
  obtain ⟨i0, hi, hz0, hz1, hz2⟩ := info_parts infoU
  obtain ⟨g, cap', w', hr, ho2, hg, hgg, hlt⟩ := run_append_lies (P := Try.prog) w 36 o.type base 44 i0 _ 1 4 Try.underlying36 hi hz0 hz1 hz2 rfl (by decide) V rs.length _ hn ⟨b, off, none⟩ ts.length cap (wds ts) (by rw [wds_length, Nat.mul_one])
    (fun j v hj => by
      unfold wds at hj
      rw [List.getElem?_map] at hj
      cases hx : ts[j]? with
      | none => rw [hx] at hj; cases hj
      | some x =>
        rw [hx] at hj
        cases hj
        rw [Go.WideShapes.add_plain]
        exact hc j x hx) (fun v hv => by
      unfold wds at hv
      obtain ⟨x, _, rfl⟩ := List.mem_map.1 hv
      rfl) hm0 (by simp only [maxLen]; omega) (by omega) hb w.heap.size rfl
  unfold Oper.wp execOp
  simp only [ho, resolve, invoke, builtin, Sem.run_bind, Sem.run_pure, Result.andThen_ok, List.map_toArray, List.map_cons, List.map_nil, hs, hy, hr]
  refine hK _ _ (h g cap' w' ?_ hg)
  unfold RowU
  rw [List.length_append]
  have e : wds (rs ++ ts) = wds rs ++ wds ts := by simp [wds]
  rw [e]
  exact ho2
/-! ### the union under way -/
/-- THE STATE of Union: the machine so far, in block O; the answer's block R. -/
structure Un (w : World) (O R : Nat) (u : World) (x : Nf) (o : Ma) : Prop where
  nf : NFB u O x
  res : NFB u R ⟨0, none, 0, 0, none, 0, 0⟩
  s : x.S = o.S
  e : RowE u w.heap.size (.slice x.ea x.en x.ec) o.es
  r : RowU u w.heap.size (.slice x.ra x.rn x.rc) o.rs
  low : Below w.heap.size w u
  hO : w.heap.size ≤ O
  hR : w.heap.size ≤ R
  ne : R ≠ O
section
variable {w : World} {O R : Nat} {u u' : World} {x : Nf} {o : Ma}
theorem Un.later (h : Un w O R u x o) (hb : Below u.heap.size u u') : Un w O R u' x o :=
  ⟨h.nf.later hb, h.res.later hb, h.s, h.e.later hb, h.r.later hb, below_step h.low hb, h.hO, h.hR, h.ne⟩
theorem Un.en (h : Un w O R u x o) : x.en = o.es.length := h.e.at.1
theorem Un.rn (h : Un w O R u x o) : x.rn = o.rs.length := h.r.at.1
/-- the edges gone on in memory, not yet laid down -/
theorem Un.edge (h : Un w O R u x o) {V : Value} {e : Eg} {g cap : Nat} (hV : V = .slice (some ⟨g, 0, none⟩) (x.en + 1) cap) (hr : RowE u' w.heap.size V (o.es ++ [e])) (hg : u.grownBy u' (Value.slice x.ea x.en x.ec).ownBlock) :
    Un w O R (u'.setCell ⟨O, 1, none⟩ V) ⟨x.S, some ⟨g, 0, none⟩, x.en + 1, cap, x.ra, x.rn, x.rc⟩ ⟨o.S, o.es ++ [e], o.rs⟩ ∧ (∃ v, u'.cell? ⟨O, 1, none⟩ = some v) ∧ u'.frozen? ⟨O, 1, none⟩ = false ∧ ∀ (A : Nat) (y : Nf), NFB u A y → A ≠ O → NFB (u'.setCell ⟨O, 1, none⟩ V) A y := by
  subst hV
  have hown := h.e.ty
  have hst : ∀ {t : TypeId} {b : Nat}, TyB u t b → t ≠ 57 → u'.heap[b]? = u.heap[b]? := fun {t b} hb ht => by
    obtain ⟨c, z, hc⟩ := hb
    exact hg.block b (Array.getElem?_eq_some_iff.1 hc).1 (fun e => ht (TyB.ne ⟨c, z, hc⟩ (hown b e.symm).2))
  have h1 : u'.heap[O]? = _ := (hst h.nf.ty (by decide)).trans h.nf
  have h2 : NFB u' R _ := (hst h.res.ty (by decide)).trans h.res
  refine ⟨⟨heap_set h1 1 _, (Below.heap_setCell u' ⟨O, 1, none⟩ _ R h.ne).trans h2, h.s, hr.set (t := 38) ⟨_, _, h1⟩ (by decide) _ _, ?_, ?_, h.hO, h.hR, h.ne⟩, ⟨.slice x.ea x.en x.ec, by simp [World.cell?, h1]⟩, by simp [World.frozen?, h1], fun A y hA hne => (Below.heap_setCell u' ⟨O, 1, none⟩ _ A hne).trans ((hst hA.ty (by decide)).trans hA)⟩
  · exact (h.r.keep (w' := u') (fun b _ _ hb => hst hb (by decide))).set (t := 38) ⟨_, _, h1⟩ (by decide) _ _
  · refine Below.setCell (p := ⟨O, 1, none⟩) ⟨hg.os.trans h.low.os, hg.tape.trans h.low.tape, hg.output.trans h.low.output, Nat.le_trans h.low.size hg.size, fun k hk => (hg.block k (Nat.lt_of_lt_of_le hk h.low.size) (fun e => ?_)).trans (h.low.block k hk)⟩ h.hO _
    have := (hown k e.symm).1
    omega
theorem Un.words (h : Un w O R u x o) {V : Value} {ts : List Nat} {g n cap : Nat} (hV : V = .slice (some ⟨g, 0, none⟩) n cap) (hr : RowU u' w.heap.size V (o.rs ++ ts)) (hg : u.grownBy u' (Value.slice x.ra x.rn x.rc).ownBlock) :
    Un w O R (u'.setCell ⟨O, 2, none⟩ V) ⟨x.S, x.ea, x.en, x.ec, some ⟨g, 0, none⟩, n, cap⟩ ⟨o.S, o.es, o.rs ++ ts⟩ ∧ (∃ v, u'.cell? ⟨O, 2, none⟩ = some v) ∧ u'.frozen? ⟨O, 2, none⟩ = false ∧ ∀ (A : Nat) (y : Nf), NFB u A y → A ≠ O → NFB (u'.setCell ⟨O, 2, none⟩ V) A y := by
  subst hV
  have hown := h.r.ty
  have hst : ∀ {t : TypeId} {b : Nat}, TyB u t b → t ≠ 44 → u'.heap[b]? = u.heap[b]? := fun {t b} hb ht => by
    obtain ⟨c, z, hc⟩ := hb
    exact hg.block b (Array.getElem?_eq_some_iff.1 hc).1 (fun e => ht (TyB.ne ⟨c, z, hc⟩ (hown b e.symm).2))
  have h1 : u'.heap[O]? = _ := (hst h.nf.ty (by decide)).trans h.nf
  have h2 : NFB u' R _ := (hst h.res.ty (by decide)).trans h.res
  refine ⟨⟨heap_set h1 2 _, (Below.heap_setCell u' ⟨O, 2, none⟩ _ R h.ne).trans h2, h.s, ?_, hr.set (t := 38) ⟨_, _, h1⟩ (by decide) _ _, ?_, h.hO, h.hR, h.ne⟩, ⟨.slice x.ra x.rn x.rc, by simp [World.cell?, h1]⟩, by simp [World.frozen?, h1], fun A y hA hne => (Below.heap_setCell u' ⟨O, 2, none⟩ _ A hne).trans ((hst hA.ty (by decide)).trans hA)⟩
  · exact (h.e.keep (w' := u') (fun b _ _ hb => hst hb (by decide))).set (t := 38) ⟨_, _, h1⟩ (by decide) _ _
  · refine Below.setCell (p := ⟨O, 2, none⟩) ⟨hg.os.trans h.low.os, hg.tape.trans h.low.tape, hg.output.trans h.low.output, Nat.le_trans h.low.size hg.size, fun k hk => (hg.block k (Nat.lt_of_lt_of_le hk h.low.size) (fun e => ?_)).trans (h.low.block k hk)⟩ h.hO _
    have := (hown k e.symm).1
    omega
theorem Un.states (h : Un w O R u x o) (S : Int) : Un w O R (u.setCell ⟨O, 0, none⟩ (.int .i64 S)) ⟨S, x.ea, x.en, x.ec, x.ra, x.rn, x.rc⟩ ⟨S, o.es, o.rs⟩ :=
  ⟨heap_set h.nf 0 _, (Below.heap_setCell u ⟨O, 0, none⟩ _ R h.ne).trans h.res, rfl, h.e.set (t := 38) h.nf.ty (by decide) _ _, h.r.set (t := 38) h.nf.ty (by decide) _ _, h.low.setCell (p := ⟨O, 0, none⟩) h.hO _, h.hO, h.hR, h.ne⟩
end
end Go.Proofs.Ytjmbimgofceanaa

