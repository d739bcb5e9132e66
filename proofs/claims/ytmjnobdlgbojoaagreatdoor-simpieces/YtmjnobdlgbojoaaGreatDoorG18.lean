
import Derived.Test.YtmjnobdlgbojoaaGreatDoorG17
import Derived.Laws.StructEq
import Derived.Test.YtmjnobdlgbojoaaGreatDoorG01
import Derived.Test.YtmjnobdlgbojoaaGreatDoorG08
namespace Go.Proofs.YtmjnobdlgbojoaaGreatDoor
open Go.RowKit
def wds (rs : List Nat) : List Value := rs.map fun x => Value.int .u32 (x : Nat)
theorem wds_length (rs : List Nat) : (wds rs).length = rs.length := List.length_map _
def RowU (w : World) (base : Nat) (V : Value) (rs : List Nat) : Prop := w.ownsRow base 44 1 V rs.length (wds rs)
theorem infoU : (Tryz.prog.info? 44).map (fun i => (i.zero, i.size, i.bytes)) = some (some (.int .u32 0), 1, 4) := by kernel_rfl
section
variable {w w' : World} {base : Nat} {V : Value} {rs : List Nat}
theorem RowU.ty (h : RowU w base V rs) : ∀ b, V.ownBlock = some b → base ≤ b ∧ TyB w 44 b := by
  intro b hb
  rcases h.2 with ⟨rfl, _⟩ | ⟨g, cap, cur, rfl, hbg, hg, _⟩
  · simp [Value.ownBlock] at hb
  · simp [Value.ownBlock] at hb
    subst hb
    exact ⟨hbg, ⟨_, _, hg⟩⟩
theorem RowU.keep (h : RowU w base V rs) (hk : ∀ b, base ≤ b → b < w.heap.size → TyB w 44 b → w'.heap[b]? = w.heap[b]?) : RowU w' base V rs := by
  refine ⟨h.1, ?_⟩
  rcases h.2 with h6 | ⟨g, cap, cur, rfl, hBg, hg, rest⟩
  · exact Or.inl h6
  · exact Or.inr ⟨g, cap, cur, rfl, hBg, (hk g hBg (Array.getElem?_eq_some_iff.1 hg).1 ⟨_, _, hg⟩).trans hg, rest⟩
theorem RowU.later (h : RowU w base V rs) (hb : Below w.heap.size w w') : RowU w' base V rs := h.keep (fun b _ hlt _ => hb.block b hlt)
theorem RowU.set (h : RowU w base V rs) {A : Nat} {t : TypeId} (hA : TyB w t A) (ht : t ≠ 44) (j : Nat) (v : Value) : RowU (w.setCell ⟨A, j, none⟩ v) base V rs :=
  h.keep (fun b _ _ hb => Below.heap_setCell w ⟨A, j, none⟩ v b (fun e => by have e : b = A := e; subst e; exact ht (TyB.ne hA hb)))
end
theorem RowU.at {w : World} {base : Nat} {a : Option Addr} {n c : Nat} {rs : List Nat} (h : RowU w base (.slice a n c) rs) : n = rs.length ∧ UAt (fun b => base ≤ b) w a rs := by
  rcases h.2 with ⟨hv, hn⟩ | ⟨g, cap, cur, hv, hbg, hg, h1, h2, h3, h4⟩
  · cases hv
    exact ⟨hn.symm, Or.inl (List.length_eq_zero_iff.1 hn)⟩
  · cases hv
    refine ⟨rfl, Or.inr ⟨g, 0, rfl, hbg, fun j x hj => ?_⟩⟩
    have hlt := (List.getElem?_eq_some_iff.1 hj).1
    have e : (wds rs)[j]? = some (.int .u32 (x : Nat)) := by unfold wds; rw [List.getElem?_map, hj]; rfl
    rw [← h4, List.getElem?_take_of_lt (by omega)] at e
    simp only [World.cell?, hg, Nat.zero_add]
    simpa using e
theorem RowU.at2 {w : World} {base : Nat} {a : Option Addr} {n c : Nat} {rs : List Nat} (h : RowU w base (.slice a n c) rs) : UAt (fun b => base ≤ b ∧ TyB w 44 b) w a rs := by
  rcases h.at.2 with h1 | ⟨b, off, ha, hb, hc⟩
  · exact Or.inl h1
  · subst ha
    by_cases he : rs = []
    · exact Or.inl he
    · refine Or.inr ⟨b, off, rfl, ⟨hb, ?_⟩, hc⟩
      rcases h.2 with ⟨hv, _⟩ | ⟨g, cap, cur, hv, _, hg, _⟩
      · cases hv
      · cases hv
        exact ⟨_, _, hg⟩
theorem RowU.cell {w : World} {base g n c : Nat} {rs : List Nat} (h : RowU w base (.slice (some ⟨g, 0, none⟩) n c) rs) {i x : Nat} (hx : rs[i]? = some x) : w.cell? ⟨g, i, none⟩ = some (.int .u32 (x : Nat)) ∧ w.frozen? ⟨g, i, none⟩ = false := by
  refine ⟨?_, ?_⟩
  · rcases h.at.2 with h1 | ⟨b, off, hb, _, hc⟩
    · rw [h1] at hx; cases hx
    · rcases h.2 with ⟨hv, _⟩ | ⟨g', cap, cur, hv, hbg, hg, h1, h2, h3, h4⟩
      · cases hv
      · cases hv
        cases hb
        have := hc i x hx
        simpa using this
  · rcases h.2 with ⟨hv, _⟩ | ⟨g', cap, cur, hv, hbg, hg, _⟩
    · cases hv
    · cases hv
      simp [World.frozen?, hg]
theorem RowU.put {w : World} {base g n c : Nat} {rs : List Nat} (h : RowU w base (.slice (some ⟨g, 0, none⟩) n c) rs) (i x : Nat) : RowU (w.setCell ⟨g, i, none⟩ (.int .u32 (x : Nat))) base (.slice (some ⟨g, 0, none⟩) n c) (rs.set i x) := by
  refine ⟨by simp [wds], ?_⟩
  rcases h.2 with ⟨hv, _⟩ | ⟨g', cap, cur, hv, hbg, hg, h1, h2, h3, h4⟩
  · cases hv
  · cases hv
    refine Or.inr ⟨g, c, _, by simp, hbg, heap_set hg i _, by simpa using h1, h2, by simpa using h3, ?_⟩
    rw [Array.toList_setIfInBounds, List.take_set]
    have e : wds (rs.set i x) = (wds rs).set i (.int .u32 (x : Nat)) := by unfold wds; rw [List.map_set]
    rw [e, List.length_set, h4]
theorem madeCells_u32 (n : Nat) : (madeCells (Value.int .u32 0).cells (n * 1)).toList = wds (List.replicate n 0) := by
  apply List.ext_getElem?
  intro k
  simp [madeCells, wds, Value.cells]
  by_cases hk : k < n
  · simp [hk, Nat.mod_one]
  · simp [hk]
theorem wpList_make_u32 {w : World} {ops : Array Oper} {rest : List Oper} {o : Oper} {a : Act} {Q : Exit → Act → World → Prop} (hgd : o.guard = none) (l c : Operand)
    (ho : o.op = Op.makeSlice 35 l c) (base n : Nat) (hb : base ≤ w.heap.size) (hl : a.eval l = .int .i64 (n : Nat)) (hc : a.eval c = .int .i64 (n : Nat)) (hn : n ≤ 1000000)
    (h : ∀ w', RowU w' base (.slice (some ⟨w.heap.size, 0, none⟩) n n) (List.replicate n 0) → Below w.heap.size w w' → wpList Tryz.prog ops Q rest (a.put o.dst (.slice (some ⟨w.heap.size, 0, none⟩) n n)) w') : wpList Tryz.prog ops Q (o :: rest) a w := by
  obtain ⟨i0, hi, hz0, hz1, hz2⟩ := info_parts infoU
  refine wpList_make_full (P := Tryz.prog) w hgd l c 35 ho base 44 i0 (.int .u32 0) 1 Tryz.underlying35 hi hz0 hz1 .i64 .i64 (n : Nat) (n : Nat) n hl hc rfl rfl (by rw [hz2]; omega) (by simp only [maxLen]; omega) hb ?_
  intro w' h1 h2
  rw [madeCells_u32] at h1
  exact h w' (by unfold RowU; rw [List.length_replicate]; exact h1) ((Below.refl _ _).grown h2 (Nat.le_refl _) (fun k hk => by cases hk))
def NFB (w : World) (R : Nat) (x : Nf) : Prop := w.heap[R]? = some (.cells #[.int .i64 x.S, .slice x.ea x.en x.ec, .slice x.ra x.rn x.rc] 37 (0, 0))
section
variable {w w' : World} {R : Nat} {x : Nf}
theorem NFB.lt (h : NFB w R x) : R < w.heap.size := (Array.getElem?_eq_some_iff.1 h).1
theorem NFB.later (h : NFB w R x) (hb : Below w.heap.size w w') : NFB w' R x := (hb.block R h.lt).trans h
theorem NFB.ty (h : NFB w R x) : TyB w 37 R := ⟨_, _, h⟩
theorem NFB.cells (h : NFB w R x) : w.cell? ⟨R, 0, none⟩ = some (.int .i64 x.S) ∧ w.cell? ⟨R, 1, none⟩ = some (.slice x.ea x.en x.ec) ∧ w.cell? ⟨R, 2, none⟩ = some (.slice x.ra x.rn x.rc) := by
  unfold NFB at h
  refine ⟨?_, ?_, ?_⟩ <;> simp [World.cell?, h]
theorem NFB.frozen (h : NFB w R x) (j : Nat) : w.frozen? ⟨R, j, none⟩ = false := by
  unfold NFB at h
  simp [World.frozen?, h]
end
theorem nfb_new (w : World) (x : Nf) : NFB (w.alloc (.cells #[.int .i64 x.S, .slice x.ea x.en x.ec, .slice x.ra x.rn x.rc] 37)) w.heap.size x := heap_alloc_new w _
def put3 (w : World) (R : Nat) (x : Nf) : World := ((w.setCell ⟨R, 0, none⟩ (.int .i64 x.S)).setCell ⟨R, 1, none⟩ (.slice x.ea x.en x.ec)).setCell ⟨R, 2, none⟩ (.slice x.ra x.rn x.rc)
theorem NFB.put3 {w : World} {R : Nat} {y : Nf} (h : NFB w R y) (x : Nf) : NFB (put3 w R x) R x := by
  have e := heap_set (heap_set (heap_set h 0 (.int .i64 x.S)) 1 (.slice x.ea x.en x.ec)) 2 (.slice x.ra x.rn x.rc)
  exact e
theorem heap_put3 (w : World) (R : Nat) (x : Nf) (k : Nat) (h : k ≠ R) : (put3 w R x).heap[k]? = w.heap[k]? := by
  unfold put3
  rw [Below.heap_setCell _ ⟨R, 2, none⟩ _ k h, Below.heap_setCell _ ⟨R, 1, none⟩ _ k h, Below.heap_setCell _ ⟨R, 0, none⟩ _ k h]
theorem below_put3 {w u : World} {b : Nat} (h : Below b w u) {R : Nat} (hR : b ≤ R) (x : Nf) : Below b w (put3 u R x) := ((h.setCell (p := ⟨R, 0, none⟩) hR _).setCell (p := ⟨R, 1, none⟩) hR _).setCell (p := ⟨R, 2, none⟩) hR _
end Go.Proofs.YtmjnobdlgbojoaaGreatDoor


namespace Go.Proofs.YtmjnobdlgbojoaaGreatDoor
open Go.RowKit
theorem EAt.nth {X : Nat → Prop} {w : World} {a : Option Addr} {es : List Eg} (h : EAt X w a es) {i : Nat} {e : Eg} (hx : es[i]? = some e) : ∃ b off, a = some ⟨b, off, none⟩ ∧ w.cell? ⟨b, off + i * 7, none⟩ = some (.int .i64 e.k) ∧ w.cell? ⟨b, off + i * 7 + 1, none⟩ = some (.int .i64 e.f) ∧ w.cell? ⟨b, off + i * 7 + 2, none⟩ = some (.int .i64 e.t) ∧ w.cell? ⟨b, off + i * 7 + 3, none⟩ = some (.int .u64 (Oct.word e.s 0 : Nat)) ∧ w.cell? ⟨b, off + i * 7 + 4, none⟩ = some (.int .u64 (Oct.word e.s 1 : Nat)) ∧ w.cell? ⟨b, off + i * 7 + 5, none⟩ = some (.int .u64 (Oct.word e.s 2 : Nat)) ∧ w.cell? ⟨b, off + i * 7 + 6, none⟩ = some (.int .u64 (Oct.word e.s 3 : Nat)) := by
  rcases h with h | ⟨b, off, ha, _, hc⟩
  · subst h; simp at hx
  · rw [Nat.mul_comm i 7]
    refine ⟨b, off, ha, ?_, ?_, ?_, ?_, ?_, ?_, ?_⟩
    · exact hc _ _ (flatE_at hx (m := 0) (by decide))
    · rw [Nat.add_assoc]; exact hc _ _ (flatE_at hx (m := 1) (by decide))
    · rw [Nat.add_assoc]; exact hc _ _ (flatE_at hx (m := 2) (by decide))
    · rw [Nat.add_assoc]; exact hc _ _ (flatE_at hx (m := 3) (by decide))
    · rw [Nat.add_assoc]; exact hc _ _ (flatE_at hx (m := 4) (by decide))
    · rw [Nat.add_assoc]; exact hc _ _ (flatE_at hx (m := 5) (by decide))
    · rw [Nat.add_assoc]; exact hc _ _ (flatE_at hx (m := 6) (by decide))
theorem UAt.nth {X : Nat → Prop} {w : World} {a : Option Addr} {rs : List Nat} (h : UAt X w a rs) {i x : Nat} (hx : rs[i]? = some x) : ∃ b off, a = some ⟨b, off, none⟩ ∧ w.cell? ⟨b, off + i, none⟩ = some (.int .u32 (x : Nat)) := by
  rcases h with h | ⟨b, off, ha, _, hc⟩
  · subst h; simp at hx
  · exact ⟨b, off, ha, hc i x hx⟩
end Go.Proofs.YtmjnobdlgbojoaaGreatDoor


namespace Go.Proofs.YtmjnobdlgbojoaaGreatDoor
open Go.RowKit
attribute [local go_sem ↓] Go.wp_at_zero Go.wp_at_succ
end Go.Proofs.YtmjnobdlgbojoaaGreatDoor


namespace Go.Proofs.YtmjnobdlgbojoaaGreatDoor
open Go.RowKit
attribute [local go_sem ↓] Go.wp_at_zero Go.wp_at_succ
def okE (S : Int) (e : Eg) : Bool := !(decide (e.k < 1) || decide (4 < e.k) || decide (e.f < 0) || decide (S ≤ e.f) || decide (e.t < 0) || decide (S ≤ e.t) || (!decide (e.k = 2) && !noSet e.s))
def rightOf (M : Ma) : Bool := decide (1 ≤ M.S) && decide ((M.rs.length : Int) = M.S) && M.es.all (okE M.S)
end Go.Proofs.YtmjnobdlgbojoaaGreatDoor


namespace Go.Proofs.YtmjnobdlgbojoaaGreatDoor
open Go.RowKit
def shiftE (a : Int) (e : Eg) : Eg := ⟨e.k, e.f + a, e.t + a, e.s⟩
def addM (o M : Ma) : Ma := ⟨o.S + M.S, o.es ++ [⟨1, 0, o.S, Oct.none⟩] ++ M.es.map (shiftE o.S), o.rs ++ M.rs⟩
def unions : List Ma → Ma → Ma
  | [], o => o
  | M :: Ms, o => unions Ms (addM o M)
def unionOf (Ms : List Ma) : Ma × Nat := if Ms.all rightOf then (unions Ms ⟨1, [], [0]⟩, 0) else (zeroMa, 70)
theorem unions_le : ∀ (Ms : List Ma) (o : Ma), o.es.length ≤ (unions Ms o).es.length ∧ o.rs.length ≤ (unions Ms o).rs.length
  | [], _ => ⟨Nat.le_refl _, Nat.le_refl _⟩
  | M :: Ms, o => by
    have h := unions_le Ms (addM o M)
    rw [unions]
    simp only [addM, List.length_append, List.length_cons, List.length_nil, List.length_map] at h
    simp only [addM] at h ⊢
    omega
theorem unions_has : ∀ (Ms : List Ma) (o : Ma), ∀ M ∈ Ms, M.es.length ≤ (unions Ms o).es.length ∧ M.rs.length ≤ (unions Ms o).rs.length
  | [], _, M, h => by cases h
  | M' :: Ms, o, M, h => by
    rw [unions]
    rcases List.mem_cons.1 h with rfl | h
    · have h1 := unions_le Ms (addM o M)
      simp only [addM, List.length_append, List.length_cons, List.length_nil, List.length_map] at h1
      simp only [addM] at h1 ⊢
      omega
    · exact unions_has Ms (addM o M') M h
theorem unions_step {Ms : List Ma} {i : Nat} {M : Ma} (h : Ms[i]? = some M) (o : Ma) : unions (Ms.drop i) o = unions (Ms.drop (i + 1)) (addM o M) := by
  have hlt := (List.getElem?_eq_some_iff.1 h).1
  rw [List.drop_eq_getElem_cons hlt, (List.getElem?_eq_some_iff.1 h).2, unions]
theorem right_parts {M : Ma} (h : rightOf M = true) : 1 ≤ M.S ∧ (M.rs.length : Int) = M.S ∧ ∀ e ∈ M.es, 0 ≤ e.f ∧ e.f < M.S ∧ 0 ≤ e.t ∧ e.t < M.S := by
  unfold rightOf at h
  simp only [Bool.and_eq_true, decide_eq_true_eq, List.all_eq_true] at h
  refine ⟨h.1.1, h.1.2, fun e he => ?_⟩
  have := h.2 e he
  unfold okE at this
  simp at this
  omega
def flatM (xs : List Nf) : List Value := xs.flatMap Nf.cells
theorem flatM_at {xs : List Nf} {i : Nat} {x : Nf} (h : xs[i]? = some x) {m : Nat} (hm : m < 3) : (flatM xs)[3 * i + m]? = x.cells[m]? := by
  induction xs generalizing i with
  | nil => simp at h
  | cons y r ih =>
    have hf : flatM (y :: r) = y.cells ++ flatM r := by simp [flatM]
    have hy : y.cells.length = 3 := rfl
    rw [hf]
    cases i with
    | zero =>
      simp at h
      subst h
      rw [List.getElem?_append_left (by omega)]
      simp
    | succ i =>
      rw [List.getElem?_append_right (by omega), hy, show 3 * (i + 1) + m - 3 = 3 * i + m by omega]
      exact ih (by simpa using h)
def LAt (w : World) (a : Option Addr) (xs : List Nf) : Prop := xs = [] ∨ ∃ b off, a = some ⟨b, off, none⟩ ∧ ∀ j v, (flatM xs)[j]? = some v → w.cell? ⟨b, off + j, none⟩ = some v
theorem LAt.nth {w : World} {a : Option Addr} {xs : List Nf} (h : LAt w a xs) {i : Nat} {x : Nf} (hx : xs[i]? = some x) : ∃ b off, a = some ⟨b, off, none⟩ ∧ w.cell? ⟨b, off + i * 3, none⟩ = some (.int .i64 x.S) ∧ w.cell? ⟨b, off + i * 3 + 1, none⟩ = some (.slice x.ea x.en x.ec) ∧ w.cell? ⟨b, off + i * 3 + 2, none⟩ = some (.slice x.ra x.rn x.rc) := by
  rcases h with h | ⟨b, off, ha, hc⟩
  · subst h; simp at hx
  · rw [Nat.mul_comm i 3]
    refine ⟨b, off, ha, ?_, ?_, ?_⟩
    · exact hc _ _ (flatM_at hx (m := 0) (by decide))
    · rw [Nat.add_assoc]; exact hc _ _ (flatM_at hx (m := 1) (by decide))
    · rw [Nat.add_assoc]; exact hc _ _ (flatM_at hx (m := 2) (by decide))
theorem LAt.later {w w' : World} {a : Option Addr} {xs : List Nf} (h : LAt w a xs) (hb : Below w.heap.size w w') : LAt w' a xs := by
  rcases h with h | ⟨b, off, rfl, hc⟩
  · exact Or.inl h
  · refine Or.inr ⟨b, off, rfl, fun j v hj => ?_⟩
    have h1 := hc j v hj
    exact (World.cell?_of_block (a := ⟨b, off + j, none⟩) (hb.block b (lt_of_cell h1))).trans h1
structure ListAt (w : World) (a : Option Addr) (Ms : List Ma) (xs : List Nf) : Prop where
  at_ : LAt w a xs
  len : xs.length = Ms.length
  ma : ∀ (i : Nat) (M : Ma) (x : Nf), Ms[i]? = some M → xs[i]? = some x → MaAt (fun _ => True) w M x
theorem ListAt.later {w w' : World} {a : Option Addr} {Ms : List Ma} {xs : List Nf} (h : ListAt w a Ms xs) (hb : Below w.heap.size w w') : ListAt w' a Ms xs :=
  ⟨h.at_.later hb, h.len, fun i M x hM hx => (h.ma i M x hM hx).later hb⟩
theorem wpList_append_edge {w : World} {ops : Array Oper} {rest : List Oper} {o : Oper} {a : Act} {Q : Exit → Act → World → Prop} (hgd : o.guard = none) (s y : Operand)
    (ho : o.op = .call { callee := .builtin .append, args := #[s, y], argTypes := #[34, 34] })
    (base n : Nat) (V : Value) (es : List Eg) (hs : a.eval s = V) (hlen : es.length = n) (hn : RowE w base V es) (ad : Addr) (cap : Nat) (e : Eg) (hy : a.eval y = .slice (some ad) 1 cap) (hc : ∀ j v, e.cells[j]? = some v → w.cell? (ad.add j) = some v) (hl : n ≤ 2513169434900) (hb : base ≤ w.heap.size)
    (h : ∀ g cap' w', RowE w' base (.slice (some ⟨g, 0, none⟩) (n + 1) cap') (es ++ [e]) → w.grownBy w' V.ownBlock → wpList Tryz.prog ops Q rest (a.put o.dst (.slice (some ⟨g, 0, none⟩) (n + 1) cap')) w') : wpList Tryz.prog ops Q (o :: rest) a w := by
  refine wpList_plain hgd fun K hK => ?_
  subst hlen
  obtain ⟨i0, hi, hz0, hz1, hz2⟩ := info_parts infoE
  obtain ⟨g, cap', w', hr, ho2, hg, hgg, hlt⟩ := run_append_lies (P := Tryz.prog) w 34 o.type base 66 i0 _ 7 56 Tryz.underlying34 hi hz0 hz1 hz2 rfl (by decide) V es.length _ hn ad 1 cap e.cells rfl hc
    (by have := flatE_one [e]; simpa [flatE] using this) (by decide) (by simp only [maxLen]; omega) (by omega) hb w.heap.size rfl
  unfold Oper.wp execOp
  simp only [ho, resolve, invoke, builtin, Sem.run_bind, Sem.run_pure, Result.andThen_ok, List.map_toArray, List.map_cons, List.map_nil, hs, hy, hr]
  exact hK _ _ (h g cap' w' (rowE_snoc rfl ho2) hg)
theorem wpList_append_words {w : World} {ops : Array Oper} {rest : List Oper} {o : Oper} {a : Act} {Q : Exit → Act → World → Prop} (hgd : o.guard = none) (s y : Operand)
    (ho : o.op = .call { callee := .builtin .append, args := #[s, y], argTypes := #[35, 35] })
    (base n m : Nat) (V : Value) (rs ts : List Nat) (hs : a.eval s = V) (hlen : rs.length = n) (hn : RowU w base V rs) (b off : Nat) (cap : Nat) (hy : a.eval y = .slice (some ⟨b, off, none⟩) m cap) (hm : ts.length = m) (hm0 : 0 < m) (hc : ∀ j x, ts[j]? = some x → w.cell? ⟨b, off + j, none⟩ = some (.int .u32 (x : Nat))) (hl : n + m ≤ 35184372088832) (hb : base ≤ w.heap.size)
    (h : ∀ g cap' w', RowU w' base (.slice (some ⟨g, 0, none⟩) (n + m) cap') (rs ++ ts) → w.grownBy w' V.ownBlock → wpList Tryz.prog ops Q rest (a.put o.dst (.slice (some ⟨g, 0, none⟩) (n + m) cap')) w') : wpList Tryz.prog ops Q (o :: rest) a w := by
  refine wpList_plain hgd fun K hK => ?_
  subst hlen hm
  obtain ⟨i0, hi, hz0, hz1, hz2⟩ := info_parts infoU
  obtain ⟨g, cap', w', hr, ho2, hg, hgg, hlt⟩ := run_append_lies (P := Tryz.prog) w 35 o.type base 44 i0 _ 1 4 Tryz.underlying35 hi hz0 hz1 hz2 rfl (by decide) V rs.length _ hn ⟨b, off, none⟩ ts.length cap (wds ts) (by rw [wds_length, Nat.mul_one])
    (fun j v hj => by
      unfold wds at hj
      rw [List.getElem?_map] at hj
      cases hx : ts[j]? with
      | none => rw [hx] at hj; cases hj
      | some x =>
        rw [hx] at hj
        cases hj
        rw [Go.WideShapes.add_plain]
        exact hc j x hx) (fun v hv => by
      unfold wds at hv
      obtain ⟨x, _, rfl⟩ := List.mem_map.1 hv
      rfl) hm0 (by simp only [maxLen]; omega) (by omega) hb w.heap.size rfl
  unfold Oper.wp execOp
  simp only [ho, resolve, invoke, builtin, Sem.run_bind, Sem.run_pure, Result.andThen_ok, List.map_toArray, List.map_cons, List.map_nil, hs, hy, hr]
  refine hK _ _ (h g cap' w' ?_ hg)
  unfold RowU
  rw [List.length_append]
  have e : wds (rs ++ ts) = wds rs ++ wds ts := by simp [wds]
  rw [e]
  exact ho2
structure Un (w : World) (O R : Nat) (u : World) (x : Nf) (o : Ma) : Prop where
  nf : NFB u O x
  res : NFB u R ⟨0, none, 0, 0, none, 0, 0⟩
  s : x.S = o.S
  e : RowE u w.heap.size (.slice x.ea x.en x.ec) o.es
  r : RowU u w.heap.size (.slice x.ra x.rn x.rc) o.rs
  low : Below w.heap.size w u
  hO : w.heap.size ≤ O
  hR : w.heap.size ≤ R
  ne : R ≠ O
section
variable {w : World} {O R : Nat} {u u' : World} {x : Nf} {o : Ma}
theorem Un.later (h : Un w O R u x o) (hb : Below u.heap.size u u') : Un w O R u' x o :=
  ⟨h.nf.later hb, h.res.later hb, h.s, h.e.later hb, h.r.later hb, below_step h.low hb, h.hO, h.hR, h.ne⟩
theorem Un.en (h : Un w O R u x o) : x.en = o.es.length := h.e.at.1
theorem Un.rn (h : Un w O R u x o) : x.rn = o.rs.length := h.r.at.1
theorem Un.edge (h : Un w O R u x o) {V : Value} {e : Eg} {g cap : Nat} (hV : V = .slice (some ⟨g, 0, none⟩) (x.en + 1) cap) (hr : RowE u' w.heap.size V (o.es ++ [e])) (hg : u.grownBy u' (Value.slice x.ea x.en x.ec).ownBlock) :
    Un w O R (u'.setCell ⟨O, 1, none⟩ V) ⟨x.S, some ⟨g, 0, none⟩, x.en + 1, cap, x.ra, x.rn, x.rc⟩ ⟨o.S, o.es ++ [e], o.rs⟩ ∧ (∃ v, u'.cell? ⟨O, 1, none⟩ = some v) ∧ u'.frozen? ⟨O, 1, none⟩ = false ∧ ∀ (A : Nat) (y : Nf), NFB u A y → A ≠ O → NFB (u'.setCell ⟨O, 1, none⟩ V) A y := by
  subst hV
  have hown := h.e.ty
  have hst : ∀ {t : TypeId} {b : Nat}, TyB u t b → t ≠ 66 → u'.heap[b]? = u.heap[b]? := fun {t b} hb ht => by
    obtain ⟨c, z, hc⟩ := hb
    exact hg.block b (Array.getElem?_eq_some_iff.1 hc).1 (fun e => ht (TyB.ne ⟨c, z, hc⟩ (hown b e.symm).2))
  have h1 : u'.heap[O]? = _ := (hst h.nf.ty (by decide)).trans h.nf
  have h2 : NFB u' R _ := (hst h.res.ty (by decide)).trans h.res
  refine ⟨⟨heap_set h1 1 _, (Below.heap_setCell u' ⟨O, 1, none⟩ _ R h.ne).trans h2, h.s, hr.set (t := 37) ⟨_, _, h1⟩ (by decide) _ _, ?_, ?_, h.hO, h.hR, h.ne⟩, ⟨.slice x.ea x.en x.ec, by simp [World.cell?, h1]⟩, by simp [World.frozen?, h1], fun A y hA hne => (Below.heap_setCell u' ⟨O, 1, none⟩ _ A hne).trans ((hst hA.ty (by decide)).trans hA)⟩
  · exact (h.r.keep (w' := u') (fun b _ _ hb => hst hb (by decide))).set (t := 37) ⟨_, _, h1⟩ (by decide) _ _
  · refine Below.setCell (p := ⟨O, 1, none⟩) ⟨hg.os.trans h.low.os, hg.tape.trans h.low.tape, hg.output.trans h.low.output, Nat.le_trans h.low.size hg.size, fun k hk => (hg.block k (Nat.lt_of_lt_of_le hk h.low.size) (fun e => ?_)).trans (h.low.block k hk)⟩ h.hO _
    have := (hown k e.symm).1
    omega
theorem Un.words (h : Un w O R u x o) {V : Value} {ts : List Nat} {g n cap : Nat} (hV : V = .slice (some ⟨g, 0, none⟩) n cap) (hr : RowU u' w.heap.size V (o.rs ++ ts)) (hg : u.grownBy u' (Value.slice x.ra x.rn x.rc).ownBlock) :
    Un w O R (u'.setCell ⟨O, 2, none⟩ V) ⟨x.S, x.ea, x.en, x.ec, some ⟨g, 0, none⟩, n, cap⟩ ⟨o.S, o.es, o.rs ++ ts⟩ ∧ (∃ v, u'.cell? ⟨O, 2, none⟩ = some v) ∧ u'.frozen? ⟨O, 2, none⟩ = false ∧ ∀ (A : Nat) (y : Nf), NFB u A y → A ≠ O → NFB (u'.setCell ⟨O, 2, none⟩ V) A y := by
  subst hV
  have hown := h.r.ty
  have hst : ∀ {t : TypeId} {b : Nat}, TyB u t b → t ≠ 44 → u'.heap[b]? = u.heap[b]? := fun {t b} hb ht => by
    obtain ⟨c, z, hc⟩ := hb
    exact hg.block b (Array.getElem?_eq_some_iff.1 hc).1 (fun e => ht (TyB.ne ⟨c, z, hc⟩ (hown b e.symm).2))
  have h1 : u'.heap[O]? = _ := (hst h.nf.ty (by decide)).trans h.nf
  have h2 : NFB u' R _ := (hst h.res.ty (by decide)).trans h.res
  refine ⟨⟨heap_set h1 2 _, (Below.heap_setCell u' ⟨O, 2, none⟩ _ R h.ne).trans h2, h.s, ?_, hr.set (t := 37) ⟨_, _, h1⟩ (by decide) _ _, ?_, h.hO, h.hR, h.ne⟩, ⟨.slice x.ra x.rn x.rc, by simp [World.cell?, h1]⟩, by simp [World.frozen?, h1], fun A y hA hne => (Below.heap_setCell u' ⟨O, 2, none⟩ _ A hne).trans ((hst hA.ty (by decide)).trans hA)⟩
  · exact (h.e.keep (w' := u') (fun b _ _ hb => hst hb (by decide))).set (t := 37) ⟨_, _, h1⟩ (by decide) _ _
  · refine Below.setCell (p := ⟨O, 2, none⟩) ⟨hg.os.trans h.low.os, hg.tape.trans h.low.tape, hg.output.trans h.low.output, Nat.le_trans h.low.size hg.size, fun k hk => (hg.block k (Nat.lt_of_lt_of_le hk h.low.size) (fun e => ?_)).trans (h.low.block k hk)⟩ h.hO _
    have := (hown k e.symm).1
    omega
theorem Un.states (h : Un w O R u x o) (S : Int) : Un w O R (u.setCell ⟨O, 0, none⟩ (.int .i64 S)) ⟨S, x.ea, x.en, x.ec, x.ra, x.rn, x.rc⟩ ⟨S, o.es, o.rs⟩ :=
  ⟨heap_set h.nf 0 _, (Below.heap_setCell u ⟨O, 0, none⟩ _ R h.ne).trans h.res, rfl, h.e.set (t := 37) h.nf.ty (by decide) _ _, h.r.set (t := 37) h.nf.ty (by decide) _ _, h.low.setCell (p := ⟨O, 0, none⟩) h.hO _, h.hO, h.hR, h.ne⟩
end
end Go.Proofs.YtmjnobdlgbojoaaGreatDoor


namespace Go.Proofs.YtmjnobdlgbojoaaGreatDoor
open Go.RowKit
def bls (bs : List Bool) : List Value := bs.map Value.bool
def RowB (w : World) (base : Nat) (V : Value) (bs : List Bool) : Prop := w.ownsRow base 4 1 V bs.length (bls bs)
theorem infoB : (Tryz.prog.info? 4).map (fun i => (i.zero, i.size, i.bytes)) = some (some (.bool false), 1, 1) := by kernel_rfl
section
variable {w w' : World} {base g n c : Nat} {bs : List Bool}
theorem RowB.cell (h : RowB w base (.slice (some ⟨g, 0, none⟩) n c) bs) {i : Nat} {x : Bool} (hx : bs[i]? = some x) : w.cell? ⟨g, i, none⟩ = some (.bool x) ∧ w.frozen? ⟨g, i, none⟩ = false := by
  have hlt := (List.getElem?_eq_some_iff.1 hx).1
  rcases h.2 with ⟨hv, _⟩ | ⟨g', cap, cur, hv, hbg, hg, h1, h2, h3, h4⟩
  · cases hv
  · cases hv
    have e : (bls bs)[i]? = some (.bool x) := by unfold bls; rw [List.getElem?_map, hx]; rfl
    rw [← h4, List.getElem?_take_of_lt (by omega)] at e
    refine ⟨?_, by simp [World.frozen?, hg]⟩
    simp only [World.cell?, hg]
    simpa using e
theorem RowB.put (h : RowB w base (.slice (some ⟨g, 0, none⟩) n c) bs) (i : Nat) (x : Bool) : RowB (w.setCell ⟨g, i, none⟩ (.bool x)) base (.slice (some ⟨g, 0, none⟩) n c) (bs.set i x) := by
  refine ⟨by simp [bls], ?_⟩
  rcases h.2 with ⟨hv, _⟩ | ⟨g', cap, cur, hv, hbg, hg, h1, h2, h3, h4⟩
  · cases hv
  · cases hv
    refine Or.inr ⟨g, c, _, by simp, hbg, heap_set hg i _, by simpa using h1, h2, by simpa using h3, ?_⟩
    rw [Array.toList_setIfInBounds, List.take_set]
    have e : bls (bs.set i x) = (bls bs).set i (.bool x) := by unfold bls; rw [List.map_set]
    rw [e, List.length_set, h4]
theorem RowB.same (h : RowB w base (.slice (some ⟨g, 0, none⟩) n c) bs) (e : w'.heap[g]? = w.heap[g]?) : RowB w' base (.slice (some ⟨g, 0, none⟩) n c) bs := by
  refine ⟨h.1, ?_⟩
  rcases h.2 with ⟨hv, _⟩ | ⟨g', cap, cur, hv, hbg, hg, rest⟩
  · cases hv
  · cases hv
    exact Or.inr ⟨g, c, cur, rfl, hbg, e.trans hg, rest⟩
theorem RowB.lt (h : RowB w base (.slice (some ⟨g, 0, none⟩) n c) bs) : g < w.heap.size ∧ n = bs.length ∧ base ≤ g := by
  rcases h.2 with ⟨hv, _⟩ | ⟨g', cap, cur, hv, hbg, hg, _⟩
  · cases hv
  · cases hv
    exact ⟨(Array.getElem?_eq_some_iff.1 hg).1, rfl, hbg⟩
end
def moves (b e : Bool) (x : Eg) : Bool := decide (x.k = 1) || (decide (x.k = 3) && b) || (decide (x.k = 4) && e)
def at_ (l : List Bool) (i : Int) : Bool := (l[i.toNat]?).getD false
def Closed (es : List Eg) (b e : Bool) (l : List Bool) : Prop := ∀ x ∈ es, moves b e x = true → at_ l x.f = true → at_ l x.t = true
def Sub (l m : List Bool) : Prop := l.length = m.length ∧ ∀ i : Nat, (l[i]?).getD false = true → (m[i]?).getD false = true
structure Clo (es : List Eg) (b e : Bool) (l m : List Bool) : Prop where
  sub : Sub l m
  closed : Closed es b e m
  least : ∀ k, Sub l k → Closed es b e k → Sub m k
theorem Sub.trans {l m k : List Bool} (h : Sub l m) (h2 : Sub m k) : Sub l k := ⟨h.1.trans h2.1, fun i hi => h2.2 i (h.2 i hi)⟩
theorem sub_set (l : List Bool) (i : Nat) : Sub l (l.set i true) := by
  refine ⟨by simp, fun j hj => ?_⟩
  rw [List.getElem?_set]
  split
  · split
    · rfl
    · rename_i h1 h2
      subst h1
      rw [List.getElem?_eq_none (by omega)] at hj
      simp at hj
  · exact hj
theorem set_sub {l k : List Bool} (h : Sub l k) {i : Nat} (hk : (k[i]?).getD false = true) : Sub (l.set i true) k := by
  refine ⟨by simpa using h.1, fun j hj => ?_⟩
  by_cases e : i = j
  · subst e; exact hk
  · rw [List.getElem?_set_ne e] at hj
    exact h.2 j hj
end Go.Proofs.YtmjnobdlgbojoaaGreatDoor


namespace Go.Proofs.YtmjnobdlgbojoaaGreatDoor
open Go.RowKit
attribute [local go_sem ↓] Go.wp_at_zero Go.wp_at_succ
section
variable {w : World} {A g base n c : Nat} {x : Nf} {u u' : World} {cur : List Bool}
end
end Go.Proofs.YtmjnobdlgbojoaaGreatDoor


namespace Go.Proofs.YtmjnobdlgbojoaaGreatDoor
open Go.RowKit
def orFrom : Nat → List Bool → List Nat → Nat
  | r, b :: bs, x :: xs => orFrom (if b then r ||| x else r) bs xs
  | r, _, _ => r
def takesB (b : Nat) (cl : List Bool) (y : Eg) : Bool := decide (y.k = 2) && at_ cl y.f && y.s b
def nexts (b : Nat) (cl : List Bool) : List Eg → List Bool → List Bool
  | [], nx => nx
  | y :: es, nx => nexts b cl es (if takesB b cl y then nx.set y.t.toNat true else nx)
inductive Walks (M : Ma) (S : Nat) (line : ByteArray) : Nat → List Bool → Nat → Nat → Prop
  | last (i : Nat) (cur cl : List Bool) (r : Nat) : i = line.size → Clo M.es (decide (i = 0)) true (cur.set 0 true) cl → Walks M S line i cur r (orFrom r cl M.rs)
  | step (i : Nat) (cur cl : List Bool) (r R : Nat) : i < line.size → Clo M.es (decide (i = 0)) false (cur.set 0 true) cl → Walks M S line (i + 1) (nexts (byt line i) cl M.es (List.replicate S false)) (orFrom r cl M.rs) R → Walks M S line i cur r R
theorem madeCells_bool (n : Nat) : (madeCells (Value.bool false).cells (n * 1)).toList = bls (List.replicate n false) := by
  apply List.ext_getElem?
  intro k
  simp [madeCells, bls, Value.cells]
  by_cases hk : k < n
  · simp [hk, Nat.mod_one]
  · simp [hk]
theorem wpList_make_bool {w : World} {ops : Array Oper} {rest : List Oper} {o : Oper} {a : Act} {Q : Exit → Act → World → Prop} (hgd : o.guard = none) (l c : Operand)
    (ho : o.op = Op.makeSlice 106 l c) (base n : Nat) (hb : base ≤ w.heap.size) (hl : a.eval l = .int .i64 (n : Nat)) (hc : a.eval c = .int .i64 (n : Nat)) (hn : n ≤ 35184372088832)
    (h : ∀ w', RowB w' base (.slice (some ⟨w.heap.size, 0, none⟩) n n) (List.replicate n false) → Below w.heap.size w w' → wpList Tryz.prog ops Q rest (a.put o.dst (.slice (some ⟨w.heap.size, 0, none⟩) n n)) w') : wpList Tryz.prog ops Q (o :: rest) a w := by
  obtain ⟨i0, hi, hz0, hz1, hz2⟩ := info_parts infoB
  refine wpList_make_full (P := Tryz.prog) w hgd l c 106 ho base 4 i0 (.bool false) 1 Tryz.underlying106 hi hz0 hz1 .i64 .i64 (n : Nat) (n : Nat) n hl hc rfl rfl (by rw [hz2]; omega) (by simp only [maxLen]; omega) hb ?_
  intro w' h1 h2
  rw [madeCells_bool] at h1
  exact h w' (by unfold RowB; rw [List.length_replicate]; exact h1) ((Below.refl _ _).grown h2 (Nat.le_refl _) (fun k hk => by cases hk))
theorem or_lt32 {a b : Nat} (ha : a < 4294967296) (hb : b < 4294967296) : a ||| b < 4294967296 := Nat.or_lt_two_pow (n := 32) ha hb
end Go.Proofs.YtmjnobdlgbojoaaGreatDoor


namespace Go.Proofs.YtmjnobdlgbojoaaGreatDoor
open Go Go.RowKit
section
variable {P : Program} {ops : Array Oper} {Q : Exit → Act → World → Prop}
def linked (ops : Array Oper) (n : Nat) : Bool := (List.range ops.size).all fun j => decide (j ≤ n) || match ops[j]? with
  | some o => o.after.any fun e => e.on == j - 1 && Region.binds .any e
  | none => false
theorem linked_at {n j : Nat} {o : Oper} (h : linked ops n = true) (ho : ops[j]? = some o) (hj : n < j) : ∃ e ∈ o.after, e.on = j - 1 ∧ Region.binds .any e = true := by
  have h1 := List.all_eq_true.1 h j (List.mem_range.2 (Array.getElem?_eq_some_iff.1 ho).1)
  rw [Bool.or_eq_true] at h1
  rcases h1 with h1 | h1
  · have := of_decide_eq_true h1; omega
  · rw [ho] at h1
    have h3 : (o.after.any fun e => e.on == j - 1 && Region.binds .any e) = true := h1
    rw [Array.any_eq_true'] at h3
    obtain ⟨x, hx, h4⟩ := h3
    rw [Bool.and_eq_true] at h4
    exact ⟨x, hx, eq_of_beq h4.1, h4.2⟩
def Got (r : Value → Prop) (o : Oper) (a : Act) (w : World) : Act → World → Prop := fun a' w' => ∃ v, a' = a.put o.dst v ∧ w' = w ∧ r v
theorem wp_region_chain {id : Nat} {a : Act} {w0 : World} (hm : P.follows .mixedOrders = true) (n m : Nat) (hn : ops.size = m) (hnm : n ≤ m) (D : Nat → Nat) (R : Nat → Value → Prop) (S : Nat → Act → World → Prop)
    (hput : ∀ k a w i v, i < n → S k a w → S k (a.put (some (D i)) v) w)
    (hsz : ∀ k a w i, i < n → S k a w → D i < a.tmps.size)
    (hinj : ∀ i j, i < n → j < n → D i = D j → i = j)
    (hlink : linked ops n = true)
    (hduty : AllFrom (fun i o => o.guard = none ∧ (∀ e ∈ o.after, e.on < i) ∧
        (i < n → o.dst = some (D i) ∧ ∀ k a w, S k a w → (∀ e ∈ o.after, Region.binds .any e = true → R e.on (T a (D e.on))) → ∀ Q, o.wp P a w (Got (R i) o a w) Q) ∧
        (n ≤ i → ∀ a w, S i a w → (∀ e ∈ o.after, e.on < n → Region.binds .any e = true → R e.on (T a (D e.on))) → o.wp P a w (fun a' w' => S (i + 1) a' w' ∧ ∀ j, j < n → T a' (D j) = T a (D j)) Q)) 0 ops.toList)
    (hend : ∀ a w, S m a w → (∀ i, i < n → R i (T a (D i))) → Q .normal a w)
    (h0 : S n a w0.drew) : (Code.region id ops true).wp P Q a w0 := by
  have hd := fun i o (ho : ops[i]? = some o) => by
    have := allFrom_at hduty i o (by simpa using ho)
    rw [Nat.zero_add] at this
    exact this
  refine wp_region_inv hm (fun L a w => ∃ k, n ≤ k ∧ k ≤ m ∧ (∀ j, n ≤ j → j < m → (L j = true ↔ j < k)) ∧ S k a w ∧ ∀ i, i < n → L i = true → R i (T a (D i))) ?wf ?step ?fin ?zero
  case wf =>
    intro i o e ho he _
    exact (hd i o ho).2.1 e he
  case zero =>
    intro L hL
    refine ⟨n, Nat.le_refl _, hnm, fun j h1 h2 => ?_, h0, fun i hi h => ?_⟩
    · rw [hL j (by omega)]
      constructor
      · intro h; cases h
      · intro h; omega
    · rw [hL i (by omega)] at h; cases h
  case fin =>
    rintro L a w hL ⟨k, h1, h2, h3, hS, hR⟩
    have hk : k = m := by
      by_cases e : k = m
      · exact e
      · have := (h3 k h1 (by omega)).1 (hL k (by omega))
        omega
    subst hk
    exact hend a w hS (fun i hi => hR i hi (hL i (by omega)))
  case step =>
    intro i o ho
    have hi := (Array.getElem?_eq_some_iff.1 ho).1
    obtain ⟨hg, hlt, hp, hc⟩ := hd i o ho
    refine ⟨hg, ?_⟩
    rintro L a w ⟨k, h1, h2, h3, hS, hR⟩ hLi hE
    by_cases hl : i < n
    · obtain ⟨hdst, hst⟩ := hp hl
      refine Oper.wp_mono ?_ (hst k a w hS (fun e he hb => hR e.on (by have := hlt e he; omega) (hE e he hb)) Q)
      rintro a' w' ⟨v, rfl, rfl, hr⟩
      rw [hdst]
      refine ⟨k, h1, h2, fun j hj hj2 => ?_, hput k a w' i v hl hS, fun j hj hmj => ?_⟩
      · rw [← h3 j hj hj2]
        unfold more
        rw [if_neg (by omega)]
      · by_cases hji : j = i
        · subst hji
          unfold T
          rw [put_same (hsz k a w' j hl hS)]
          exact hr
        · unfold T
          rw [put_other (fun e => hji (hinj i j hl hj e).symm)]
          unfold more at hmj
          rw [if_neg hji] at hmj
          exact hR j hj hmj
    · have hki : k = i := by
        have ha : ¬ i < k := fun h => by rw [(h3 i (by omega) (by omega)).2 h] at hLi; cases hLi
        by_cases e : i = n
        · omega
        · obtain ⟨x, hx, hx1, hx2⟩ := linked_at hlink ho (by omega)
          have := (h3 (i - 1) (by omega) (by omega)).1 (by rw [← hx1]; exact hE x hx hx2)
          omega
      subst hki
      refine Oper.wp_mono ?_ (hc (by omega) a w hS (fun e he hlt hb => hR e.on hlt (hE e he hb)))
      rintro a' w' ⟨hS', hT'⟩
      refine ⟨k + 1, by omega, by omega, fun j hj hj2 => ?_, hS', fun j hj hmj => ?_⟩
      · unfold more
        by_cases hjk : j = k
        · rw [if_pos hjk]
          constructor
          · intro _; omega
          · intro _; rfl
        · rw [if_neg hjk, h3 j hj hj2]
          omega
      · unfold more at hmj
        rw [if_neg (by omega)] at hmj
        rw [hT' j hj]
        exact hR j hj hmj
variable {o : Oper} {a : Act} {w w' : World} {r : Value → Prop}
theorem og_value {v : Value} (h : (execOp a.eval o).run P w = .ok (.value v) w) (hR : r v) : o.wp P a w (Got r o a w) Q := by
  unfold Oper.wp
  rw [h]
  exact ⟨v, rfl, rfl, hR⟩
theorem oc_enter {K : Act → World → Prop} {f : FuncId} {args : Array Value} (h : (execOp a.eval o).run P w = .ok (.enter f args) w) (hc : Calls P f args w fun e w' => ∃ v, e = .returned v ∧ K (a.put o.dst v) w') : o.wp P a w K Q := by
  unfold Oper.wp
  rw [h]
  refine hc.mono ?_
  rintro e w' ⟨v, rfl, hR⟩
  exact hR
theorem oc_value {K : Act → World → Prop} {v : Value} (h : (execOp a.eval o).run P w = .ok (.value v) w') (hR : K (a.put o.dst v) w') : o.wp P a w K Q := by
  unfold Oper.wp
  rw [h]
  exact hR
attribute [local go_sem] Oper.semAt_some
theorem og_move {p : Nat} {v : Value} (ho : o.op = .move (.tmp p)) (hx : T a p = v) (hr : r v) : o.wp Tryz.prog a w (Got r o a w) Q := by
  obtain ⟨dst, op, type, pos, after, guard⟩ := o
  simp only at ho
  subst ho
  refine og_value (v := v) ?_ hr
  simp [execOp, Act.eval, hx, go_sem]
theorem og_nil {p : Nat} {ad : Addr} (ho : o.op = .nilCheck (.tmp p)) (hx : T a p = .pointer (some ad)) (hr : r (.pointer (some ad))) : o.wp Tryz.prog a w (Got r o a w) Q := by
  obtain ⟨dst, op, type, pos, after, guard⟩ := o
  simp only at ho
  subst ho
  refine og_value (v := .pointer (some ad)) ?_ hr
  simp [execOp, Act.eval, hx, go_sem]
theorem og_load3 {p : Nat} {ad : Addr} {v : Int} (ho : o.op = .load 3 (.tmp p)) (hx : T a p = .pointer (some ad)) (hc : w.cell? ad = some (.int .i64 v)) (hr : r (.int .i64 v)) : o.wp Tryz.prog a w (Got r o a w) Q := by
  obtain ⟨dst, op, type, pos, after, guard⟩ := o
  simp only at ho
  subst ho
  refine og_value (v := .int .i64 v) ?_ hr
  simp [execOp, Act.eval, hx, go_sem, hc]
set_option maxRecDepth 20000 in
theorem og_node {p A : Nat} {x : Nd} (ho : o.op = .load 30 (.tmp p)) (hx : T a p = .pointer (some ⟨A, 0, none⟩)) (hc : NB w A x) (hr : r x.val) : o.wp Tryz.prog a w (Got r o a w) Q := by
  obtain ⟨dst, op, type, pos, after, guard⟩ := o
  simp only at ho
  subst ho
  obtain ⟨c0, c1, c2, c3, c4, c5, c6, c7⟩ := hc.cells
  refine og_value (v := x.val) ?_ hr
  unfold Nd.val
  simp [execOp, Act.eval, hx, go_sem, c0, c1, c2, c3, c4, c5, c6, c7]
theorem oc_assign {K : Act → World → Prop} {p : Nat} {v : Value} (ho : o.op = .assign (.tmp p)) (hx : T a p = v) (hr : K (a.put o.dst v) w) : o.wp Tryz.prog a w K Q := by
  obtain ⟨dst, op, type, pos, after, guard⟩ := o
  simp only at ho
  subst ho
  refine oc_value (v := v) (w' := w) ?_ hr
  simp [execOp, Act.eval, hx, go_sem]
end
end Go.Proofs.YtmjnobdlgbojoaaGreatDoor
