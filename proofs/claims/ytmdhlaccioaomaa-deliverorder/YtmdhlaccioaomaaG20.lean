/- The calls of the statements in memory; what is watched of a deliverer. -/
import Derived.Test.YtmdhlaccioaomaaG19
namespace Go.Proofs.Ytmdhlaccioaomaa
open Go.RowKit Go.Maps Rg Bo

/-- a call -/
structure Opc where
  k : Int
  a : Al
  now : Int
  y : Bool
  j : Int
def opC (o : Opc) : List Value := [.int .i64 o.k, .int .i64 o.a.p, .int .i64 o.a.s, .int .i64 o.a.n, .int .i64 o.a.g, .int .i64 o.a.o, .int .i64 o.a.ms, .int .i64 o.a.gn, .int .i64 o.a.ct, .int .i64 o.a.tl, .int .i64 o.a.lg, .string o.a.t, .int .u32 o.a.r, .int .i64 o.now, .bool o.y, .int .i64 o.j]
def opV (o : Opc) : Value := .agg (opC o).toArray
def opY : Opc := ⟨0, alZ, 0, true, 0⟩
def opZ : Opc := ⟨0, alZ, 0, false, 0⟩
theorem opC_len (o : Opc) : (opC o).length = 16 := rfl
theorem opC_one (o : Opc) : ∀ v ∈ opC o, v.oneCell' = true := by intro v hv; simp [opC] at hv; rcases hv with h | h | h | h | h | h | h | h | h | h | h | h | h | h | h | h <;> subst h <;> rfl
theorem opV_cells (o : Opc) : (opV o).cells = (opC o).toArray := rfl
theorem op_isrow : Try.prog.underlying 43 = some (.struct (Try.prog.underlying 43 |>.elim #[] fun | .struct f => f | _ => #[])) := by kernel_rfl
theorem op_size : (Try.prog.info? 43).map (·.size) = some 16 := by kernel_rfl
section
variable {w u v : World} {A b o : Nat} {x y : Opc}
theorem load_op (h : w.rangeAt b o (opC x)) : (Instr.loadAt 43 (.pointer (some ⟨b, o, none⟩))).run Try.prog w = .ok (opV x) w :=
  run_loadAt_mid w b o 43 (opC x) _ h op_isrow rfl op_size
theorem store_op (h : w.there b o 16) (x : Opc) : (Instr.storeAt 43 (.pointer (some ⟨b, o, none⟩)) (opV x)).run Try.prog w = .ok () (w.setCells b o (opC x)) := by
  have := run_storeAt_mid (P := Try.prog) w b o 43 (opC x).toArray (by simpa [opC_len] using h) (by simpa [opC_len] using op_size) (all_oneCell_toArray (opC_one x))
  exact this
def loadOp (p : Value) : Sem Value := Instr.loadAt 43 p
theorem loadOp_eq (p : Value) : Instr.loadAt 43 p = loadOp p := rfl
def storeOp (p v : Value) : Sem Unit := Instr.storeAt 43 p v
theorem storeOp_eq (p v : Value) : Instr.storeAt 43 p v = storeOp p v := rfl
theorem op_al (h : w.rangeAt b o (opC x)) : w.rangeAt b (o + 1) (alC x.a) := fun j v hv => by
  have hj : j < 12 := by have := (List.getElem?_eq_some_iff.1 hv).1; rwa [alC_len] at this
  rw [Nat.add_assoc, Nat.add_comm 1 j]
  refine h (j + 1) v ?_
  match j, hj with
  | 0, _ | 1, _ | 2, _ | 3, _ | 4, _ | 5, _ | 6, _ | 7, _ | 8, _ | 9, _ | 10, _ | 11, _ => exact hv
end
/-- A BOX of a call -/
def OpB (w : World) (A : Nat) (x : Opc) : Prop := w.heap[A]? = some (.cells (opC x).toArray 43 (0, 0))
section
variable {w w1 u v : World} {A : Nat} {x y : Opc}
theorem OpB.lt (h : OpB w A x) : A < w.heap.size := (Array.getElem?_eq_some_iff.1 h).1
theorem OpB.same (h : OpB w A x) (e : u.heap[A]? = w.heap[A]?) : OpB u A x := e.trans h
theorem OpB.later (h : OpB w A x) (hb : Below w.heap.size w u) : OpB u A x := h.same (hb.block A h.lt)
theorem OpB.drew (h : OpB w A x) : OpB w.drew A x := h
theorem OpB.range (h : OpB w A x) : w.rangeAt A 0 (opC x) := fun j v hv => by
  simp only [World.cell?, show w.heap[A]? = _ from h, Nat.zero_add]
  simpa using hv
theorem OpB.there (h : OpB w A x) : w.there A 0 16 := by
  have hr := h.range
  obtain ⟨c, hc⟩ : ∃ c, (opC x).toArray = c := ⟨_, rfl⟩
  have h : w.heap[A]? = some (.cells (opC x).toArray 43 (0, 0)) := h
  rw [hc] at h
  intro j hj
  have hv : (opC x)[j]? = some ((opC x)[j]'(by rw [opC_len]; exact hj)) := List.getElem?_eq_getElem _
  have hr := hr j _ hv
  refine ⟨by rw [hr]; rfl, ?_⟩
  simp [World.frozen?, h]
theorem OpB.put (h : OpB w A x) (y : Opc) : OpB (w.setCells A 0 (opC y)) A y := setCells_whole h ((opC_len y).trans (opC_len x).symm)
theorem OpB.load (h : OpB w A x) : (loadOp (.pointer (some ⟨A, 0, none⟩))).run Try.prog w = .ok (opV x) w := load_op h.range
theorem OpB.loada (h : OpB w A x) : (loadAl (.pointer (some ⟨A, 1, none⟩))).run Try.prog w = .ok (alV x.a) w := load_al (op_al h.range)
theorem OpB.store (h : OpB w A x) (y : Opc) : (storeOp (.pointer (some ⟨A, 0, none⟩)) (opV y)).run Try.prog w = .ok () (w.setCells A 0 (opC y)) := store_op h.there y
theorem OpB.cells (h : OpB w A x) : w.cell? ⟨A, 0, none⟩ = some (.int .i64 x.k) ∧ w.cell? ⟨A, 13, none⟩ = some (.int .i64 x.now) ∧ w.cell? ⟨A, 14, none⟩ = some (.bool x.y) ∧ w.cell? ⟨A, 15, none⟩ = some (.int .i64 x.j) := by
  have hr := h.range
  refine ⟨hr 0 _ rfl, ?_, ?_, ?_⟩
  · have := hr 13 (.int .i64 x.now) rfl
    rwa [Nat.zero_add] at this
  · have := hr 14 (.bool x.y) rfl
    rwa [Nat.zero_add] at this
  · have := hr 15 (.int .i64 x.j) rfl
    rwa [Nat.zero_add] at this
theorem box_op (hw1 : w.alloc (.cells (opC x).toArray 43) = w1) (hA : w.heap.size = A) : OpB w1 A x ∧ Below w.heap.size w w1 ∧ w1.heap.size = A + 1 := by
  subst hw1 hA
  exact ⟨heap_alloc_new w _, below_new w _, Array.size_push ..⟩
end
/-- calls in a row, as they came in -/
def OpAt (w : World) (a : Option Addr) (l : List Opc) : Prop := l = [] ∨ ∃ b off, a = some ⟨b, off, none⟩ ∧ ∀ (i : Nat) x, l[i]? = some x → w.rangeAt b (off + i * 16) (opC x)
theorem range_later {w u : World} {b o : Nat} {cs : List Value} (hb : Below w.heap.size w u) (h : w.rangeAt b o cs) : u.rangeAt b o cs := fun j v hv => cell_later hb _ _ _ (h j v hv)
theorem OpAt.nth {w : World} {a : Option Addr} {l : List Opc} (h : OpAt w a l) {i : Nat} (hi : i < l.length) : ∃ b off, ∃ x : Opc, a = some ⟨b, off, none⟩ ∧ w.rangeAt b (off + i * 16) (opC x) := by
  rcases h with h | ⟨b, off, e, h⟩
  · subst h; simp at hi
  · exact ⟨b, off, l[i], e, h i _ (List.getElem?_eq_getElem hi)⟩
/-- WHAT IS WATCHED -/
def WBox (w : World) (W n bs ms jl : Nat) (V : Value) (tk : Nat) (wi : Bool) (tr wt : Nat) : Prop := w.heap[W]? = some (.cells #[.int .i64 (n : Nat), .int .i64 (bs : Nat), .int .i64 (ms : Nat), .int .i64 (jl : Nat), V, .int .i64 (tk : Nat), .bool wi, .int .i64 (tr : Nat), .int .i64 (wt : Nat)] 34 (0, 0))
section
variable {w u v : World} {W n bs ms jl : Nat} {V : Value} {tk : Nat} {wi : Bool} {tr wt : Nat}
theorem WBox.cells (h : WBox w W n bs ms jl V tk wi tr wt) : w.cell? ⟨W, 2, none⟩ = some (.int .i64 (ms : Nat)) ∧ w.cell? ⟨W, 3, none⟩ = some (.int .i64 (jl : Nat)) ∧ w.cell? ⟨W, 4, none⟩ = some V ∧ w.cell? ⟨W, 5, none⟩ = some (.int .i64 (tk : Nat)) ∧ w.cell? ⟨W, 6, none⟩ = some (.bool wi) ∧ w.cell? ⟨W, 7, none⟩ = some (.int .i64 (tr : Nat)) ∧ w.cell? ⟨W, 8, none⟩ = some (.int .i64 (wt : Nat)) := by
  simp [World.cell?, show w.heap[W]? = _ from h]
theorem WBox.frozen (h : WBox w W n bs ms jl V tk wi tr wt) (j : Nat) : w.frozen? ⟨W, j, none⟩ = false := by simp [World.frozen?, show w.heap[W]? = _ from h]
theorem WBox.ty (h : WBox w W n bs ms jl V tk wi tr wt) : TyB w 34 W := ⟨_, _, h⟩
theorem WBox.lt (h : WBox w W n bs ms jl V tk wi tr wt) : W < w.heap.size := (Array.getElem?_eq_some_iff.1 h).1
theorem WBox.same (h : WBox w W n bs ms jl V tk wi tr wt) (e : u.heap[W]? = w.heap[W]?) : WBox u W n bs ms jl V tk wi tr wt := e.trans h
theorem WBox.putV (h : WBox w W n bs ms jl V tk wi tr wt) (V' : Value) : WBox (w.setCell ⟨W, 4, none⟩ V') W n bs ms jl V' tk wi tr wt := by unfold WBox; rw [heap_set h]; simp
theorem WBox.put5 (h : WBox w W n bs ms jl V tk wi tr wt) (k : Nat) : WBox (w.setCell ⟨W, 5, none⟩ (.int .i64 (k : Nat))) W n bs ms jl V k wi tr wt := by unfold WBox; rw [heap_set h]; simp
theorem WBox.put6 (h : WBox w W n bs ms jl V tk wi tr wt) (b : Bool) : WBox (w.setCell ⟨W, 6, none⟩ (.bool b)) W n bs ms jl V tk b tr wt := by unfold WBox; rw [heap_set h]; simp
theorem WBox.put7 (h : WBox w W n bs ms jl V tk wi tr wt) (k : Nat) : WBox (w.setCell ⟨W, 7, none⟩ (.int .i64 (k : Nat))) W n bs ms jl V tk wi k wt := by unfold WBox; rw [heap_set h]; simp
theorem WBox.put8 (h : WBox w W n bs ms jl V tk wi tr wt) (k : Nat) : WBox (w.setCell ⟨W, 8, none⟩ (.int .i64 (k : Nat))) W n bs ms jl V tk wi tr k := by unfold WBox; rw [heap_set h]; simp
end
theorem row_keep {u v : World} {base : Nat} {t : TypeId} {sz : Nat} {V : Value} {k : Nat} {xs : List Value} (hr : u.ownsRow base t sz V k xs) (hk : ∀ b, V.ownBlock = some b → v.heap[b]? = u.heap[b]?) : v.ownsRow base t sz V k xs := ownsRow_keep hr (fun g hg _ _ => hk g hg)
/-- A DELIVERER AND ITS WATCH, apart from one another and from all that was there -/
structure OJ (w : World) (n bs ms jl W D B R : Nat) (P : List Al) (V : Value) (tk : Nat) (wi : Bool) (tr wt : Nat) (x : De) (u : World) : Prop where
  d : ∃ f, DlAt u D B R n f bs ms jl x
  wb : WBox u W n bs ms jl V tk wi tr wt
  p : u.ownsRow w.heap.size 41 12 V P.length (P.flatMap alC)
  pr : V.ownBlock ≠ some R
  lo : Below w.heap.size w u
  ge : w.heap.size ≤ W ∧ w.heap.size ≤ D ∧ w.heap.size ≤ B ∧ w.heap.size ≤ R
section
variable {w u v : World} {n bs ms jl W D B R : Nat} {P : List Al} {V : Value} {tk : Nat} {wi : Bool} {tr wt : Nat} {x x' : De}
theorem OJ.later (h : OJ w n bs ms jl W D B R P V tk wi tr wt x u) (hb : Below u.heap.size u v) : OJ w n bs ms jl W D B R P V tk wi tr wt x v := by
  obtain ⟨⟨f, hd⟩, h2, h3, h4, h5, h6⟩ := h
  exact ⟨⟨f, hd.later hb⟩, h2.same (hb.block W h2.lt), row_keep h3 (fun b hb2 => hb.block b (row_ty h3 hb2).2.1), h4, below_step h5 hb, h6⟩
theorem OJ.ne (h : OJ w n bs ms jl W D B R P V tk wi tr wt x u) : W ≠ D ∧ W ≠ B ∧ W ≠ R ∧ ∀ b, V.ownBlock = some b → b ≠ W ∧ b ≠ D ∧ b ≠ B ∧ b ≠ R := by
  obtain ⟨⟨f, hd⟩, h2, h3, h4, h5, h6⟩ := h
  have hw := h2.ty
  refine ⟨fun e => ?_, fun e => ?_, fun e => ?_, fun b hb => ?_⟩
  · rw [e] at hw; exact absurd (TyB.ne hw hd.d.ty) (by decide)
  · rw [e] at hw; exact absurd (TyB.ne hw hd.r.b.ty) (by decide)
  · rw [e] at hw; exact absurd (TyB.ne hw hd.r.r.ty) (by decide)
  · have ht := (row_ty h3 hb).1
    refine ⟨fun e => ?_, fun e => ?_, fun e => ?_, fun e => h4 (by rw [hb, e])⟩
    · rw [e] at ht; exact absurd (TyB.ne ht hw) (by decide)
    · rw [e] at ht; exact absurd (TyB.ne ht hd.d.ty) (by decide)
    · rw [e] at ht; exact absurd (TyB.ne ht hd.r.b.ty) (by decide)
/-- a call on the deliverer -/
theorem OJ.dcall (h : OJ w n bs ms jl W D B R P V tk wi tr wt x u) (h2 : DTo D B R n bs ms jl x' u v) : OJ w n bs ms jl W D B R P V tk wi tr wt x' v := by
  obtain ⟨n1, n2, n3, n4⟩ := h.ne
  obtain ⟨g1, g2, g3, g4⟩ := h.ge
  obtain ⟨hd, hf⟩ := h2
  have hlo := h.lo
  refine ⟨hd, h.wb.same (hf.block W h.wb.lt (fun e => by rcases e with e | e | e; · exact n1 e
                                                         · exact n2 e
                                                         · exact n3 e)), row_keep h.p (fun b hb => hf.block b (row_ty h.p hb).2.1 (fun e => by
    obtain ⟨_, m1, m2, m3⟩ := n4 b hb
    rcases e with e | e | e
    · exact m1 e
    · exact m2 e
    · exact m3 e)), h.pr, ⟨hf.os.trans hlo.os, hf.tape.trans hlo.tape, hf.output.trans hlo.output, Nat.le_trans hlo.size hf.size, fun k hk => (hf.block k (Nat.lt_of_lt_of_le hk hlo.size) (fun e => by rcases e with e | e | e <;> omega)).trans (hlo.block k hk)⟩, h.ge⟩
/-- a cell of the watch is written -/
theorem OJ.wset (h : OJ w n bs ms jl W D B R P V tk wi tr wt x u) (j : Nat) (val : Value) {tk' : Nat} {wi' : Bool} {tr' wt' : Nat} (hb : WBox (u.setCell ⟨W, j, none⟩ val) W n bs ms jl V tk' wi' tr' wt') : OJ w n bs ms jl W D B R P V tk' wi' tr' wt' x (u.setCell ⟨W, j, none⟩ val) := by
  obtain ⟨n1, n2, n3, n4⟩ := h.ne
  obtain ⟨f, hd⟩ := h.d
  have key : ∀ k, k ≠ W → (u.setCell ⟨W, j, none⟩ val).heap[k]? = u.heap[k]? := fun k hk => Below.heap_setCell u ⟨W, j, none⟩ val k hk
  exact ⟨⟨f, hd.same (key D n1.symm) (key B n2.symm) (key R n3.symm)⟩, hb, row_keep h.p (fun b hb => key b (n4 b hb).1), h.pr, below_put h.lo h.ge.1 j val, h.ge⟩
/-- one more was pushed -/
theorem OJ.grown (h : OJ w n bs ms jl W D B R P V tk wi tr wt x u) {P' : List Al} {g c : Nat} (hr : v.ownsRow w.heap.size 41 12 (.slice (some ⟨g, 0, none⟩) P'.length c) P'.length (P'.flatMap alC)) (hg : u.grownBy v V.ownBlock) (hb : V.ownBlock = some g ∨ g = u.heap.size) : OJ w n bs ms jl W D B R P' (.slice (some ⟨g, 0, none⟩) P'.length c) tk wi tr wt x (v.setCell ⟨W, 4, none⟩ (.slice (some ⟨g, 0, none⟩) P'.length c)) := by
  obtain ⟨n1, n2, n3, n4⟩ := h.ne
  obtain ⟨f, hd⟩ := h.d
  obtain ⟨g1, g2, g3, g4⟩ := h.ge
  have hlo := h.lo
  have hWl := h.wb.lt
  have hDl := hd.d.lt
  have hBl := hd.r.b.lt
  have hRl := hd.r.r.lt
  have nb : ∀ k, k < u.heap.size → (∀ b, V.ownBlock = some b → b ≠ k) → v.heap[k]? = u.heap[k]? := fun k hk hn => hg.block k hk (fun e => hn k e.symm rfl)
  have kW := nb W hWl (fun b hb => (n4 b hb).1)
  have kD := nb D hDl (fun b hb => (n4 b hb).2.1)
  have kB := nb B hBl (fun b hb => (n4 b hb).2.2.1)
  have kR := nb R hRl (fun b hb => (n4 b hb).2.2.2)
  have hgn : g ≠ W ∧ g ≠ R := by
    rcases hb with e | e
    · exact ⟨(n4 g e).1, (n4 g e).2.2.2⟩
    · exact ⟨by omega, by omega⟩
  have key : ∀ k, k ≠ W → (v.setCell ⟨W, 4, none⟩ (.slice (some ⟨g, 0, none⟩) P'.length c)).heap[k]? = v.heap[k]? := fun k hk => Below.heap_setCell v ⟨W, 4, none⟩ _ k hk
  have hb1 : Below w.heap.size w v := ⟨hg.os.trans hlo.os, hg.tape.trans hlo.tape, hg.output.trans hlo.output, Nat.le_trans hlo.size hg.size, fun k hk => (nb k (Nat.lt_of_lt_of_le hk hlo.size) (fun b hb => by have := (row_ty h.p hb).2.2; omega)).trans (hlo.block k hk)⟩
  exact ⟨⟨f, (hd.same kD kB kR).same (key D n1.symm) (key B n2.symm) (key R n3.symm)⟩, (h.wb.same kW).putV _, row_keep hr (fun b hb => key b (fun e2 => hgn.1 ((show g = b by simpa [Value.ownBlock] using hb).trans e2))), fun e => by
    have e2 : g = R := by simpa [Value.ownBlock] using e
    exact hgn.2 e2, below_put hb1 g1 4 _, h.ge⟩
end
theorem gd_al (op : BinOp) (a b : Operand) (x y : Al) (u : World) : (eqGuard op 41 a b (alV x) (alV y)).run Try.prog u = .ok () u := run_eqGuard_agg (P := Try.prog) (w := u) op 41 a b _ _ (by kernel_rfl)
theorem zal_eq : Value.agg #[.int .i64 0, .int .i64 0, .int .i64 0, .int .i64 0, .int .i64 0, .int .i64 0, .int .i64 0, .int .i64 0, .int .i64 0, .int .i64 0, .string ⟨#[]⟩, .int .u32 0] = alV alZ := rfl
theorem neq_same (x : Al) (u : World) : (binOp .neq 41 (alV x) (alV x)).run Try.prog u = .ok (.bool false) u := by
  have h := eq_same x u
  unfold alV at h ⊢
  simp [binOp, h]
theorem eql_same (x : Al) (u : World) : (binOp .eql 41 (alV x) (alV x)).run Try.prog u = .ok (.bool true) u := by
  have h := eq_same x u
  unfold alV at h ⊢
  simp [binOp, h]
theorem zgd (op : BinOp) (a b : Operand) (x : Al) (u : World) : (eqGuard op 41 a b (alV x) (.agg #[.int .i64 0, .int .i64 0, .int .i64 0, .int .i64 0, .int .i64 0, .int .i64 0, .int .i64 0, .int .i64 0, .int .i64 0, .int .i64 0, .string ⟨#[]⟩, .int .u32 0])).run Try.prog u = .ok () u := gd_al op a b x alZ u
theorem zeql (u : World) : (binOp .eql 41 (alV alZ) (.agg #[.int .i64 0, .int .i64 0, .int .i64 0, .int .i64 0, .int .i64 0, .int .i64 0, .int .i64 0, .int .i64 0, .int .i64 0, .int .i64 0, .string ⟨#[]⟩, .int .u32 0])).run Try.prog u = .ok (.bool true) u := eql_same alZ u
end Go.Proofs.Ytmdhlaccioaomaa
