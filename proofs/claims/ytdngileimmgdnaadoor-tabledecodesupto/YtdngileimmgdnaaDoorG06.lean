/- Arrays of 256 numbers, by value. -/
import Derived.Deep.WholeRow
import Derived.Deep.Cut
import Derived.Deep.DeepCutAuto
import Derived.Test.YtdngileimmgdnaaDoorG04
import Derived.Test.YtdngileimmgdnaaDoorG05
namespace Go.Proofs.YtdngileimmgdnaaDoor
open Go.RowKit

def cv (f : Nat → Int) : Array Value := ((List.range 256).map fun i => Value.int .i64 (f i)).toArray
theorem cv_size (f : Nat → Int) : (cv f).size = 256 := by simp [cv]
theorem cv_at (f : Nat → Int) {i : Nat} (h : i < 256) : (cv f)[i]? = some (.int .i64 (f i)) := by simp [cv, h]
theorem cv_out (f : Nat → Int) {i : Nat} (h : 256 ≤ i) : (cv f)[i]? = none := by simp [cv, h]
theorem cv_congr {f g : Nat → Int} (h : ∀ i, i < 256 → f i = g i) : cv f = cv g := by
  unfold cv
  congr 1
  refine List.map_congr_left (fun i hi => ?_)
  rw [h i (by simpa using hi)]
theorem cv_set (f : Nat → Int) (i : Nat) (x : Int) : (cv f).setIfInBounds i (.int .i64 x) = cv (fun j => if j = i then x else f j) := by
  apply Array.ext_getElem?
  intro k
  rw [Array.getElem?_setIfInBounds]
  by_cases hk : k < 256
  · rw [cv_at _ hk, cv_at _ hk, cv_size]
    by_cases e : i = k
    · subst e; simp [hk]
    · simp [e, show ¬ k = i from fun h => e h.symm]
  · rw [cv_out _ (by omega), cv_out _ (by omega), cv_size]
    split
    · split
      · omega
      · rfl
    · rfl
theorem cv_one (f : Nat → Int) : (cv f).all (·.oneCell') = true := by
  rw [Array.all_eq_true_iff_forall_mem]
  intro v hv
  simp [cv] at hv
  obtain ⟨i, _, rfl⟩ := hv
  rfl
theorem infoArr : (Tryd.prog.info? 22).map (fun i => (i.zero, i.size)) = some (some (.agg (cv fun _ => 0)), 256) := by kernel_rfl
theorem zeroArr (w : World) : (zeroValue 22).run Tryd.prog w = .ok (.agg (cv fun _ => 0)) w := (zero_of_info infoArr).1 w
theorem sizeArr : (Tryd.prog.info? 22).map (·.size) = some 256 := (zero_of_info infoArr).2
theorem underArr : Tryd.prog.underlying 22 = some (.array 256 3) := by kernel_rfl
/-- block A is an array of 256 numbers -/
def AB (w : World) (A : Nat) (f : Nat → Int) : Prop := w.heap[A]? = some (.cells (cv f) 22 (0, 0))
theorem AB.lt {w : World} {A : Nat} {f : Nat → Int} (h : AB w A f) : A < w.heap.size := (Array.getElem?_eq_some_iff.1 h).1
theorem AB.later {w w' : World} {A : Nat} {f : Nat → Int} (h : AB w A f) (hb : Below w.heap.size w w') : AB w' A f := (hb.block A h.lt).trans h
theorem AB.same {w w' : World} {A : Nat} {f : Nat → Int} (h : AB w A f) (e : w'.heap[A]? = w.heap[A]?) : AB w' A f := e.trans h
theorem AB.cell {w : World} {A : Nat} {f : Nat → Int} (h : AB w A f) {i : Nat} (hi : i < 256) : w.cell? ⟨A, i, none⟩ = some (.int .i64 (f i)) ∧ w.frozen? ⟨A, i, none⟩ = false := by
  unfold AB at h
  refine ⟨?_, by simp [World.frozen?, h]⟩
  simp [World.cell?, h, cv_at _ hi]
theorem ab_new (w : World) (f : Nat → Int) : AB (w.alloc (.cells (cv f) 22)) w.heap.size f := heap_alloc_new w _
theorem AB.load {w : World} {A : Nat} {f : Nat → Int} (h : AB w A f) : (Instr.loadAt 22 (.pointer (some ⟨A, 0, none⟩))).run Tryd.prog w = .ok (.agg (cv f)) w := by
  simp only [Instr.loadAt, Instr.sureAddr, Sem.run_bind, Sem.run_pure, Result.andThen]
  exact run_loadVar_row w A _ _ _ (0, 0) _ h underArr rfl (by rw [cv_size]; exact sizeArr)
theorem AB.store {w : World} {A : Nat} {f : Nat → Int} (h : AB w A f) (g : Nat → Int) : (Instr.storeAt 22 (.pointer (some ⟨A, 0, none⟩)) (.agg (cv g))).run Tryd.prog w = .ok () (w.setRow A (cv g)) := by
  simp only [Instr.storeAt, Instr.sureAddr, Sem.run_bind, Sem.run_pure, Result.andThen]
  exact run_storeVar_row w A _ _ _ _ h (by rw [cv_size]; exact sizeArr) (by rw [cv_size, cv_size]) (cv_one g)
theorem AB.put {w : World} {A : Nat} {f : Nat → Int} (h : AB w A f) (g : Nat → Int) : AB (w.setRow A (cv g)) A g := setRow_heap w A (cv f) (cv g) _ _ h
theorem heap_row (w : World) (A k : Nat) (c : Array Value) (h : k ≠ A) : (w.setRow A c).heap[k]? = w.heap[k]? := by
  unfold World.setRow
  simp only
  rw [Array.getElem?_modify, if_neg (fun e => h e.symm)]
theorem size_row (w : World) (A : Nat) (c : Array Value) : (w.setRow A c).heap.size = w.heap.size := by
  unfold World.setRow
  simp
theorem below_row {w u : World} {B A : Nat} (h : Below B w u) (hA : B ≤ A) (c : Array Value) : Below B w (u.setRow A c) :=
  ⟨h.os, h.tape, h.output, by rw [size_row]; exact h.size, fun k hk => by rw [heap_row _ _ _ _ (by omega)]; exact h.block k hk⟩
theorem AB.set {w : World} {A : Nat} {f : Nat → Int} (h : AB w A f) (i : Nat) (x : Int) : AB (w.setCell ⟨A, i, none⟩ (.int .i64 x)) A (fun j => if j = i then x else f j) := by
  have e := setCell_eq_setRow w A i (cv f) _ _ (.int .i64 x) h
  rw [e, cv_set]
  exact h.put _
theorem AB.index (f : Nat → Int) {i : Nat} (hi : i < 256) (w : World) : (Instr.index 22 (.agg (cv f)) (.int .i64 (i : Nat))).run Tryd.prog w = .ok (.int .i64 (f i)) w := by
  have h2 := cv_at f hi
  simp [Instr.index, run_underlying underArr, go_sem, h2]
  intro h
  omega
theorem wpList_load_arr {ops : Array Oper} {rest : List Oper} {o : Oper} {a : Act} {w : World} {Q : Exit → Act → World → Prop} (hgd : o.guard = none) (x : Operand) (ho : o.op = .load 22 x) {A : Nat} {f : Nat → Int} (h : AB w A f) (hx : a.eval x = .pointer (some ⟨A, 0, none⟩))
    (hk : wpList Tryd.prog ops Q rest (a.put o.dst (.agg (cv f))) w) : wpList Tryd.prog ops Q (o :: rest) a w :=
  wpList_load_row hgd _ x ho A hx _ _ (0, 0) _ h underArr rfl (by rw [cv_size]; exact sizeArr) hk
theorem wpList_store_arr {ops : Array Oper} {rest : List Oper} {o : Oper} {a : Act} {w : World} {Q : Exit → Act → World → Prop} (hgd : o.guard = none) (x y : Operand) (ho : o.op = .store 22 x y) {A : Nat} {f g : Nat → Int} (h : AB w A f) (hx : a.eval x = .pointer (some ⟨A, 0, none⟩)) (hy : a.eval y = .agg (cv g))
    (hk : wpList Tryd.prog ops Q rest (a.put o.dst undef) (w.setRow A (cv g))) : wpList Tryd.prog ops Q (o :: rest) a w :=
  wpList_plain hgd fun _ hK => wp_store_row _ x y ho A (cv g) hx hy _ _ h (by rw [cv_size]; exact sizeArr) (by rw [cv_size, cv_size]) (cv_one g) (hK _ _ hk)
theorem results_arr_int {fn : Func} {p q : Tmp} (h : fn.results = #[.cell p 22, .tmp q]) (tmps : Array Value) (w : World) {A : Nat} {f : Nat → Int} (hA : AB w A f) {v : Value} (hp : tmps.getD p undef = .pointer (some ⟨A, 0, none⟩)) (hq : tmps.getD q undef = v) :
    (results fn tmps).run Tryd.prog w = .ok (.tuple #[.agg (cv f), v]) w := by
  have hp' : tmps[p]?.getD undef = .pointer (some ⟨A, 0, none⟩) := by simpa using hp
  have hq' : tmps[q]?.getD undef = v := by simpa using hq
  have hl := run_loadVar_row w A _ _ _ (0, 0) _ hA underArr rfl (by rw [cv_size]; exact sizeArr)
  simp [results, h, hp', hq', asAddr, hl]
end Go.Proofs.YtdngileimmgdnaaDoor

/- Tables (api.DFA) in memory: an array of 256 numbers and three lists, in one block. -/
namespace Go.Proofs.YtdngileimmgdnaaDoor
open Go.RowKit

def dv (f : Nat → Int) (V1 V2 V3 : Value) : Array Value := cv f ++ #[V1, V2, V3]
theorem dv_size (f : Nat → Int) (V1 V2 V3 : Value) : (dv f V1 V2 V3).size = 259 := by simp [dv, cv_size]
theorem dv_lo (f : Nat → Int) (V1 V2 V3 : Value) {i : Nat} (h : i < 256) : (dv f V1 V2 V3)[i]? = some (.int .i64 (f i)) := by
  unfold dv
  rw [Array.getElem?_append_left (by rw [cv_size]; exact h)]
  exact cv_at f h
theorem dv_hi (f : Nat → Int) (V1 V2 V3 : Value) (j : Nat) : (dv f V1 V2 V3)[256 + j]? = #[V1, V2, V3][j]? := by
  unfold dv
  rw [Array.getElem?_append_right (by rw [cv_size]; omega), cv_size, Nat.add_sub_cancel_left]
theorem dv_set (f : Nat → Int) (V1 V2 V3 v : Value) (j : Nat) : (dv f V1 V2 V3).setIfInBounds (256 + j) v = cv f ++ #[V1, V2, V3].setIfInBounds j v := by
  unfold dv
  apply Array.ext_getElem?
  intro k
  rw [Array.getElem?_setIfInBounds]
  by_cases hk : k < 256
  · rw [if_neg (by omega), Array.getElem?_append_left (by rw [cv_size]; exact hk), Array.getElem?_append_left (by rw [cv_size]; exact hk)]
  · obtain ⟨m, rfl⟩ : ∃ m, k = 256 + m := ⟨k - 256, by omega⟩
    rw [Array.getElem?_append_right (by rw [cv_size]; omega), cv_size, Nat.add_sub_cancel_left, Array.getElem?_append_right (by rw [cv_size]; omega), cv_size, Nat.add_sub_cancel_left, Array.getElem?_setIfInBounds]
    by_cases e : j = m
    · subst e
      have : (256 + j < (cv f ++ #[V1, V2, V3]).size) ↔ j < #[V1, V2, V3].size := by simp [cv_size]; omega
      by_cases h : j < #[V1, V2, V3].size
      · rw [if_pos rfl, if_pos (this.2 h), if_pos rfl, if_pos h]
      · rw [if_pos rfl, if_neg (fun h2 => h (this.1 h2)), if_pos rfl, if_neg h]
    · rw [if_neg (by omega), if_neg e]
def nilV : Value := .slice none 0 0
set_option maxRecDepth 20000 in
theorem infoDfa : (Tryd.prog.info? 26).map (fun i => (i.zero, i.size)) = some (some (.agg (dv (fun _ => 0) nilV nilV nilV)), 259) := by kernel_rfl
theorem zeroDfa (w : World) : (zeroValue 26).run Tryd.prog w = .ok (.agg (dv (fun _ => 0) nilV nilV nilV)) w := (zero_of_info infoDfa).1 w
theorem sizeD : (Tryd.prog.info? 26).map (·.size) = some 259 := by kernel_rfl
theorem underD : ∃ fs, Tryd.prog.underlying 26 = some (.struct fs) := ⟨_, Tryd.underlying26⟩
set_option maxRecDepth 20000 in
theorem builtD (f : Nat → Int) (w : World) : (Instr.build 26 #[(0, .agg (cv f))]).run Tryd.prog w = .ok (.agg (dv f nilV nilV nilV)) w := run_build w _ _ _ (by kernel_rfl)
/-- block D is a table -/
def DB (w : World) (D : Nat) (f : Nat → Int) (V1 V2 V3 : Value) : Prop := w.heap[D]? = some (.cells (dv f V1 V2 V3) 26 (0, 0))
section
variable {w w' : World} {D : Nat} {f : Nat → Int} {V1 V2 V3 : Value}
theorem DB.lt (h : DB w D f V1 V2 V3) : D < w.heap.size := (Array.getElem?_eq_some_iff.1 h).1
theorem DB.ty (h : DB w D f V1 V2 V3) : TyB w 26 D := ⟨_, _, h⟩
theorem DB.same (h : DB w D f V1 V2 V3) (e : w'.heap[D]? = w.heap[D]?) : DB w' D f V1 V2 V3 := e.trans h
theorem DB.later (h : DB w D f V1 V2 V3) (hb : Below w.heap.size w w') : DB w' D f V1 V2 V3 := h.same (hb.block D h.lt)
theorem DB.frozen (h : DB w D f V1 V2 V3) (j : Nat) : w.frozen? ⟨D, j, none⟩ = false := by simp [World.frozen?, show w.heap[D]? = _ from h]
theorem DB.lo (h : DB w D f V1 V2 V3) {i : Nat} (hi : i < 256) : w.cell? ⟨D, i, none⟩ = some (.int .i64 (f i)) := by
  simp only [World.cell?, show w.heap[D]? = _ from h]
  exact dv_lo f V1 V2 V3 hi
theorem DB.hi (h : DB w D f V1 V2 V3) : w.cell? ⟨D, 256, none⟩ = some V1 ∧ w.cell? ⟨D, 257, none⟩ = some V2 ∧ w.cell? ⟨D, 258, none⟩ = some V3 := by
  refine ⟨?_, ?_, ?_⟩
  · simp only [World.cell?, show w.heap[D]? = _ from h]; exact dv_hi f V1 V2 V3 0
  · simp only [World.cell?, show w.heap[D]? = _ from h]; exact dv_hi f V1 V2 V3 1
  · simp only [World.cell?, show w.heap[D]? = _ from h]; exact dv_hi f V1 V2 V3 2
theorem DB.put1 (h : DB w D f V1 V2 V3) (v : Value) : DB (w.setCell ⟨D, 256, none⟩ v) D f v V2 V3 := by
  unfold DB
  rw [heap_set h]
  have e := dv_set f V1 V2 V3 v 0
  rw [show 256 + 0 = 256 from rfl] at e
  rw [e]
  rfl
theorem DB.put2 (h : DB w D f V1 V2 V3) (v : Value) : DB (w.setCell ⟨D, 257, none⟩ v) D f V1 v V3 := by
  unfold DB
  rw [heap_set h, dv_set f V1 V2 V3 v 1]
  rfl
theorem DB.put3 (h : DB w D f V1 V2 V3) (v : Value) : DB (w.setCell ⟨D, 258, none⟩ v) D f V1 V2 v := by
  unfold DB
  rw [heap_set h, dv_set f V1 V2 V3 v 2]
  rfl
theorem DB.row (h : DB w D f V1 V2 V3) (g : Nat → Int) (U1 U2 U3 : Value) : DB (w.setRow D (dv g U1 U2 U3)) D g U1 U2 U3 := setRow_heap w D (dv f V1 V2 V3) _ _ _ h
end
theorem dv_one (f : Nat → Int) {V1 V2 V3 : Value} (h : V1.oneCell' = true ∧ V2.oneCell' = true ∧ V3.oneCell' = true) : (dv f V1 V2 V3).all (·.oneCell') = true := by
  unfold dv
  rw [Array.all_append, cv_one]
  simp [h]
theorem wpList_load_dfa {ops : Array Oper} {rest : List Oper} {o : Oper} {a : Act} {w : World} {Q : Exit → Act → World → Prop} (hgd : o.guard = none) (x : Operand) (ho : o.op = .load 26 x) {D : Nat} {f : Nat → Int} {V1 V2 V3 : Value} (h : DB w D f V1 V2 V3) (hx : a.eval x = .pointer (some ⟨D, 0, none⟩))
    (hk : wpList Tryd.prog ops Q rest (a.put o.dst (.agg (dv f V1 V2 V3))) w) : wpList Tryd.prog ops Q (o :: rest) a w := by
  obtain ⟨fs, hu⟩ := underD
  exact wpList_load_row hgd _ x ho D hx _ _ (0, 0) _ h hu rfl (by rw [dv_size]; exact sizeD) hk
theorem wpList_store_dfa {ops : Array Oper} {rest : List Oper} {o : Oper} {a : Act} {w : World} {Q : Exit → Act → World → Prop} (hgd : o.guard = none) (x y : Operand) (ho : o.op = .store 26 x y) {D : Nat} {f g : Nat → Int} {V1 V2 V3 U1 U2 U3 : Value} (h : DB w D f V1 V2 V3) (h1 : U1.oneCell' = true ∧ U2.oneCell' = true ∧ U3.oneCell' = true) (hx : a.eval x = .pointer (some ⟨D, 0, none⟩)) (hy : a.eval y = .agg (dv g U1 U2 U3))
    (hk : wpList Tryd.prog ops Q rest (a.put o.dst undef) (w.setRow D (dv g U1 U2 U3))) : wpList Tryd.prog ops Q (o :: rest) a w :=
  wpList_plain hgd fun _ hK => wp_store_row _ x y ho D (dv g U1 U2 U3) hx hy _ _ h (by rw [dv_size]; exact sizeD) (by rw [dv_size, dv_size]) (dv_one g h1) (hK _ _ hk)
theorem wpList_build_dfa {ops : Array Oper} {rest : List Oper} {o : Oper} {a : Act} {w : World} {Q : Exit → Act → World → Prop} (hgd : o.guard = none) (x : Operand) (ho : o.op = .build 26 #[(0, x)]) {f : Nat → Int} (hx : a.eval x = .agg (cv f))
    (hk : wpList Tryd.prog ops Q rest (a.put o.dst (.agg (dv f nilV nilV nilV))) w) : wpList Tryd.prog ops Q (o :: rest) a w := by
  refine wpList_plain hgd fun K hK => ?_
  unfold Oper.wp execOp
  simp only [ho, List.map_toArray, List.map_cons, List.map_nil, hx, Sem.run_bind, builtD f w]
  exact hK _ _ hk
set_option maxRecDepth 20000 in
theorem builtD0 (w : World) : (Instr.build 26 #[]).run Tryd.prog w = .ok (.agg (dv (fun _ => 0) nilV nilV nilV)) w := run_build w _ _ _ (by kernel_rfl)
theorem wpList_build_dfa0 {ops : Array Oper} {rest : List Oper} {o : Oper} {a : Act} {w : World} {Q : Exit → Act → World → Prop} (hgd : o.guard = none) (ho : o.op = .build 26 #[])
    (hk : wpList Tryd.prog ops Q rest (a.put o.dst (.agg (dv (fun _ => 0) nilV nilV nilV))) w) : wpList Tryd.prog ops Q (o :: rest) a w := by
  refine wpList_plain hgd fun K hK => ?_
  unfold Oper.wp execOp
  simp only [ho, List.map_toArray, List.map_nil, Sem.run_bind, builtD0 w]
  exact hK _ _ hk
theorem results_dfa {fn : Func} {p q : Tmp} (h : fn.results = #[.cell p 26, .tmp q]) (tmps : Array Value) (w : World) {D : Nat} {f : Nat → Int} {V1 V2 V3 : Value} (hA : DB w D f V1 V2 V3) {v : Value} (hp : tmps.getD p undef = .pointer (some ⟨D, 0, none⟩)) (hq : tmps.getD q undef = v) :
    (results fn tmps).run Tryd.prog w = .ok (.tuple #[.agg (dv f V1 V2 V3), v]) w := by
  have hp' : tmps[p]?.getD undef = .pointer (some ⟨D, 0, none⟩) := by simpa using hp
  have hq' : tmps[q]?.getD undef = v := by simpa using hq
  obtain ⟨fs, hu⟩ := underD
  have hl := run_loadVar_row w D _ _ _ (0, 0) _ hA hu rfl (by rw [dv_size]; exact sizeD)
  simp [results, h, hp', hq', asAddr, hl]
end Go.Proofs.YtdngileimmgdnaaDoor

/- Slices as they are read, and a table in memory. -/
namespace Go.Proofs.YtdngileimmgdnaaDoor
open Go.RowKit

/-- A SLICE OF ONE-CELL THINGS IS READ SO. -/
def LAt (w : World) (V : Value) (xs : List Value) : Prop :=
  ∃ a c, V = .slice a xs.length c ∧ xs.length ≤ c ∧ c ≤ 9223372036854775807 ∧ (xs = [] ∨ ∃ b off, a = some ⟨b, off, none⟩ ∧ ∀ k v, xs[k]? = some v → w.cell? ⟨b, off + k, none⟩ = some v)
theorem LAt.keep {w w' : World} {V : Value} {xs : List Value} (h : LAt w V xs) (hk : ∀ b o v, w.cell? ⟨b, o, none⟩ = some v → w'.cell? ⟨b, o, none⟩ = some v) : LAt w' V xs := by
  obtain ⟨a, c, e, h1, h2, h3⟩ := h
  refine ⟨a, c, e, h1, h2, ?_⟩
  rcases h3 with h3 | ⟨b, off, ea, hc⟩
  · exact .inl h3
  · exact .inr ⟨b, off, ea, fun k v hv => hk b _ v (hc k v hv)⟩
theorem cell_later {w w' : World} (hb : Below w.heap.size w w') : ∀ b o v, w.cell? ⟨b, o, none⟩ = some v → w'.cell? ⟨b, o, none⟩ = some v := fun b o v h => by
  rw [hb.cell (p := ⟨b, o, none⟩) (World.block_lt_of_cell? w _ h)]; exact h
theorem LAt.later {w w' : World} {V : Value} {xs : List Value} (h : LAt w V xs) (hb : Below w.heap.size w w') : LAt w' V xs := h.keep (cell_later hb)
theorem LAt.one {w : World} {V : Value} {xs : List Value} (h : LAt w V xs) : V.oneCell' = true := by
  obtain ⟨a, c, rfl, _⟩ := h
  rfl
/-- its parts, where it is not empty -/
theorem LAt.open {w : World} {V : Value} {xs : List Value} (h : LAt w V xs) : ∃ a c, V = .slice a xs.length c ∧ xs.length ≤ c ∧ c ≤ 9223372036854775807 ∧ (∀ k v, xs[k]? = some v → ∃ b off, a = some ⟨b, off, none⟩ ∧ w.cell? ⟨b, off + k, none⟩ = some v) := by
  obtain ⟨a, c, e, h1, h2, h3⟩ := h
  refine ⟨a, c, e, h1, h2, fun k v hv => ?_⟩
  rcases h3 with rfl | ⟨b, off, ea, hc⟩
  · simp at hv
  · exact ⟨b, off, ea, hc k v hv⟩
theorem lat_nil (w : World) : LAt w nilV [] := ⟨none, 0, rfl, Nat.le_refl _, by omega, .inl rfl⟩
def ints (r : List Int) : List Value := r.map fun z => Value.int .i64 z
def u32s (r : List Nat) : List Value := r.map fun z => Value.int .u32 (z : Nat)
theorem ints_len (r : List Int) : (ints r).length = r.length := by simp [ints]
theorem u32s_len (r : List Nat) : (u32s r).length = r.length := by simp [u32s]
theorem ints_at {r : List Int} {k : Nat} {z : Int} (h : r[k]? = some z) : (ints r)[k]? = some (.int .i64 z) := by simp [ints, h]
theorem u32s_at {r : List Nat} {k z : Nat} (h : r[k]? = some z) : (u32s r)[k]? = some (.int .u32 (z : Nat)) := by simp [u32s, h]
/-- A TABLE IN MEMORY -/
structure DfAt (w : World) (d : Dt) (V1 V2 V3 : Value) (Us : List Value) : Prop where
  nx : LAt w V1 Us
  n : Us.length = d.S
  row : ∀ (s : Nat) (U : Value), Us[s]? = some U → LAt w U (ints (d.row s))
  fo : LAt w V2 (u32s d.fo)
  en : LAt w V3 (u32s d.en)
  bf : ∀ x ∈ d.fo, x < 4294967296
  be : ∀ x ∈ d.en, x < 4294967296
section
variable {w w' : World} {d : Dt} {V1 V2 V3 : Value} {Us : List Value}
theorem DfAt.keep (h : DfAt w d V1 V2 V3 Us) (hk : ∀ b o v, w.cell? ⟨b, o, none⟩ = some v → w'.cell? ⟨b, o, none⟩ = some v) : DfAt w' d V1 V2 V3 Us :=
  ⟨h.nx.keep hk, h.n, fun s U hU => (h.row s U hU).keep hk, h.fo.keep hk, h.en.keep hk, h.bf, h.be⟩
theorem DfAt.later (h : DfAt w d V1 V2 V3 Us) (hb : Below w.heap.size w w') : DfAt w' d V1 V2 V3 Us := h.keep (cell_later hb)
theorem DfAt.ones (h : DfAt w d V1 V2 V3 Us) : V1.oneCell' = true ∧ V2.oneCell' = true ∧ V3.oneCell' = true := ⟨h.nx.one, h.fo.one, h.en.one⟩
/-- the slices themselves -/
theorem DfAt.forms (h : DfAt w d V1 V2 V3 Us) : ∃ a1 c1 a2 c2 a3 c3, V1 = .slice a1 d.S c1 ∧ V2 = .slice a2 d.fo.length c2 ∧ V3 = .slice a3 d.en.length c3 ∧ d.S ≤ c1 ∧ c1 ≤ 9223372036854775807 ∧ d.fo.length ≤ c2 ∧ c2 ≤ 9223372036854775807 ∧ d.en.length ≤ c3 ∧ c3 ≤ 9223372036854775807 := by
  obtain ⟨a1, c1, e1, h1, k1, _⟩ := h.nx
  obtain ⟨a2, c2, e2, h2, k2, _⟩ := h.fo
  obtain ⟨a3, c3, e3, h3, k3, _⟩ := h.en
  rw [u32s_len] at e2 h2 e3 h3
  rw [h.n] at e1 h1
  exact ⟨a1, c1, a2, c2, a3, c3, e1, e2, e3, h1, k1, h2, k2, h3, k3⟩
/-- row s, the slice and its cells -/
theorem DfAt.rowAt (h : DfAt w d V1 V2 V3 Us) {s : Nat} (hs : s < d.S) {a1 : Option Addr} {c1 : Nat} (e1 : V1 = .slice a1 d.S c1) : ∃ b1 o1 U, a1 = some ⟨b1, o1, none⟩ ∧ w.cell? ⟨b1, o1 + s, none⟩ = some U ∧ LAt w U (ints (d.row s)) := by
  have hU : Us[s]? = some (Us[s]'(by rw [h.n]; exact hs)) := List.getElem?_eq_getElem _
  obtain ⟨a, c, e, _, _, hc⟩ := h.nx.open
  obtain ⟨b, off, ea, hcell⟩ := hc s _ hU
  have e0 := (Value.slice.inj (e1.symm.trans e)).1
  subst e0
  exact ⟨b, off, _, ea, hcell, h.row s _ hU⟩
theorem DfAt.foAt (h : DfAt w d V1 V2 V3 Us) {s : Nat} (hs : s < d.fo.length) {a2 : Option Addr} {c2 : Nat} (e2 : V2 = .slice a2 d.fo.length c2) : ∃ b o, a2 = some ⟨b, o, none⟩ ∧ w.cell? ⟨b, o + s, none⟩ = some (.int .u32 (d.f s : Nat)) ∧ d.f s < 4294967296 := by
  have hU : d.fo[s]? = some (d.f s) := by unfold Dt.f; rw [List.getD_eq_getElem?_getD, List.getElem?_eq_getElem hs]; rfl
  obtain ⟨a, c, e, _, _, hc⟩ := h.fo.open
  obtain ⟨b, off, ea, hcell⟩ := hc s _ (u32s_at hU)
  have e0 := (Value.slice.inj (e2.symm.trans e)).1
  subst e0
  exact ⟨b, off, ea, hcell, h.bf _ (List.mem_of_getElem? hU)⟩
theorem DfAt.enAt (h : DfAt w d V1 V2 V3 Us) {s : Nat} (hs : s < d.en.length) {a3 : Option Addr} {c3 : Nat} (e3 : V3 = .slice a3 d.en.length c3) : ∃ b o, a3 = some ⟨b, o, none⟩ ∧ w.cell? ⟨b, o + s, none⟩ = some (.int .u32 (d.e s : Nat)) ∧ d.e s < 4294967296 := by
  have hU : d.en[s]? = some (d.e s) := by unfold Dt.e; rw [List.getD_eq_getElem?_getD, List.getElem?_eq_getElem hs]; rfl
  obtain ⟨a, c, e, _, _, hc⟩ := h.en.open
  obtain ⟨b, off, ea, hcell⟩ := hc s _ (u32s_at hU)
  have e0 := (Value.slice.inj (e3.symm.trans e)).1
  subst e0
  exact ⟨b, off, ea, hcell, h.be _ (List.mem_of_getElem? hU)⟩
end
theorem LAt.intAt {w : World} {U : Value} {r : List Int} (h : LAt w U (ints r)) : ∃ a c, U = .slice a r.length c ∧ r.length ≤ c ∧ c ≤ 9223372036854775807 ∧ (∀ k, k < r.length → ∃ b off, a = some ⟨b, off, none⟩ ∧ w.cell? ⟨b, off + k, none⟩ = some (.int .i64 (r.getD k 0))) := by
  obtain ⟨a, c, e, h1, h2, hc⟩ := h.open
  rw [ints_len] at e h1
  refine ⟨a, c, e, h1, h2, fun k hk => hc k _ (ints_at ?_)⟩
  rw [List.getD_eq_getElem?_getD, List.getElem?_eq_getElem hk]
  rfl
theorem db_new (w : World) (f : Nat → Int) (V1 V2 V3 : Value) : DB (w.alloc (.cells (dv f V1 V2 V3) 26)) w.heap.size f V1 V2 V3 := heap_alloc_new w _
end Go.Proofs.YtdngileimmgdnaaDoor
