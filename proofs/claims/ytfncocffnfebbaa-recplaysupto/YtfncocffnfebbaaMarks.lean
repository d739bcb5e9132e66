/- Laws for the book's whole: lists that were answered written over with marks, each a memory of its own; an append to a full list. -/
import Derived.Test.YtfncocffnfebbaaBook
namespace Go.Proofs.Ytfncocffnfebbaa
open Go.RowKit

/-- a list that was answered lies in a block of bytes that may be written -/
def Ans.Lies (u : World) (A : Ans) : Prop := A.n = 0 ∨ (A.a = some ⟨A.b, A.o, none⟩ ∧ ∃ cur, u.heap[A.b]? = some (.cells cur 5 (0, 0)) ∧ A.o + A.n ≤ cur.size)
/-- two lists that were answered, the second one later, have no byte in common -/
def Ans.Apart (A C : Ans) : Prop := A.n = 0 ∨ C.n = 0 ∨ A.b ≠ C.b ∨ A.o + A.n ≤ C.o
def Ans.Marked (u : World) (A : Ans) (z : Int) : Prop := ∀ k, k < A.n → u.cell? ⟨A.b, A.o + k, none⟩ = some (.int .u8 z)
/-- the mark of list i -/
def mark (i : Nat) : Int := ((i + 1) % 256 : Nat)

theorem heap_set5 {v : World} {b j : Nat} {x : Value} {cur : Array Value} (h : v.heap[b]? = some (.cells cur 5 (0, 0))) : (v.setCell ⟨b, j, none⟩ x).heap[b]? = some (.cells (cur.setIfInBounds j x) 5 (0, 0)) := by
  simp only [World.setCell, Array.getElem?_modify, h]
  rfl
theorem Ans.Lies.set {v : World} {A : Ans} (h : A.Lies v) (b j : Nat) (x : Value) : A.Lies (v.setCell ⟨b, j, none⟩ x) := by
  rcases h with h0 | ⟨ha, cur, hc, hs⟩
  · exact Or.inl h0
  · refine Or.inr ⟨ha, ?_⟩
    by_cases e : A.b = b
    · subst e
      exact ⟨_, heap_set5 hc, by simpa using hs⟩
    · exact ⟨cur, by rw [Below.heap_setCell v ⟨b, j, none⟩ x A.b e]; exact hc, hs⟩
theorem cell_set_other {v : World} {b j c k : Nat} {x : Value} (h : b ≠ c ∨ j ≠ k) : (v.setCell ⟨b, j, none⟩ x).cell? ⟨c, k, none⟩ = v.cell? ⟨c, k, none⟩ := by
  by_cases e : c = b
  · subst e
    have hjk : j ≠ k := by rcases h with h | h; exact absurd rfl h; exact h
    simp only [World.cell?, World.setCell, Array.getElem?_modify]
    cases v.heap[c]? with
    | none => simp
    | some o => cases o <;> simp [hjk]
  · exact World.cell?_of_block (w := v) (Below.heap_setCell v ⟨b, j, none⟩ x c e)
theorem cell_set_same {v : World} {b j : Nat} {x : Value} {cur : Array Value} (h : v.heap[b]? = some (.cells cur 5 (0, 0))) (hj : j < cur.size) : (v.setCell ⟨b, j, none⟩ x).cell? ⟨b, j, none⟩ = some x := by
  have h2 := heap_set5 (j := j) (x := x) h
  simp [World.cell?, h2, hj]
/-- a mark laid into a list leaves an earlier list's marks -/
theorem Ans.Marked.set {v : World} {A C : Ans} {z : Int} {j : Nat} {x : Value} (h : A.Marked v z) (hap : Ans.Apart A C) (hj : j < C.n) : A.Marked (v.setCell ⟨C.b, C.o + j, none⟩ x) z := fun k hk => by
  rw [cell_set_other]
  · exact h k hk
  · rcases hap with e | e | e | e
    · omega
    · omega
    · exact Or.inl (Ne.symm e)
    · exact Or.inr (by omega)

/-- what the two loops that lay the marks keep: u the world at their start, k lists are marked -/
structure Laying (B : Nat) (ans : List Ans) (u v : World) (k : Nat) : Prop where
  rest : ∀ (b : Nat) (cur : Array Value) (t : TypeId) (fr : Nat × Nat), t ≠ 5 → u.heap[b]? = some (.cells cur t fr) → v.heap[b]? = some (.cells cur t fr)
  far : ∀ (F : Nat) (cur : Array Value) (fr : Nat × Nat), u.heap[F]? = some (.cells cur 5 fr) → (∀ A ∈ ans, A.n = 0 ∨ A.b ≠ F) → v.heap[F]? = some (.cells cur 5 fr)
  below : Below B u v
  lies : ∀ A ∈ ans, A.Lies v
  marked : ∀ (i : Nat) (A : Ans), i < k → ans[i]? = some A → A.Marked v (mark i)
theorem laying_start {B : Nat} {ans : List Ans} {u v : World} (hb : Below u.heap.size u v) (hB : B ≤ u.heap.size) (hl : ∀ A ∈ ans, A.Lies u) : Laying B ans u v 0 := by
  have key : ∀ (b : Nat) (o : Obj), u.heap[b]? = some o → v.heap[b]? = some o := fun b o h => by rw [hb.block b (Array.getElem?_eq_some_iff.1 h).1]; exact h
  refine ⟨fun b cur t fr _ h => key b _ h, fun F cur fr h _ => key F _ h, hb.mono hB, fun A hA => ?_, fun i A hi _ => by omega⟩
  rcases hl A hA with h0 | ⟨ha, cur, hc, hs⟩
  · exact Or.inl h0
  · exact Or.inr ⟨ha, cur, key _ _ hc, hs⟩
theorem Laying.step {B : Nat} {ans : List Ans} {u v : World} {k j : Nat} {C : Ans} (h : Laying B ans u v k) (hC : ans[k]? = some C) (hj : j < C.n) (hap : ans.Pairwise Ans.Apart) (hbase : ∀ A ∈ ans, A.n ≠ 0 → B ≤ A.b) (x : Value) (hu : ∃ cur fr, u.heap[C.b]? = some (.cells cur 5 fr)) :
    Laying B ans u (v.setCell ⟨C.b, C.o + j, none⟩ x) k := by
  have hmem := List.mem_of_getElem? hC
  have hn0 : C.n ≠ 0 := by omega
  refine ⟨fun b cur t fr ht hb => ?_, fun F cur fr hF hA => ?_, h.below.setCell (p := ⟨C.b, C.o + j, none⟩) (hbase C hmem hn0) x, fun A hA => (h.lies A hA).set _ _ _, fun i A hi hA => ?_⟩
  · have hne : b ≠ C.b := fun e => by
      subst e
      obtain ⟨cur', fr', hu'⟩ := hu
      rw [hu'] at hb
      simp only [Option.some.injEq, Obj.cells.injEq] at hb
      exact ht hb.2.1.symm
    rw [Below.heap_setCell v ⟨C.b, C.o + j, none⟩ x b hne]
    exact h.rest b cur t fr ht hb
  · have hne : F ≠ C.b := fun e => by
      rcases hA C hmem with h0 | h0
      · exact hn0 h0
      · exact h0 e.symm
    rw [Below.heap_setCell v ⟨C.b, C.o + j, none⟩ x F hne]
    exact h.far F cur fr hF hA
  · have hil : i < ans.length := (List.getElem?_eq_some_iff.1 hA).1
    have hkl : k < ans.length := (List.getElem?_eq_some_iff.1 hC).1
    have hr := List.pairwise_iff_getElem.1 hap i k hil hkl hi
    rw [(List.getElem?_eq_some_iff.1 hA).2, (List.getElem?_eq_some_iff.1 hC).2] at hr
    exact (h.marked i A hi hA).set hr hj

/-- append of one byte to a full list: new memory -/
theorem wpList_append_full {w : World} {ops : Array Oper} {rest : List Oper} {o : Oper} {a : Act} {Q : Exit → Act → World → Prop} (hgd : o.guard = none) (s x : Operand)
    (ho : o.op = .call { callee := .builtin .append, args := #[s, x], argTypes := #[26, 26] }) (ad : Option Addr) (n : Nat) (zs : List Int) (z : Int) (hs : a.eval s = .slice ad n n) (hx : a.eval x = .slice (some ⟨w.heap.size, 0, none⟩) 1 1)
    (hn : n = zs.length) (hb : BytesAt w ad zs) (hl : n ≤ 16777216)
    (h : ∀ g c w', (∃ cur, w'.heap[g]? = some (.cells cur 5 (0, 0)) ∧ ∀ q, q < n + 1 → cur[q]? = some (.int .u8 ((zs ++ [z]).getD q 0))) → Below w.heap.size w w' → w.heap.size ≤ g → g < w'.heap.size → wpList Try.prog ops Q rest (a.put o.dst (.slice (some ⟨g, 0, none⟩) (n + 1) c)) w') :
    wpList Try.prog ops Q (o :: rest) a (w.alloc (.cells #[.int .u8 z] 5)) := by
  obtain ⟨i0, hi, hz0, hz1, hz2⟩ := info_parts info5
  have hal : Below w.heap.size w (w.alloc (.cells #[.int .u8 z] 5)) := (Below.refl _ _).alloc (Nat.le_refl _) _
  have hnews : ∀ (j : Nat) (v : Value), ([Value.int .u8 z] : List Value)[j]? = some v → (w.alloc (.cells #[.int .u8 z] 5)).cell? ((⟨w.heap.size, 0, none⟩ : Addr).add j) = some v := World.news_of_block (cs := #[.int .u8 z]) (t := 5) (fr := (0, 0)) (heap_alloc_new w _)
  have fin : ∀ (C : Array Value) (c : Nat), (∀ q, q < n + 1 → C[q]? = some (.int .u8 ((zs ++ [z]).getD q 0))) →
      wpList Try.prog ops Q rest (a.put o.dst (.slice (some ⟨(w.alloc (.cells #[.int .u8 z] 5)).heap.size, 0, none⟩) (n + 1) c)) ((w.alloc (.cells #[.int .u8 z] 5)).drew.alloc (.cells C 5)) := fun C c hC =>
    h _ c _ ⟨C, heap_alloc_new _ _, hC⟩ ((hal.drew).alloc (by simp) _) (by simp) (by simp)
  refine wpList_plain hgd fun K hK => ?_
  cases ad with
  | none =>
    have hz : zs = [] := by rcases hb with h0 | ⟨_, _, e, _⟩; exact h0; cases e
    subst hz
    have hn0 : n = 0 := hn
    subst hn0
    have hr := run_append_nil (P := Try.prog) (w.alloc (.cells #[.int .u8 z] 5)) 26 o.type 5 i0 (.int .u8 0) Try.underlying26 hi hz0 ⟨w.heap.size, 0, none⟩ 1 1 [Value.int .u8 z] (by rw [hz1]; rfl) hnews (by omega) (by omega) (by rw [hz2]; omega)
    unfold Oper.wp execOp
    simp only [ho, resolve, invoke, builtin, Sem.run_bind, Sem.run_pure, Result.andThen_ok, List.map_toArray, List.map_cons, List.map_nil, hs, hx, hr]
    refine hK _ _ (fin _ _ (fun q hq => ?_))
    obtain rfl : q = 0 := by omega
    rw [Array.getElem?_append_left (by simp)]
    simp
  | some b =>
    have holds : ∀ (j : Nat) (v : Value), (cellsOf zs)[j]? = some v → (w.alloc (.cells #[.int .u8 z] 5)).cell? (b.add j) = some v := fun j v hj => by
      rcases bytesAt_later hal hb with h0 | ⟨g, p, e, _⟩
      · rw [h0] at hj; simp [cellsOf] at hj
      · cases e
        exact cells_at (bytesAt_later hal hb) j v hj
    have hr := run_append_grow (P := Try.prog) (w.alloc (.cells #[.int .u8 z] 5)) 26 o.type 5 i0 (.int .u8 0) Try.underlying26 hi hz0 b n n (cellsOf zs) (by rw [cellsOf_length, hz1]; omega) holds ⟨w.heap.size, 0, none⟩ 1 1 [Value.int .u8 z] (by rw [hz1]; rfl) hnews (by omega) (by omega)
      (growslice_fits_wide (by omega) (by rw [hz2]; omega))
    unfold Oper.wp execOp
    simp only [ho, resolve, invoke, builtin, Sem.run_bind, Sem.run_pure, Result.andThen_ok, List.map_toArray, List.map_cons, List.map_nil, hs, hx, hr]
    refine hK _ _ (fin _ _ (fun q hq => ?_))
    have hlen : (cellsOf zs).length = n := by rw [cellsOf_length, hn]
    rw [Array.getElem?_append_left (by simp [hlen]; omega)]
    have e1 : ((cellsOf zs).toArray ++ [Value.int .u8 z].toArray)[q]? = (cellsOf (zs ++ [z]))[q]? := by
      rw [cellsOf_append]
      simp [cellsOf]
    rw [e1]
    have hq2 : q < (zs ++ [z]).length := by simp; omega
    simp only [cellsOf, List.getElem?_map, List.getElem?_eq_getElem hq2, Option.map_some, List.getD, Option.getD_some]
end Go.Proofs.Ytfncocffnfebbaa
