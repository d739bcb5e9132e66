/- What the walks over sets find in memory: bytes and sets read from a slice; a set's block written word by word; the state of a loop that gathers a set. -/
import Derived.Test.YtkgpmaclaahmbaaBase
import Derived.Laws.StructEq
namespace Go.Proofs.Ytkgpmaclaahmbaa
open Go.RowKit

/-- BYTES READ FROM A SLICE: there are none, or they lie from the address on. -/
def BytesAt (w : World) (a : Option Addr) (bs : List Nat) : Prop :=
  bs = [] ∨ ∃ b off, a = some ⟨b, off, none⟩ ∧ ∀ k, k < bs.length → w.cell? ⟨b, off + k, none⟩ = some (.int .u8 (bs.getD k 0 : Nat))
theorem bytesAt_later {w w' : World} {a : Option Addr} {bs : List Nat} (h : Below w.heap.size w w') (hT : BytesAt w a bs) : BytesAt w' a bs := by
  rcases hT with h0 | ⟨b, off, rfl, hc⟩
  · exact Or.inl h0
  · exact Or.inr ⟨b, off, rfl, fun k hk => by rw [h.cell (p := ⟨b, off + k, none⟩) (World.block_lt_of_cell? w _ (hc k hk))]; exact hc k hk⟩
theorem bytesAt_cell {w w' : World} {a : Option Addr} {bs : List Nat} (hT : BytesAt w a bs) (h : Below w.heap.size w w') {k : Nat} (hk : k < bs.length) : ∃ b off, a = some ⟨b, off, none⟩ ∧ w'.cell? ⟨b, off + k, none⟩ = some (.int .u8 (bs.getD k 0 : Nat)) := by
  rcases bytesAt_later h hT with rfl | ⟨b, off, rfl, hc⟩
  · simp at hk
  · exact ⟨b, off, rfl, hc k hk⟩
theorem bytesAt_new (w : World) (bs : List Nat) (t : TypeId) (fr : Nat × Nat) : BytesAt (w.alloc (.cells (bs.map (fun z => Value.int .u8 (z : Nat))).toArray t fr)) (some ⟨w.heap.size, 0, none⟩) bs := by
  refine Or.inr ⟨_, 0, rfl, fun k hk => ?_⟩
  rw [World.cell?_alloc_mark]
  simp [hk]
/-- SETS READ FROM A SLICE. -/
def SetsAt (w : World) (a : Option Addr) (l : List Oct.S) : Prop :=
  l = [] ∨ ∃ b off, a = some ⟨b, off, none⟩ ∧ ∀ k s, l[k]? = some s →
    w.cell? ⟨b, off + k * 4, none⟩ = some (.int .u64 (Oct.word s 0 : Nat)) ∧ w.cell? ⟨b, off + k * 4 + 1, none⟩ = some (.int .u64 (Oct.word s 1 : Nat)) ∧ w.cell? ⟨b, off + k * 4 + 2, none⟩ = some (.int .u64 (Oct.word s 2 : Nat)) ∧ w.cell? ⟨b, off + k * 4 + 3, none⟩ = some (.int .u64 (Oct.word s 3 : Nat))
theorem setsAt_later {w w' : World} {a : Option Addr} {l : List Oct.S} (hb : Below w.heap.size w w') (h : SetsAt w a l) : SetsAt w' a l := by
  rcases h with h0 | ⟨b, off, rfl, hc⟩
  · exact Or.inl h0
  · refine Or.inr ⟨b, off, rfl, fun k s hk => ?_⟩
    obtain ⟨h0, h1, h2, h3⟩ := hc k s hk
    have hlt := World.block_lt_of_cell? w _ h0
    exact ⟨(hb.cell (p := ⟨b, off + k * 4, none⟩) hlt).trans h0, (hb.cell (p := ⟨b, off + k * 4 + 1, none⟩) hlt).trans h1, (hb.cell (p := ⟨b, off + k * 4 + 2, none⟩) hlt).trans h2, (hb.cell (p := ⟨b, off + k * 4 + 3, none⟩) hlt).trans h3⟩
theorem setsAt_cell {w w' : World} {a : Option Addr} {l : List Oct.S} (h : SetsAt w a l) (hb : Below w.heap.size w w') {k : Nat} {s : Oct.S} (hk : l[k]? = some s) :
    ∃ b off, a = some ⟨b, off, none⟩ ∧ w'.cell? ⟨b, off + k * 4, none⟩ = some (.int .u64 (Oct.word s 0 : Nat)) ∧ w'.cell? ⟨b, off + k * 4 + 1, none⟩ = some (.int .u64 (Oct.word s 1 : Nat)) ∧ w'.cell? ⟨b, off + k * 4 + 2, none⟩ = some (.int .u64 (Oct.word s 2 : Nat)) ∧ w'.cell? ⟨b, off + k * 4 + 3, none⟩ = some (.int .u64 (Oct.word s 3 : Nat)) := by
  rcases setsAt_later hb h with rfl | ⟨b, off, rfl, hc⟩
  · simp at hk
  · exact ⟨b, off, rfl, hc k s hk⟩

/-- one word of a set's block written -/
theorem SB.set {w : World} {A : Nat} {s t : Oct.S} (h : SB w A s) (j : Nat) (hj : j < 4) (x : Int) (hx : x = (Oct.word t j : Nat)) (ho : ∀ i, i < 4 → i ≠ j → Oct.word s i = Oct.word t i) : SB (w.setCell ⟨A, j, none⟩ (.int .u64 x)) A t := by
  unfold SB at h ⊢
  simp only [World.setCell, Array.getElem?_modify, h]
  have h4 : j = 0 ∨ j = 1 ∨ j = 2 ∨ j = 3 := by omega
  rcases h4 with rfl | rfl | rfl | rfl
  · rw [hx, ho 1 (by decide) (by decide), ho 2 (by decide) (by decide), ho 3 (by decide) (by decide)]; rfl
  · rw [hx, ho 0 (by decide) (by decide), ho 2 (by decide) (by decide), ho 3 (by decide) (by decide)]; rfl
  · rw [hx, ho 0 (by decide) (by decide), ho 1 (by decide) (by decide), ho 3 (by decide) (by decide)]; rfl
  · rw [hx, ho 0 (by decide) (by decide), ho 1 (by decide) (by decide), ho 2 (by decide) (by decide)]; rfl

/-- THE STATE OF A LOOP THAT GATHERS A SET: nothing in the result yet, so much in the variable; all from before the call stands. -/
def St (w u : World) (R V : Nat) (s : Oct.S) : Prop := SB u R Oct.none ∧ SB u V s ∧ Below w.heap.size w u
theorem St.later {w u u' : World} {R V : Nat} {s : Oct.S} (h : St w u R V s) (hb : Below u.heap.size u u') : St w u' R V s := ⟨h.1.later hb, h.2.1.later hb, below_trans h.2.2 hb h.2.2.size⟩
theorem St.put {w u : World} {R V : Nat} {s : Oct.S} (h : St w u R V s) (hne : R ≠ V) (hV : w.heap.size ≤ V) (t : Oct.S) : St w (put4 u V t) R V t := ⟨h.1.put4_other hne t, h.2.1.put4 t, below_put4 h.2.2 hV t⟩
theorem St.set {w u : World} {R V : Nat} {s t : Oct.S} (h : St w u R V s) (hne : R ≠ V) (hV : w.heap.size ≤ V) (j : Nat) (hj : j < 4) (x : Int) (hx : x = (Oct.word t j : Nat)) (ho : ∀ i, i < 4 → i ≠ j → Oct.word s i = Oct.word t i) : St w (u.setCell ⟨V, j, none⟩ (.int .u64 x)) R V t :=
  ⟨h.1.other hne _ _, h.2.1.set j hj x hx ho, h.2.2.setCell (p := ⟨V, j, none⟩) hV _⟩
theorem St.as {w u : World} {R V : Nat} {s t : Oct.S} (h : St w u R V s) (e : ∀ b, b < 256 → s b = t b) : St w u R V t := by
  refine ⟨h.1, ?_, h.2.2⟩
  have h2 := h.2.1
  unfold SB at h2 ⊢
  rw [Oct.word_congr (s := s) (t := t) (i := 0) (fun k hk => e _ (by omega)), Oct.word_congr (s := s) (t := t) (i := 1) (fun k hk => e _ (by omega)), Oct.word_congr (s := s) (t := t) (i := 2) (fun k hk => e _ (by omega)), Oct.word_congr (s := s) (t := t) (i := 3) (fun k hk => e _ (by omega))] at h2
  exact h2
/-- what the walk wants of a state -/
theorem St.facts {w u : World} {R V : Nat} {s : Oct.S} (h : St w u R V s) :
    (u.cell? ⟨V, 0, none⟩ = some (.int .u64 (Oct.word s 0 : Nat)) ∧ u.cell? ⟨V, 1, none⟩ = some (.int .u64 (Oct.word s 1 : Nat)) ∧ u.cell? ⟨V, 2, none⟩ = some (.int .u64 (Oct.word s 2 : Nat)) ∧ u.cell? ⟨V, 3, none⟩ = some (.int .u64 (Oct.word s 3 : Nat))) ∧
    (u.frozen? ⟨V, 0, none⟩ = false ∧ u.frozen? ⟨V, 1, none⟩ = false ∧ u.frozen? ⟨V, 2, none⟩ = false ∧ u.frozen? ⟨V, 3, none⟩ = false) ∧
    (u.cell? ⟨R, 0, none⟩ = some (.int .u64 (Oct.word Oct.none 0 : Nat)) ∧ u.cell? ⟨R, 1, none⟩ = some (.int .u64 (Oct.word Oct.none 1 : Nat)) ∧ u.cell? ⟨R, 2, none⟩ = some (.int .u64 (Oct.word Oct.none 2 : Nat)) ∧ u.cell? ⟨R, 3, none⟩ = some (.int .u64 (Oct.word Oct.none 3 : Nat))) ∧
    (u.frozen? ⟨R, 0, none⟩ = false ∧ u.frozen? ⟨R, 1, none⟩ = false ∧ u.frozen? ⟨R, 2, none⟩ = false ∧ u.frozen? ⟨R, 3, none⟩ = false) :=
  ⟨h.2.1.cells, ⟨h.2.1.frozen 0, h.2.1.frozen 1, h.2.1.frozen 2, h.2.1.frozen 3⟩, h.1.cells, ⟨h.1.frozen 0, h.1.frozen 1, h.1.frozen 2, h.1.frozen 3⟩⟩
theorem start2 (w : World) : St w ((w.alloc (.cells #[.int .u64 0, .int .u64 0, .int .u64 0, .int .u64 0] 24)).alloc (.cells #[.int .u64 0, .int .u64 0, .int .u64 0, .int .u64 0] 24)) w.heap.size (w.heap.size + 1) Oct.none := by
  have h := sb_zero (w.alloc (.cells #[.int .u64 0, .int .u64 0, .int .u64 0, .int .u64 0] 24))
  rw [World.size_alloc] at h
  exact ⟨(sb_zero w).later ((Below.refl _ _).alloc (Nat.le_refl _) _), h, ((Below.refl _ _).alloc (Nat.le_refl _) _).alloc (by simp) _⟩
theorem start2_hid (w : World) : Hid (St w ((w.alloc (.cells #[.int .u64 0, .int .u64 0, .int .u64 0, .int .u64 0] 24)).alloc (.cells #[.int .u64 0, .int .u64 0, .int .u64 0, .int .u64 0] 24)) w.heap.size (w.heap.size + 1) Oct.none) := start2 w
theorem start2' (w0 w : World) (hb : Below w0.heap.size w0 w) : St w0 ((w.alloc (.cells #[.int .u64 0, .int .u64 0, .int .u64 0, .int .u64 0] 24)).alloc (.cells #[.int .u64 0, .int .u64 0, .int .u64 0, .int .u64 0] 24)) w.heap.size (w.heap.size + 1) Oct.none :=
  ⟨(start2 w).1, (start2 w).2.1, below_trans hb (start2 w).2.2 hb.size⟩
/-- the variable into the result: the function's end -/
theorem St.ret {w u : World} {R V : Nat} {s : Oct.S} (h : St w u R V s) (f : Func) (slot : Nat) (hf : f.results = #[.cell slot 24]) {a : Act} (hd : a.defers = []) (ha : a.tmps[slot]?.getD undef = .pointer (some ⟨R, 0, none⟩)) (hR : w.heap.size ≤ R) (t : Oct.S) (e : ∀ b, b < 256 → s b = t b) :
    bodyPost Try.prog f (fun e w' => e = .returned (setV t) ∧ Below w.heap.size w w') .ret a (put4 u R s) :=
  post_set f slot hf hd ha (h.1.put4 s) ⟨by rw [setV_congr e], below_put4 h.2.2 hR s⟩
/-- a set that a call answered, into the result -/
theorem St.put4_ret {w u : World} {R V : Nat} {s : Oct.S} (h : St w u R V s) (x : Oct.S) (f : Func) (slot : Nat) (hf : f.results = #[.cell slot 24]) {a : Act} (hd : a.defers = []) (ha : a.tmps[slot]?.getD undef = .pointer (some ⟨R, 0, none⟩)) (hR : w.heap.size ≤ R) (t : Oct.S) (e : ∀ b, b < 256 → x b = t b) :
    bodyPost Try.prog f (fun e w' => e = .returned (setV t) ∧ Below w.heap.size w w') .ret a (put4 u R x) :=
  post_set f slot hf hd ha (h.1.put4 x) ⟨by rw [setV_congr e], below_put4 h.2.2 hR x⟩
theorem info22 : (Try.prog.info? 22).map (fun i => (i.zero, i.size, i.bytes)) = some (some (.int .u64 0), 1, 8) := by kernel_rfl
theorem idx0 (a b c d : Value) (w : World) : (Instr.index 24 (.agg #[a, b, c, d]) (.int .i64 0)).run Try.prog w = .ok a w := by
  obtain ⟨i0, hi, hz0, hz1, hz2⟩ := info_parts info22
  simp [Instr.index, asIntOf, run_underlying Try.underlying24, sizeOf, typeInfo, hi, hz1, part, Try.isAgg22]
theorem idx1 (a b c d : Value) (w : World) : (Instr.index 24 (.agg #[a, b, c, d]) (.int .i64 1)).run Try.prog w = .ok b w := by
  obtain ⟨i0, hi, hz0, hz1, hz2⟩ := info_parts info22
  simp [Instr.index, asIntOf, run_underlying Try.underlying24, sizeOf, typeInfo, hi, hz1, part, Try.isAgg22]
theorem idx2 (a b c d : Value) (w : World) : (Instr.index 24 (.agg #[a, b, c, d]) (.int .i64 2)).run Try.prog w = .ok c w := by
  obtain ⟨i0, hi, hz0, hz1, hz2⟩ := info_parts info22
  simp [Instr.index, asIntOf, run_underlying Try.underlying24, sizeOf, typeInfo, hi, hz1, part, Try.isAgg22]
theorem idx3 (a b c d : Value) (w : World) : (Instr.index 24 (.agg #[a, b, c, d]) (.int .i64 3)).run Try.prog w = .ok d w := by
  obtain ⟨i0, hi, hz0, hz1, hz2⟩ := info_parts info22
  simp [Instr.index, asIntOf, run_underlying Try.underlying24, sizeOf, typeInfo, hi, hz1, part, Try.isAgg22]
theorem eq4_same (a b c d : Int) (w : World) : (Op.equalIn 10000 24 (.agg #[.int .u64 a, .int .u64 b, .int .u64 c, .int .u64 d]) (.agg #[.int .u64 a, .int .u64 b, .int .u64 c, .int .u64 d])).run Try.prog w = .ok true w := by
  obtain ⟨i0, hi, hz0, hz1, hz2⟩ := info_parts info22
  have h1 : ∀ x : Int, (Op.equalIn 9999 22 (.int .u64 x) (.int .u64 x)).run Try.prog w = .ok true w := fun x => by
    rw [run_equalIn_int w 9998 22 .u64 .u64 x x Try.underlying22]; simp
  rw [show (10000 : Nat) = 9999 + 1 from rfl, Op.equalIn]
  simp [run_underlying Try.underlying24, sizeOf, typeInfo, hi, hz1, part, Try.isAgg22, Std.Legacy.Range.forIn_eq_forIn_range', Std.Legacy.Range.size, List.range'_succ, List.range'_zero, h1]
theorem under29 : Try.prog.underlying 29 = some (.func #[53] #[] false) := by kernel_rfl
theorem equal_func (f : Fn) (l b : Array Value) (w : World) : (Op.equalIn 10000 29 (.func f l b) .nilFunc).run Try.prog w = .ok false w := by
  rw [show (10000 : Nat) = 9999 + 1 from rfl, Op.equalIn]
  simp [run_underlying under29]
theorem neq_func (f : Fn) (l b : Array Value) (w : World) : (binOp .neq 29 (.func f l b) .nilFunc).run Try.prog w = .ok (.bool true) w := by
  have h := equal_func f l b w
  simp only [binOp]
  simp [Op.equal, Op.maxDepth, h]
theorem eql_func (f : Fn) (l b : Array Value) (w : World) : (binOp .eql 29 (.func f l b) .nilFunc).run Try.prog w = .ok (.bool false) w := by
  have h := equal_func f l b w
  simp only [binOp]
  simp [Op.equal, Op.maxDepth, h]
theorem getD_mem {bs : List Nat} {k : Nat} (h : k < bs.length) : bs.getD k 0 ∈ bs := by
  simp [List.getD, h]
theorem with_sum (s : Oct.S) (f k : Nat) (w : World) (hb : f + k < 256) : Calls Try.prog 31 #[setV s, .int .u8 ((f : Int) + (k : Int))] w fun e w' => e = .returned (setV (Oct.ins s (f + k))) ∧ Below w.heap.size w w' := by
  have h := with_any s (f + k) w hb
  rw [Int.natCast_add] at h
  exact h
end Go.Proofs.Ytkgpmaclaahmbaa
