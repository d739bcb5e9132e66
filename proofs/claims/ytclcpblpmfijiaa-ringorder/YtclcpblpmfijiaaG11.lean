/- For RingOrder: equality of things; a ring and a queue apart. -/
import Derived.Test.YtclcpblpmfijiaaG10
import Derived.Laws.StructEq
namespace Go.Proofs.Ytclcpblpmfijiaa
open Go.RowKit Go.Maps Rg

theorem eq_same (s : ByteArray) (z : Int) (u : World) : (Op.equal 29 (.agg #[.string s, .int .i64 z]) (.agg #[.string s, .int .i64 z])).run Try.prog u = .ok true u := by
  show (Op.equalIn 10000 29 _ _).run Try.prog u = _
  rw [show (10000 : Nat) = 9999 + 1 from rfl, run_equalIn_struct u 9999 29 _ _ (by kernel_rfl) (by kernel_rfl)]
  simp [go_sem]
theorem neq_same (s : ByteArray) (z : Int) (u : World) : (binOp .neq 29 (.agg #[.string s, .int .i64 z]) (.agg #[.string s, .int .i64 z])).run Try.prog u = .ok (.bool false) u := by
  simp [binOp, eq_same]
theorem eql_same (s : ByteArray) (z : Int) (u : World) : (binOp .eql 29 (.agg #[.string s, .int .i64 z]) (.agg #[.string s, .int .i64 z])).run Try.prog u = .ok (.bool true) u := by
  simp [binOp, eq_same]
/-- things in a row -/
def ThAt (w : World) (a : Option Addr) (l : List Th) : Prop := l = [] ∨ ∃ b off, a = some ⟨b, off, none⟩ ∧ ∀ (i : Nat) x, l[i]? = some x → w.cell? ⟨b, off + i * 2, none⟩ = some (.string x.s) ∧ w.cell? ⟨b, off + i * 2 + 1, none⟩ = some (.int .i64 x.n)
theorem ThAt.later {w u : World} {a : Option Addr} {l : List Th} (h : ThAt w a l) (hb : Below w.heap.size w u) : ThAt u a l := by
  rcases h with h | ⟨b, off, e, hc⟩
  · exact .inl h
  · exact .inr ⟨b, off, e, fun i x hi => ⟨cell_later hb _ _ _ (hc i x hi).1, cell_later hb _ _ _ (hc i x hi).2⟩⟩
theorem ThAt.nth {w : World} {a : Option Addr} {l : List Th} (h : ThAt w a l) {i : Nat} (hi : i < l.length) : ∃ b off, a = some ⟨b, off, none⟩ ∧ w.cell? ⟨b, off + i * 2, none⟩ = some (.string l[i].s) ∧ w.cell? ⟨b, off + i * 2 + 1, none⟩ = some (.int .i64 l[i].n) := by
  rcases h with h | ⟨b, off, e, hc⟩
  · subst h; simp at hi
  · exact ⟨b, off, e, hc i l[i] (List.getElem?_eq_getElem hi)⟩
def flat (l : List Th) : List Value := l.flatMap fun x => [.string x.s, .int .i64 x.n]
theorem flat_len (l : List Th) : (flat l).length = l.length * 2 := by
  induction l with
  | nil => rfl
  | cons x t ih => simp only [flat, List.flatMap_cons, List.length_append, List.length_cons, List.length_nil]; unfold flat at ih; omega
theorem flat_snoc (l : List Th) (x : Th) : flat (l ++ [x]) = flat l ++ [.string x.s, .int .i64 x.n] := by simp [flat]
theorem flat_drop (x : Th) (t : List Th) : (flat (x :: t)).drop 2 = flat t := rfl
theorem flat_at : ∀ (l : List Th) (k : Nat) (h : k < l.length), (flat l)[k * 2]? = some (.string l[k].s) ∧ (flat l)[k * 2 + 1]? = some (.int .i64 l[k].n)
  | [], k, h => by simp at h
  | x :: t, 0, _ => ⟨rfl, rfl⟩
  | x :: t, k + 1, h => by
    have := flat_at t k (by simpa using h)
    rw [show (k + 1) * 2 = k * 2 + 1 + 1 by omega]
    exact this
/-- A QUEUE OF THE LAW's OWN, apart from the row R -/
def WQ (base : Nat) (u : World) (R : Nat) (V : Value) (l : List Th) : Prop := (V = .slice none 0 0 ∧ l = []) ∨ ∃ qb off cap, V = .slice (some ⟨qb, off, none⟩) l.length cap ∧ Qu u base qb off l.length cap (flat l) ∧ qb ≠ R
/-- A RING OF THE LAW's OWN -/
def TI (w : World) (B R n : Nat) (l : List Th) (u : World) : Prop := ∃ f, TgAt u B R n f l ∧ Below w.heap.size w u ∧ w.heap.size ≤ B ∧ w.heap.size ≤ R
structure OS (w : World) (B R n : Nat) (lr lq : List Th) (V : Value) (u : World) : Prop where
  ri : TI w B R n lr u
  q : WQ w.heap.size u R V lq
section
variable {w u v : World} {B R n f : Nat} {lr lq : List Th} {V : Value}
theorem below_frp {Q : Nat → Prop} (h : Below w.heap.size w u) (h2 : FrP Q u v) (hq : ∀ k, Q k → w.heap.size ≤ k) : Below w.heap.size w v :=
  ⟨h2.os.trans h.os, h2.tape.trans h.tape, h2.output.trans h.output, Nat.le_trans h.size h2.size, fun k hk => (h2.block k (Nat.lt_of_lt_of_le hk h.size) (fun e => by have := hq k e; omega)).trans (h.block k hk)⟩
theorem WQ.later {base : Nat} (h : WQ base u R V lq) (hb : Below u.heap.size u v) : WQ base v R V lq := by
  rcases h with h | ⟨qb, off, cap, e, hq, hne⟩
  · exact .inl h
  · exact .inr ⟨qb, off, cap, e, hq.later hb, hne⟩
theorem WQ.form {base : Nat} (h : WQ base u R V lq) : ∃ a c, V = .slice a lq.length c := by
  rcases h with ⟨rfl, rfl⟩ | ⟨qb, off, cap, e, hq, hne⟩
  · exact ⟨_, _, rfl⟩
  · exact ⟨_, _, e⟩
theorem WQ.nth {base : Nat} {a : Option Addr} {m c : Nat} (h : WQ base u R (.slice a m c) lq) {i : Nat} (hi : i < lq.length) : ∃ b off, a = some ⟨b, off, none⟩ ∧ u.cell? ⟨b, off + i * 2, none⟩ = some (.string lq[i].s) ∧ u.cell? ⟨b, off + i * 2 + 1, none⟩ = some (.int .i64 lq[i].n) := by
  rcases h with ⟨_, rfl⟩ | ⟨qb, off, cap, e, hq, hne⟩
  · simp at hi
  · obtain ⟨h1, h2⟩ := flat_at lq i hi
    cases e
    refine ⟨qb, off, rfl, hq.cells _ _ h1, ?_⟩
    have := hq.cells _ _ h2
    rwa [show off + (i * 2 + 1) = off + i * 2 + 1 by omega] at this
theorem OS.later (h : OS w B R n lr lq V u) (hb : Below u.heap.size u v) : OS w B R n lr lq V v := by
  obtain ⟨⟨f, h1, h2, h3, h4⟩, hq⟩ := h
  exact ⟨⟨f, h1.later hb, below_step h2 hb, h3, h4⟩, hq.later hb⟩
theorem OS.below (h : OS w B R n lr lq V u) : Below w.heap.size w u := by obtain ⟨⟨f, h1, h2, h3, h4⟩, hq⟩ := h; exact h2
theorem OS.to (h : OS w B R n lr lq V u) {f' : Nat} {l' : List Th} (h2 : TTo B R n f' l' u v) : OS w B R n l' lq V v := by
  obtain ⟨⟨f, h1, hb, h3, h4⟩, hq⟩ := h
  refine ⟨⟨f', h2.1, below_frp hb h2.2 (fun k e => by rcases e with e | e <;> omega), h3, h4⟩, ?_⟩
  rcases hq with hq | ⟨qb, off, cap, e, hq, hne⟩
  · exact .inl hq
  · refine .inr ⟨qb, off, cap, e, hq.same (h2.2.block qb hq.lt (fun x => ?_)), hne⟩
    rcases x with x | x
    · have := hq.ty
      rw [x] at this
      exact absurd (TyB.ne this h1.b.ty) (by decide)
    · exact hne x
theorem OS.full (h : OS w B R n lr lq V u) {b : Bool} (hb : decide (lr.length = n) = b) : Calls Try.prog 8 #[.pointer (some ⟨B, 0, none⟩)] u fun e w' => e = .returned (.bool b) ∧ OS w B R n lr lq V w' := by
  obtain ⟨f, h1, _⟩ := id h.ri
  exact (tfull_any h1.b).mono fun e w' x => ⟨by rw [x.1, hb], h.later (by rw [x.2]; exact tdrew_below u 1)⟩
theorem OS.len (h : OS w B R n lr lq V u) {m : Nat} (hm : lr.length = m) : Calls Try.prog 7 #[.pointer (some ⟨B, 0, none⟩)] u fun e w' => e = .returned (.int .i64 (m : Nat)) ∧ OS w B R n lr lq V w' := by
  obtain ⟨f, h1, _⟩ := id h.ri
  exact (tlen_any h1.b).mono fun e w' x => ⟨by rw [x.1, hm], by rw [x.2]; exact h⟩
theorem OS.push (h : OS w B R n lr lq V u) (hl : lr.length ≠ n) (s : ByteArray) (z : Int) : Calls Try.prog 9 #[.pointer (some ⟨B, 0, none⟩), .agg #[.string s, .int .i64 z]] u fun e w' => e = .returned (.int .i64 0) ∧ OS w B R n (lr ++ [⟨s, z⟩]) lq V w' ∧ FrP (fun k => k = B ∨ k = R) u w' := by
  obtain ⟨f, h1, _⟩ := id h.ri
  refine (tpush_any h1 ⟨s, z⟩).mono fun e w' y => ?_
  rw [if_neg hl, if_neg hl] at y
  exact ⟨y.1, h.to y.2, y.2.2⟩
theorem OS.push_full (h : OS w B R n lr lq V u) (hl : lr.length = n) (s : ByteArray) (z : Int) : Calls Try.prog 9 #[.pointer (some ⟨B, 0, none⟩), .agg #[.string s, .int .i64 z]] u fun e w' => e = .returned (.int .i64 180) ∧ OS w B R n lr lq V w' ∧ FrP (fun k => k = B ∨ k = R) u w' := by
  obtain ⟨f, h1, _⟩ := id h.ri
  refine (tpush_any h1 ⟨s, z⟩).mono fun e w' y => ?_
  rw [if_pos hl, if_pos hl] at y
  exact ⟨y.1, h.to y.2, y.2.2⟩
theorem OS.pop {s : ByteArray} {z : Int} {t : List Th} (h : OS w B R n lr lq V u) (e' : lr = ⟨s, z⟩ :: t) : Calls Try.prog 10 #[.pointer (some ⟨B, 0, none⟩)] u fun e w' => e = .returned (.tuple #[.agg #[.string s, .int .i64 z], .bool true]) ∧ OS w B R n t lq V w' ∧ FrP (fun k => k = B ∨ k = R) u w' := by
  subst e'
  obtain ⟨f, h1, _⟩ := id h.ri
  exact (tpop_some h1).mono fun e w' y => ⟨y.1, h.to y.2, y.2.2⟩
theorem OS.pop0 (h : OS w B R n [] lq V u) : Calls Try.prog 10 #[.pointer (some ⟨B, 0, none⟩)] u fun e w' => e = .returned (.tuple #[.agg #[.string ⟨#[]⟩, .int .i64 0], .bool false]) ∧ OS w B R n [] lq V w' ∧ FrP (fun k => k = B ∨ k = R) u w' := by
  obtain ⟨f, h1, _⟩ := id h.ri
  exact (tpop_none h1).mono fun e w' y => ⟨y.1, h.to y.2, y.2.2⟩
theorem OS.front {s : ByteArray} {z : Int} {t : List Th} (h : OS w B R n lr lq V u) (e' : lr = ⟨s, z⟩ :: t) : Calls Try.prog 11 #[.pointer (some ⟨B, 0, none⟩)] u fun e w' => e = .returned (.tuple #[.agg #[.string s, .int .i64 z], .bool true]) ∧ OS w B R n lr lq V w' := by
  subst e'
  obtain ⟨f, h1, _⟩ := id h.ri
  exact (tfront_any h1).mono fun e w' y => ⟨y.1.trans (by simp [Th.v]), h.later y.2⟩
theorem OS.all (h : OS w B R n lr lq V u) {m : Nat} (hm : lr.length = m) : Calls Try.prog 12 #[.pointer (some ⟨B, 0, none⟩)] u fun e w' => ∃ A, e = .returned (.slice (some ⟨A, 0, none⟩) m m) ∧ TRow w' A m (fun p => lr.getD p thZ) ∧ u.heap.size ≤ A ∧ OS w B R n lr lq V w' := by
  subst hm
  obtain ⟨f, h1, _⟩ := id h.ri
  refine (tall_any h1).mono fun e w' ⟨A, y1, y2, y3, y4⟩ => ⟨A, y1, y2, y3, h.later y4⟩
/-- one more in the queue -/
theorem OS.app (h : OS w B R n lr lq V u) (s : ByteArray) (z : Int) (fz : Nat × Nat) (hl : lq.length ≤ 100000) (ty : TypeId) :
    ∃ V' w', (Builtin.append_ #[22, 22] ty #[V, .slice (some ⟨u.heap.size, 0, none⟩) 1 1]).run Try.prog (u.alloc (.cells #[.string s, .int .i64 z] 29 fz)) = .ok V' w' ∧ (∃ a c, V' = .slice a (lq.length + 1) c) ∧ OS w B R n lr (lq ++ [⟨s, z⟩]) V' w' := by
  have kb := below_new u (.cells #[.string s, .int .i64 z] 29 fz)
  have h2 := h.later kb
  obtain ⟨u2, hu2⟩ : ∃ u2, u.alloc (.cells #[.string s, .int .i64 z] 29 fz) = u2 := ⟨_, rfl⟩
  have hb : u2.heap[u.heap.size]? = some (.cells #[.string s, .int .i64 z] 29 fz) := by rw [← hu2]; exact heap_alloc_new u _
  rw [hu2] at h2 kb ⊢
  have hnews : ∀ (j : Nat) x, ([Value.string s, Value.int .i64 z] : List Value)[j]? = some x → u2.cell? ((⟨u.heap.size, 0, none⟩ : Addr).add j) = some x := fun j x hj => by
    rw [Go.WideShapes.add_plain]
    simp only [World.cell?, hb, Nat.zero_add]
    simpa using hj
  have h1 : ∀ x ∈ ([Value.string s, Value.int .i64 z] : List Value), x.oneCell' = true := fun x hx => by
    simp only [List.mem_cons, List.not_mem_nil, or_false] at hx
    rcases hx with rfl | rfl <;> rfl
  obtain ⟨⟨f, g1, g2, g3, g4⟩, hq⟩ := h2
  rcases hq with ⟨rfl, rfl⟩ | ⟨qb, off, cap, rfl, hq, hne⟩
  · obtain ⟨qb', off', cap', w', hr, hq', hbl⟩ := qu_first u2 ty ⟨u.heap.size, 0, none⟩ _ rfl hnews h1
    refine ⟨_, w', hr, ⟨_, _, rfl⟩, ⟨⟨f, g1.later hbl, below_step g2 hbl, g3, g4⟩, .inr ⟨qb', off', cap', rfl, ⟨Nat.le_trans g2.size hq'.ge, hq'.ty, hq'.cells, hq'.room, hq'.n, hq'.le, hq'.mx⟩, ?_⟩⟩⟩
    have := hq'.ge
    have := g1.r.lt
    omega
  · obtain ⟨qb', off', cap', w', hr, hq', hg, hor⟩ := qu_append hq ty ⟨u.heap.size, 0, none⟩ _ rfl hnews h1 hl g2.size
    have hbl : Below w.heap.size w w' := g2.grown hg g2.size (fun k e => by cases e; exact hq.ge)
    have hqB : qb ≠ B := fun x => by
      have := hq.ty
      rw [x] at this
      exact absurd (TyB.ne this g1.b.ty) (by decide)
    refine ⟨_, w', hr, ⟨_, _, rfl⟩, ⟨⟨f, g1.same (hg.block B g1.b.lt (fun e => hqB (by cases e; rfl))) (hg.block R g1.r.lt (fun e => hne (by cases e; rfl))), hbl, g3, g4⟩, .inr ⟨qb', off', cap', by simp, ?_, ?_⟩⟩⟩
    · rw [flat_snoc, List.length_append]
      exact hq'
    · rcases hor with e | e
      · rw [e]; exact hne
      · have := g1.r.lt; omega
/-- the queue's first goes -/
theorem OS.cut {x : Th} {t : List Th} (h : OS w B R n lr (x :: t) V u) : ∃ V', (∀ u2, (Instr.slice 22 V (some (.int .i64 1)) none none).run Try.prog u2 = .ok V' u2) ∧ (∃ a c, V' = .slice a t.length c) ∧ OS w B R n lr t V' u := by
  obtain ⟨h1, hq⟩ := h
  rcases hq with ⟨_, e⟩ | ⟨qb, off, cap, rfl, hq, hne⟩
  · cases e
  · exact ⟨_, run_pop (len := t.length) hq, ⟨_, _, rfl⟩, h1, .inr ⟨qb, _, _, rfl, hq.pop (len := t.length), hne⟩⟩
theorem OS.apart (h : OS w B R n lr lq V u) {A : Nat} {x : Th} (hA : ThB u A x) (hR : A ≠ R) {v : World} (hf : FrP (fun k => k = B ∨ k = R) u v) : ThB v A x := by
  obtain ⟨f, h1, _⟩ := h.ri
  have hB : A ≠ B := fun e => by
    have t1 : TyB u 29 A := ⟨_, _, hA⟩
    rw [e] at t1
    exact absurd (TyB.ne t1 h1.b.ty) (by decide)
  exact hA.same (hf.block A hA.lt (fun e => by rcases e with e | e; exact hB e; exact hR e))
theorem OS.lt (h : OS w B R n lr lq V u) : R < u.heap.size := by obtain ⟨f, h1, _⟩ := h.ri; exact h1.r.lt
theorem OS.row (h : OS w B R n lr lq V u) {A m : Nat} {F : Nat → Th} (hA : TRow u A m F) (hR : A ≠ R) {v : World} (hf : FrP (fun k => k = B ∨ k = R) u v) : TRow v A m F := by
  obtain ⟨f, h1, _⟩ := h.ri
  have hB : A ≠ B := fun e => by
    have t1 := hA.ty
    rw [e] at t1
    exact absurd (TyB.ne t1 h1.b.ty) (by decide)
  exact hA.same (hf.block A hA.lt (fun e => by rcases e with e | e; exact hB e; exact hR e))
/-- and a row of things beside them -/
def OR (w : World) (B R n : Nat) (lr lq : List Th) (V : Value) (A m : Nat) (F : Nat → Th) (u : World) : Prop := OS w B R n lr lq V u ∧ TRow u A m F ∧ A ≠ R
variable {A m : Nat} {F : Nat → Th}
theorem OR.later (h : OR w B R n lr lq V A m F u) (hb : Below u.heap.size u v) : OR w B R n lr lq V A m F v := ⟨h.1.later hb, h.2.1.same (hb.block A h.2.1.lt), h.2.2⟩
theorem OR.len (h : OR w B R n lr lq V A m F u) {q : Nat} (hm : lr.length = q) : Calls Try.prog 7 #[.pointer (some ⟨B, 0, none⟩)] u fun e w' => e = .returned (.int .i64 (q : Nat)) ∧ OR w B R n lr lq V A m F w' := by
  obtain ⟨f, h1, _⟩ := id h.1.ri
  exact (tlen_any h1.b).mono fun e w' x => ⟨by rw [x.1, hm], by rw [x.2]; exact h⟩
theorem OR.full (h : OR w B R n lr lq V A m F u) {b : Bool} (hb : decide (lr.length = n) = b) : Calls Try.prog 8 #[.pointer (some ⟨B, 0, none⟩)] u fun e w' => e = .returned (.bool b) ∧ OR w B R n lr lq V A m F w' := by
  obtain ⟨f, h1, _⟩ := id h.1.ri
  exact (tfull_any h1.b).mono fun e w' x => ⟨by rw [x.1, hb], h.later (by rw [x.2]; exact tdrew_below u 1)⟩
theorem OR.pop {s : ByteArray} {z : Int} {t : List Th} (h : OR w B R n lr lq V A m F u) (e' : lr = ⟨s, z⟩ :: t) : Calls Try.prog 10 #[.pointer (some ⟨B, 0, none⟩)] u fun e w' => e = .returned (.tuple #[.agg #[.string s, .int .i64 z], .bool true]) ∧ OR w B R n t lq V A m F w' :=
  (h.1.pop e').mono fun _ _ y => ⟨y.1, y.2.1, h.1.row h.2.1 h.2.2 y.2.2, h.2.2⟩
/-- a box that is laid anew -/
theorem box_new {u w3 w4 : World} {A : Nat} {s : ByteArray} {z : Int} (h3 : u.alloc (.cells #[.string ⟨#[]⟩, .int .i64 0] 29) = w3) (hA : u.heap.size = A) (h4 : (w3.setCell ⟨A, 0, none⟩ (.string s)).setCell ⟨A, 1, none⟩ (.int .i64 z) = w4) :
    ThB w3 A thZ ∧ ThB w4 A ⟨s, z⟩ ∧ Below u.heap.size u w4 := by
  have b3 : ThB w3 A thZ := by rw [← h3, ← hA]; exact thB_new u thZ
  refine ⟨b3, by rw [← h4]; exact b3.put ⟨s, z⟩, ?_⟩
  rw [← h4]
  exact below_put (below_put (by rw [← h3]; exact below_new u _) (Nat.le_of_eq hA) 0 _) (Nat.le_of_eq hA) 1 _
end
theorem tnew_os {w : World} {z : Int} {n : Nat} (hz : z = (n : Nat)) (h : 1 ≤ n ∧ n ≤ 64) : Calls Try.prog 6 #[.int .i64 z] w fun e w' => ∃ B R, e = .returned (.tuple #[.pointer (some ⟨B, 0, none⟩), .int .i64 0]) ∧ OS w B R n [] [] (.slice none 0 0) w' := by
  subst hz
  refine (tnew_any (by omega)).mono fun e w' ⟨B, R, h1, h2⟩ => ⟨B, R, h1, ⟨0, ?_, h2.2.1, h2.2.2.1, h2.2.2.2⟩, .inl ⟨rfl, rfl⟩⟩
  exact h2.1
/-- an append whose run is known -/
theorem wpList_append_known {w : World} {ops : Array Oper} {rest : List Oper} {o : Oper} {a : Act} {Q : Exit → Act → World → Prop} (hgd : o.guard = none) (s x : Operand) {t : TypeId}
    (ho : o.op = .call { callee := .builtin .append, args := #[s, x], argTypes := #[t, t] }) (V Y : Value) (hs : a.eval s = V) (hx : a.eval x = Y) (Pt : Value → World → Prop)
    (hrun : ∃ V' w', (Builtin.append_ #[t, t] o.type #[V, Y]).run Try.prog w = .ok V' w' ∧ Pt V' w')
    (h : ∀ V' w', Pt V' w' → wpList Try.prog ops Q rest (a.put o.dst V') w') : wpList Try.prog ops Q (o :: rest) a w := by
  refine wpList_plain hgd fun K hK => ?_
  obtain ⟨V', w', hr, h2⟩ := hrun
  unfold Oper.wp execOp
  simp only [ho, resolve, invoke, builtin, Sem.run_bind, Sem.run_pure, Result.andThen_ok, List.map_toArray, List.map_cons, List.map_nil, hs, hx, hr]
  exact hK _ _ (h V' w' h2)
end Go.Proofs.Ytclcpblpmfijiaa
