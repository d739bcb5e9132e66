/- What SimfsCrash's walk holds on to: two disks apart, and rows apart from both. -/
import Derived.Test.YtjlfhaehdllmcaaG35
import Derived.Test.YtjlfhaehdllmcaaG40
namespace Go.Proofs.Ytjlfhaehdllmcaa
open Go.RowKit Go.Maps Sf

theorem Dsk.up {P : Nat → Prop} {w : World} {B K K' : Nat} {d : Dk} (h : Dsk P w B d K) (hk : K ≤ K') (hK : K' ≤ 1000000) : Dsk P w B d K' := ⟨h.wf.up hk, h.m.up hk, hK⟩
/-- the first disk d at B (its blocks P), the second f at C (its blocks Q), rows (their blocks R) -/
structure Cr2 (w : World) (P Q R : Nat → Prop) (B C : Nat) (d f : Dk) (K : Nat) (Rw : World → Prop) (u : World) : Prop where
  one : Dsk P u B d K
  two : Dsk Q u C f K
  lo : Below w.heap.size w u
  hp : ∀ k, P k → w.heap.size ≤ k
  hq : ∀ k, Q k → w.heap.size ≤ k
  pq : ∀ k, P k → ¬ Q k
  pr : ∀ k, P k → ¬ R k
  qr : ∀ k, Q k → ¬ R k
  rl : ∀ k, R k → k < u.heap.size
  rw : Rw u
  rk : ∀ a b : World, (∀ k, R k → b.heap[k]? = a.heap[k]?) → Rw a → Rw b
section
variable {w u v : World} {P Q R : Nat → Prop} {B C K : Nat} {d f d' : Dk} {Rw : World → Prop}
theorem Cr2.later (h : Cr2 w P Q R B C d f K Rw u) (hb : Below u.heap.size u v) : Cr2 w P Q R B C d f K Rw v :=
  ⟨h.one.later hb, h.two.later hb, below_two h.lo hb, h.hp, h.hq, h.pq, h.pr, h.qr, fun k hk => Nat.lt_of_lt_of_le (h.rl k hk) hb.size, h.rk u v (fun k hk => hb.block k (h.rl k hk)) h.rw, h.rk⟩
theorem Cr2.other (h : Cr2 w P Q R B C d f K Rw u) {X : Nat → Prop} (hf : FrP X u v) (h1 : ∀ k, P k → ¬ X k) (h2 : ∀ k, Q k → ¬ X k) (h3 : ∀ k, R k → ¬ X k) (h4 : ∀ k, X k → w.heap.size ≤ k) : Cr2 w P Q R B C d f K Rw v := by
  refine ⟨h.one.keep (fun k hk => hf.block k (h.one.m.low k hk) (h1 k hk)) hf.size, h.two.keep (fun k hk => hf.block k (h.two.m.low k hk) (h2 k hk)) hf.size, (lo_step h.lo hf h4).1, h.hp, h.hq, h.pq, h.pr, h.qr, fun k hk => Nat.lt_of_lt_of_le (h.rl k hk) hf.size, h.rk u v (fun k hk => hf.block k (h.rl k hk) (h3 k hk)) h.rw, h.rk⟩
theorem Cr2.first (h : Cr2 w P Q R B C d f K Rw u) (hd : DkTo P u B d' K v) (hw : Wf d' (K + 1)) (hK : K < 1000000) : Cr2 w (More P u v) Q R B C d' f (K + 1) Rw v := by
  obtain ⟨hm, hf⟩ := hd
  refine ⟨⟨hw, hm.up (Nat.le_succ K), by omega⟩, (h.two.keep (fun k hk => hf.block k (h.two.m.low k hk) (fun x => h.pq k x hk)) hf.size).up (Nat.le_succ K) (by omega), (lo_step h.lo hf h.hp).1, (lo_step h.lo hf h.hp).2, h.hq, fun k hk hq => ?_, fun k hk hr => ?_, h.qr, fun k hk => Nat.lt_of_lt_of_le (h.rl k hk) hf.size, h.rk u v (fun k hk => hf.block k (h.rl k hk) (fun x => h.pr k x hk)) h.rw, h.rk⟩
  · rcases hk with hk | hk
    · exact h.pq k hk hq
    · have := h.two.m.low k hq; omega
  · rcases hk with hk | hk
    · exact h.pr k hk hr
    · have := h.rl k hr; omega
theorem Cr2.second (h : Cr2 w P Q R B C d f K Rw u) (hd : DkTo Q u C d' K v) (hw : Wf d' (K + 1)) (hK : K < 1000000) : Cr2 w P (More Q u v) R B C d d' (K + 1) Rw v := by
  obtain ⟨hm, hf⟩ := hd
  refine ⟨(h.one.keep (fun k hk => hf.block k (h.one.m.low k hk) (fun x => h.pq k hk x)) hf.size).up (Nat.le_succ K) (by omega), ⟨hw, hm.up (Nat.le_succ K), by omega⟩, (lo_step h.lo hf h.hq).1, h.hp, (lo_step h.lo hf h.hq).2, fun k hk hq => ?_, h.pr, fun k hk hr => ?_, fun k hk => Nat.lt_of_lt_of_le (h.rl k hk) hf.size, h.rk u v (fun k hk => hf.block k (h.rl k hk) (fun x => h.qr k x hk)) h.rw, h.rk⟩
  · rcases hq with hq | hq
    · exact h.pq k hk hq
    · have := h.one.m.low k hk; omega
  · rcases hk with hk | hk
    · exact h.qr k hk hr
    · have := h.rl k hr; omega
/-- one row more -/
theorem Cr2.row (h : Cr2 w P Q R B C d f K Rw u) (hb : Below u.heap.size u v) {e : TypeId} {z : Nat} {V : Value} {n : Nat} {xs : List Value} (ho : v.ownsRow u.heap.size e z V n xs) :
    ∃ R' Rw', Cr2 w P Q R' B C d f K Rw' v ∧ ∀ x, Rw' x → Rw x ∧ x.ownsRow u.heap.size e z V n xs := by
  have h2 := h.later hb
  refine ⟨fun k => R k ∨ (u.heap.size ≤ k ∧ k < v.heap.size), fun x => Rw x ∧ x.ownsRow u.heap.size e z V n xs, ⟨h2.one, h2.two, h2.lo, h2.hp, h2.hq, h2.pq, fun k hk hr => ?_, fun k hk hr => ?_, fun k hk => ?_, ⟨h2.rw, ho⟩, fun a b hab hr => ⟨h.rk a b (fun k hk => hab k (.inl hk)) hr.1, ownsRow_keep hr.2 (fun g hg h1 _ => hab g (.inr ⟨h1, ?_⟩))⟩⟩, fun x hx => hx⟩
  · rcases hr with hr | hr
    · exact h.pr k hk hr
    · have := h.one.m.low k hk; omega
  · rcases hr with hr | hr
    · exact h.qr k hk hr
    · have := h.two.m.low k hk; omega
  · rcases hk with hk | hk
    · exact h2.rl k hk
    · exact hk.2
  · rcases ho.2 with ⟨e2, _⟩ | ⟨g', cap, cur, e2, _, hh, _⟩
    · rw [e2] at hg; cases hg
    · rw [e2] at hg
      have : g' = g := Option.some.inj hg
      subst this
      exact (Array.getElem?_eq_some_iff.1 hh).1
end
/-- where the walk begins with two disks: a row and the names are there, both copies are made -/
theorem cr2_start {w u u1 u2 u3 u4 : World} {P P2 Q : Nat → Prop} {B B2 C j : Nat} {d : Dk} {e e' : TypeId} {z z' : Nat} {V V' : Value} {n n' : Nat} {xs xs' : List Value} (hs : HsI w P B d j u) (k1 : Below u.heap.size u u1) (r1 : u1.ownsRow u.heap.size e z V n xs) (k2 : Below u1.heap.size u1 u2) (r2 : u2.ownsRow u1.heap.size e' z' V' n' xs')
    (k3 : Below u2.heap.size u2 u3) (h3 : Dsk P2 u3 B2 d j) (hp2 : ∀ k, P2 k → u2.heap.size ≤ k) (k4 : Below u3.heap.size u3 u4) (h4 : Dsk Q u4 C d j) (hq : ∀ k, Q k → u3.heap.size ≤ k) :
    ∃ R Rw, Cr2 w P Q R B C d d j Rw u4 ∧ (∀ x, Rw x → x.ownsRow u.heap.size e z V n xs ∧ x.ownsRow u1.heap.size e' z' V' n' xs') ∧ Dsk P2 u4 B2 d j ∧ ∀ k, P2 k → w.heap.size ≤ k ∧ ¬ P k ∧ ¬ Q k ∧ ¬ R k := by
  have b1 := k1.size
  have b2 := k2.size
  have b3 := k3.size
  have b4 := k4.size
  have b0 := hs.lo.size
  have hl1 : ∀ g, V.ownBlock = some g → g < u1.heap.size := fun g hg => by
    rcases r1.2 with ⟨e2, _⟩ | ⟨g', cap, cur, e2, _, hh, _⟩
    · rw [e2] at hg; cases hg
    · rw [e2] at hg
      have : g' = g := Option.some.inj hg
      subst this
      exact (Array.getElem?_eq_some_iff.1 hh).1
  have hl2 : ∀ g, V'.ownBlock = some g → g < u2.heap.size := fun g hg => by
    rcases r2.2 with ⟨e2, _⟩ | ⟨g', cap, cur, e2, _, hh, _⟩
    · rw [e2] at hg; cases hg
    · rw [e2] at hg
      have : g' = g := Option.some.inj hg
      subst this
      exact (Array.getElem?_eq_some_iff.1 hh).1
  have hlow := hs.dk.m.low
  have hlow2 := h3.m.low
  refine ⟨fun k => u.heap.size ≤ k ∧ k < u2.heap.size, fun x => x.ownsRow u.heap.size e z V n xs ∧ x.ownsRow u1.heap.size e' z' V' n' xs', ⟨((hs.dk.later k1).later k2 |>.later k3).later k4, h4, below_two (below_two (below_two (below_two hs.lo k1) k2) k3) k4, hs.hp, fun k hk => by have := hq k hk; omega, fun k hk hk2 => by have := hq k hk2; have := hlow k hk; omega, fun k hk hr => by have := hlow k hk; omega, fun k hk hr => by have := hq k hk; omega, fun k hk => by omega, ⟨?_, ?_⟩, fun a b hab hr => ⟨ownsRow_keep hr.1 (fun g hg h1 _ => hab g ⟨h1, by have := hl1 g hg; omega⟩), ownsRow_keep hr.2 (fun g hg h1 _ => hab g ⟨by omega, hl2 g hg⟩)⟩⟩, fun x hx => hx, h3.later k4, fun k hk => ?_⟩
  · exact ownsRow_keep (ownsRow_keep (ownsRow_keep r1 (fun g _ _ h => k2.block g h)) (fun g _ _ h => k3.block g h)) (fun g _ _ h => k4.block g h)
  · exact ownsRow_keep (ownsRow_keep r2 (fun g _ _ h => k3.block g h)) (fun g _ _ h => k4.block g h)
  · have h1 := hp2 k hk
    have h2 := hlow2 k hk
    exact ⟨by omega, fun x => by have := hlow k x; omega, fun x => by have := hq k x; omega, fun x => by omega⟩
theorem files_row {u : World} {base m c : Nat} {a : Option Addr} {d : Dk} (h : u.ownsRow base 40 5 (.slice a m c) m (flatF (files d m))) {n : Nat} (hn : n < m) : ∃ g, a = some ⟨g, 0, none⟩ ∧ ∀ k v, (fileOf d (n + 1)).cells[k]? = some v → u.cell? ⟨g, n * 5 + k, none⟩ = some v := by
  have h' := h
  rcases h'.2 with ⟨e, h0⟩ | ⟨g, cap, cur, e, _⟩
  · omega
  · cases e
    exact ⟨g, rfl, files_cells h hn⟩
theorem below_put {w u : World} (h : Below w.heap.size w u) {A : Nat} (hA : w.heap.size ≤ A) (j : Nat) (v : Value) : Below w.heap.size w (u.setCell ⟨A, j, none⟩ v) := by
  refine ⟨h.os, h.tape, h.output, ?_, fun k hk => ?_⟩
  · have := h.size
    simp only [World.setCell, Array.size_modify]
    exact this
  · exact (Below.heap_setCell u ⟨A, j, none⟩ _ k (by show k ≠ A; omega)).trans (h.block k hk)
theorem StatB.put3 {u : World} {z : Nat} {a b c e : Value} (h : StatB u z a b c e) (v : Value) : StatB (u.setCell ⟨z, 3, none⟩ v) z a b c v := by
  unfold StatB; rw [heap_set h]; simp
theorem StatB.put2 {u : World} {z : Nat} {a b c e : Value} (h : StatB u z a b c e) (v : Value) : StatB (u.setCell ⟨z, 2, none⟩ v) z a b v e := by
  unfold StatB; rw [heap_set h]; simp
theorem lx_nil (X : Nat → Prop) (w : World) : LAtX X w (.slice none 0 0) (ints []) := ⟨lat_nil w, fun _ _ _ _ _ h => absurd rfl h⟩
theorem madeCells_int (n : Nat) : (madeCells (Value.int .i64 0).cells (n * 1)).toList = ints (List.replicate n 0) := by
  apply List.ext_getElem?
  intro k
  simp [madeCells, ints, Value.cells]
  by_cases hk : k < n
  · simp [hk, Nat.mod_one]
  · simp [hk]
theorem wpList_make_int {w : World} {ops : Array Oper} {rest : List Oper} {o : Oper} {a : Act} {Q : Exit → Act → World → Prop} (hgd : o.guard = none) (l c : Operand)
    (ho : o.op = Op.makeSlice 26 l c) (base n : Nat) (hb : base ≤ w.heap.size) (hl : a.eval l = .int .i64 (n : Nat)) (hc : a.eval c = .int .i64 (n : Nat)) (hn : n ≤ 1000000)
    (h : ∀ w', w'.ownsRow base 3 1 (.slice (some ⟨w.heap.size, 0, none⟩) n n) n (ints (List.replicate n 0)) → Below w.heap.size w w' → wpList Try.prog ops Q rest (a.put o.dst (.slice (some ⟨w.heap.size, 0, none⟩) n n)) w') : wpList Try.prog ops Q (o :: rest) a w := by
  obtain ⟨i0, hi, hz0, hz1, hz2⟩ := info_parts infI
  refine wpList_make_full (P := Try.prog) w hgd l c 26 ho base 3 i0 (.int .i64 0) 1 Try.underlying26 hi hz0 hz1 .i64 .i64 (n : Nat) (n : Nat) n hl hc rfl rfl (by rw [hz2]; omega) (by simp only [maxLen]; omega) hb ?_
  intro w' h1 h2
  rw [madeCells_int] at h1
  exact h w' h1 ((Below.refl _ _).grown h2 (Nat.le_refl _) (fun k hk => by cases hk))
/-- numbers that are filled in one by one -/
def mkL (hi j : Nat) : List Int := (List.range hi).map fun i => if i < j then 2097152 else 0
theorem mkL_zero (hi : Nat) : mkL hi 0 = List.replicate hi 0 := by
  apply List.ext_getElem?
  intro k
  unfold mkL
  by_cases hk : k < hi <;> simp [hk]
theorem mkL_len (hi j : Nat) : (mkL hi j).length = hi := by simp [mkL]
theorem mkL_all {hi i : Nat} (h : i < hi) : 1048576 ≤ (mkL hi hi).getD i 0 := by
  unfold mkL
  rw [List.getD_eq_getElem?_getD]
  simp [h]
theorem mkL_good (hi j : Nat) : ∀ z ∈ mkL hi j, goodI z := fun z hz => by
  obtain ⟨i, _, rfl⟩ := List.mem_map.1 hz
  show goodI (if i < j then 2097152 else 0)
  unfold goodI
  split <;> omega
structure MkI (u0 : World) (A hi j : Nat) (u : World) : Prop where
  bl : u.heap[A]? = some (.cells (ints (mkL hi j)).toArray 3 (0, 0))
  lo : Below u0.heap.size u0 u
  at_ : u0.heap.size = A
section
variable {u0 u : World} {A hi j : Nat}
theorem MkI.cell (h : MkI u0 A hi j u) (hj : j < hi) : u.cell? ⟨A, j, none⟩ = some (.int .i64 0) ∧ ∀ k, u.frozen? ⟨A, k, none⟩ = false := by
  refine ⟨?_, fun k => ?_⟩
  · simp only [World.cell?, h.bl]
    simp [ints, mkL, hj]
  · simp [World.frozen?, h.bl]
theorem MkI.next (h : MkI u0 A hi j u) (hj : j < hi) : MkI u0 A hi (j + 1) (u.setCell ⟨A, j, none⟩ (.int .i64 2097152)) := by
  refine ⟨?_, ⟨h.lo.os, h.lo.tape, h.lo.output, ?_, fun k hk => ?_⟩, h.at_⟩
  · rw [heap_set h.bl]
    congr 2
    apply Array.ext_getElem?
    intro k
    rw [Array.getElem?_setIfInBounds]
    simp only [ints, mkL, List.size_toArray, List.length_map, List.length_range, List.getElem?_toArray, List.getElem?_map]
    by_cases e : j = k
    · subst e
      simp [hj]
    · rw [if_neg e]
      by_cases hk : k < hi
      · rw [List.getElem?_range hk]
        simp only [Option.map_some]
        by_cases h1 : k < j
        · rw [if_pos h1, if_pos (by omega)]
        · rw [if_neg h1, if_neg (by omega)]
      · rw [List.getElem?_eq_none (by simpa using hk)]
        rfl
  · have := h.lo.size
    simp only [World.setCell, Array.size_modify]
    exact this
  · have hA := h.at_
    exact (Below.heap_setCell u ⟨A, j, none⟩ _ k (by show k ≠ A; omega)).trans (h.lo.block k hk)
theorem MkI.own (h : MkI u0 A hi j u) (hh : hi ≤ 1000000) : u.ownsRow u0.heap.size 3 1 (.slice (some ⟨A, 0, none⟩) hi hi) hi (ints (mkL hi j)) := by
  refine ⟨by rw [Nat.mul_one, ints_len, mkL_len], .inr ⟨A, hi, _, rfl, by have := h.at_; omega, h.bl, Nat.le_refl _, by unfold maxLen; omega, ?_, ?_⟩⟩
  · simp [ints, mkL_len]
  · rw [Nat.mul_one]
    exact List.take_of_length_le (by simp [ints, mkL_len])
end
theorem mk_start {w w' : World} {n : Nat} (h1 : w'.ownsRow w.heap.size 3 1 (.slice (some ⟨w.heap.size, 0, none⟩) n n) n (ints (List.replicate n 0))) (h2 : Below w.heap.size w w') : MkI w w.heap.size n 0 w' := by
  refine ⟨?_, h2, rfl⟩
  rcases h1.2 with ⟨e, _⟩ | ⟨g, cap, cur, e, hB, hg, hl, hm, hc, ht⟩
  · cases e
  · cases e
    rw [hg, mkL_zero]
    congr 2
    rw [← ht]
    rw [List.take_of_length_le (by simp; omega)]
end Go.Proofs.Ytjlfhaehdllmcaa
