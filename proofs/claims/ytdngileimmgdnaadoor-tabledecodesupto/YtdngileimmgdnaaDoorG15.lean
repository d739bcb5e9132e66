/- table.read. -/
import Derived.Test.YtdngileimmgdnaaDoorG14
namespace Go.Proofs.YtdngileimmgdnaaDoor
open Go.RowKit
attribute [local go_sem ↓] Go.wp_at_zero Go.wp_at_succ

theorem own_put {w : World} {base g n c : Nat} {t : TypeId} {xs : List Value} (h : w.ownsRow base t 1 (.slice (some ⟨g, 0, none⟩) n c) n xs) (i : Nat) (x : Value) : (w.setCell ⟨g, i, none⟩ x).ownsRow base t 1 (.slice (some ⟨g, 0, none⟩) n c) n (xs.set i x) := by
  refine ⟨by rw [List.length_set]; exact h.1, ?_⟩
  rcases h.2 with ⟨hv, _⟩ | ⟨g', cap, cur, hv, hbg, hg, h1, h2, h3, h4⟩
  · cases hv
  · cases hv
    refine Or.inr ⟨g, c, _, rfl, hbg, heap_set hg i _, h1, h2, by simpa using h3, ?_⟩
    rw [Array.toList_setIfInBounds, List.take_set, h4]
theorem own_cell {w : World} {base g n c : Nat} {t : TypeId} {xs : List Value} (h : w.ownsRow base t 1 (.slice (some ⟨g, 0, none⟩) n c) n xs) {i : Nat} {x : Value} (hx : xs[i]? = some x) : w.cell? ⟨g, i, none⟩ = some x ∧ w.frozen? ⟨g, i, none⟩ = false := by
  refine ⟨?_, ?_⟩
  · have hi : i < n := by have := (List.getElem?_eq_some_iff.1 hx).1; have := h.1; omega
    rw [h.cellAt i (by omega), hx]
  · rcases h.2 with ⟨hv, _⟩ | ⟨g', cap, cur, hv, hbg, hg, _⟩
    · cases hv
    · cases hv
      simp [World.frozen?, hg]
theorem madeCells_int (n : Nat) : (madeCells (Value.int .i64 0).cells (n * 1)).toList = ints (List.replicate n 0) := by
  apply List.ext_getElem?
  intro k
  simp [madeCells, ints, Value.cells]
  by_cases hk : k < n
  · simp [hk, Nat.mod_one]
  · simp [hk]
theorem wpList_make_int {w : World} {ops : Array Oper} {rest : List Oper} {o : Oper} {a : Act} {Q : Exit → Act → World → Prop} (hgd : o.guard = none) (l c : Operand)
    (ho : o.op = Op.makeSlice 41 l c) (base n : Nat) (hb : base ≤ w.heap.size) (hl : a.eval l = .int .i64 (n : Nat)) (hc : a.eval c = .int .i64 (n : Nat)) (hn : n ≤ 1000000)
    (h : ∀ w', w'.ownsRow base 3 1 (.slice (some ⟨w.heap.size, 0, none⟩) n n) n (ints (List.replicate n 0)) → Below w.heap.size w w' → wpList Tryd.prog ops Q rest (a.put o.dst (.slice (some ⟨w.heap.size, 0, none⟩) n n)) w') : wpList Tryd.prog ops Q (o :: rest) a w := by
  obtain ⟨i0, hi, hz0, hz1, hz2⟩ := info_parts infI
  refine wpList_make_full (P := Tryd.prog) w hgd l c 41 ho base 3 i0 (.int .i64 0) 1 Tryd.underlying41 hi hz0 hz1 .i64 .i64 (n : Nat) (n : Nat) n hl hc rfl rfl (by rw [hz2]; omega) (by simp only [maxLen]; omega) hb ?_
  intro w' h1 h2
  rw [madeCells_int] at h1
  exact h w' h1 ((Below.refl _ _).grown h2 (Nat.le_refl _) (fun k hk => by cases hk))
theorem read_anyT (a : Option Addr) (n cap : Nat) (zs : List Int) (w : World) (hn : n = zs.length) (hb : BytesAt w a zs) (hl : n ≤ 140737488355328) :
    Calls Tryd.prog 36 #[.slice a n cap] w fun e w' => ∃ P H, e = .returned (.pointer (some ⟨P, 0, none⟩)) ∧ w.heap.size ≤ P ∧ w.heap.size ≤ H ∧ Rd w' P H 0 zs ∧ Below w.heap.size w w' ∧ TyB w' 5 H := by
  have HN : Hid (n = zs.length) := hn
  have HB : Hid (BytesAt w a zs) := hb
  clear hn hb
  go_enter Tryd.func36, Tryd.ntmps36
  go_wp2_with (first
    | (at_make; refine wpList_make_zeros rfl _ _ rfl n _ _ rfl rfl rfl rfl (by omega) ?_; intro w1 ho1 hb1; have HO1 : Hid (Owns w1 w.heap.size (.slice (some ⟨w.heap.size, 0, none⟩) n n) (List.replicate n 0)) := ho1; have HB1 : Hid (Below w.heap.size w w1) := hb1; clear ho1 hb1)
    | (refine wpList_copy_bytes rfl _ _ rfl w.heap.size _ (List.replicate n 0) rfl HO1.out a cap n zs HN.out rfl (bytesAt_later HB1.out HB.out) (by rw [List.length_replicate, HN.out]; exact Nat.le_refl _) ?_; intro w2 ho2 hb2; have HO2 : Hid (Owns w2 w.heap.size (.slice (some ⟨w.heap.size, 0, none⟩) n n) zs) := (by rw [List.length_replicate, HN.out, List.take_length] at ho2; rw [HN.out]; exact ho2); have HB2 : Hid (Below w.heap.size w w2) := HB1.out.trans hb2; clear ho2 hb2))
  obtain ⟨hrd, hH, hBH⟩ := rd_new w2 w.heap.size w.heap.size n zs HN.out HO2.out
  have hz := HB2.out.size
  have hty : TyB (w2.alloc (.cells #[.slice (some ⟨w.heap.size, 0, none⟩) n n] 79)) 5 w.heap.size := by
    have h1 := (own_at HO2.out.1 w.heap.size (by simp [Value.ownBlock])).2.2
    exact h1.same (Below.heap_alloc w2 _ _ hH)
  exact bodyPost_ret (v := .pointer (some ⟨w2.heap.size, 0, none⟩)) (by simp [results, Tryd.results36, go_sem]) rfl ⟨w2.heap.size, w.heap.size, rfl, hz, hBH, hrd, HB2.out.alloc hz _, hty⟩
theorem setCells_cs (b : Nat) (t : TypeId) : ∀ (vs : List Value) (o : Nat) (w : World) (cs : Array Value), w.heap[b]? = some (.cells cs t (0, 0)) → ∃ cs', (w.setCells b o vs).heap[b]? = some (.cells cs' t (0, 0)) ∧ cs'.size = cs.size ∧ ∀ i, cs'[i]? = if o ≤ i ∧ i < o + vs.length ∧ i < cs.size then vs[i - o]? else cs[i]?
  | [], o, w, cs, h => ⟨cs, h, rfl, fun i => by rw [if_neg (by simp; omega)]⟩
  | v :: r, o, w, cs, h => by
    obtain ⟨cs', h1, h2, h3⟩ := setCells_cs b t r (o + 1) (w.setCell ⟨b, o, none⟩ v) (cs.setIfInBounds o v) (heap_set h o v)
    refine ⟨cs', h1, by rw [h2]; simp, fun i => ?_⟩
    rw [h3 i, Array.getElem?_setIfInBounds]
    simp only [Array.size_setIfInBounds, List.length_cons]
    by_cases e : o = i
    · subst e
      rw [if_neg (by omega)]
      by_cases hs : o < cs.size
      · rw [if_pos rfl, if_pos hs, if_pos (by omega)]
        simp
      · rw [if_pos rfl, if_neg hs, if_neg (by omega), Array.getElem?_eq_none (by omega)]
    · by_cases h4 : o + 1 ≤ i ∧ i < o + 1 + r.length ∧ i < cs.size
      · rw [if_pos h4, if_pos (by omega)]
        obtain ⟨k, hk⟩ : ∃ k, i - o = k + 1 := ⟨i - o - 1, by omega⟩
        rw [hk, List.getElem?_cons_succ]
        congr 1
        omega
      · rw [if_neg h4, if_neg e, if_neg (by omega)]
theorem DB.cls {w : World} {D : Nat} {f : Nat → Int} {V1 V2 V3 : Value} (h : DB w D f V1 V2 V3) (g : Nat → Int) : DB (w.setCells D 0 (cv g).toList) D g V1 V2 V3 := by
  obtain ⟨cs', h1, h2, h3⟩ := setCells_cs D 26 (cv g).toList 0 w _ h
  have e : cs' = dv g V1 V2 V3 := by
    apply Array.ext_getElem?
    intro i
    rw [h3 i, dv_size]
    simp only [Array.length_toList, cv_size, Nat.zero_add, Nat.sub_zero, Array.getElem?_toList]
    by_cases hi : i < 256
    · rw [if_pos (by omega), cv_at g hi, dv_lo g V1 V2 V3 hi]
    · rw [if_neg (by omega)]
      obtain ⟨k, rfl⟩ : ∃ k, i = 256 + k := ⟨i - 256, by omega⟩
      rw [dv_hi, dv_hi]
  rw [e] at h1
  exact h1
theorem DB.there {w : World} {D : Nat} {f : Nat → Int} {V1 V2 V3 : Value} (h : DB w D f V1 V2 V3) : w.there D 0 256 := fun j hj => ⟨by rw [Nat.zero_add, h.lo hj]; rfl, h.frozen _⟩
theorem wpList_store_cls {ops : Array Oper} {rest : List Oper} {o : Oper} {a : Act} {w : World} {Q : Exit → Act → World → Prop} (hgd : o.guard = none) (x y : Operand) (ho : o.op = .store 22 x y) {A k : Nat} {f : Nat → Int} (h : w.there A k 256) (hx : a.eval x = .pointer (some ⟨A, k, none⟩)) (hy : a.eval y = .agg (cv f))
    (hk : wpList Tryd.prog ops Q rest (a.put o.dst undef) (w.setCells A k (cv f).toList)) : wpList Tryd.prog ops Q (o :: rest) a w :=
  wpList_store_mid hgd 22 x y ho A k (cv f) hx hy (by rw [cv_size]; exact h) (by rw [cv_size]; exact sizeArr) (cv_one f) hk
theorem setCells_heap (g : Nat) : ∀ (vs : List Value) (o : Nat) (u : World) {b : Nat}, b ≠ g → (u.setCells g o vs).heap[b]? = u.heap[b]?
  | [], _, _, _, _ => rfl
  | v :: r, o, u, b, h => (setCells_heap g r (o + 1) (u.setCell ⟨g, o, none⟩ v) h).trans (Below.heap_setCell u ⟨g, o, none⟩ v b h)
theorem setCells_below {B : Nat} {w : World} (g : Nat) (hB : B ≤ g) : ∀ (vs : List Value) (o : Nat) {u : World}, Below B w u → Below B w (u.setCells g o vs)
  | [], _, _, h => h
  | v :: r, o, _, h => setCells_below g hB r (o + 1) (h.setCell (p := ⟨g, o, none⟩) hB v)
theorem setCells_size (g : Nat) : ∀ (vs : List Value) (o : Nat) (u : World), (u.setCells g o vs).heap.size = u.heap.size
  | [], _, _ => rfl
  | v :: r, o, u => (setCells_size g r (o + 1) (u.setCell ⟨g, o, none⟩ v)).trans (by simp [World.setCell])
/-- THE STATE of read: some lists are there, so many bytes are read -/
structure Rp (w : World) (P H A T Hb : Nat) (zs : List Int) (o : Nat) (R : List (List Int)) (fo en : List Nat) (V1 V2 V3 : Value) (Us : List Value) (u : World) : Prop where
  rd : Rd u P H (o) (zs.drop (o))
  ht : TyB u 5 H
  tm : Tm w.heap.size Hb T (rdCl zs) R fo en V1 V2 V3 Us u
  res : DB u A (fun _ => 0) nilV nilV nilV
  low : Below w.heap.size w u
  ord : w.heap.size ≤ P ∧ w.heap.size ≤ A ∧ A ≠ T
section
variable {w : World} {P H A T Hb : Nat} {zs : List Int} {o : Nat} {R : List (List Int)} {fo en : List Nat} {V1 V2 V3 : Value} {Us : List Value} {u v : World}
theorem Rd.Pne {off : Nat} {ys : List Int} (h : Rd u P H off ys) : P ≠ H := by
  obtain ⟨_, _, h2, _⟩ := h
  exact h2
theorem Rp.later (h : Rp w P H A T Hb zs o R fo en V1 V2 V3 Us u) (hb : Below u.heap.size u v) : Rp w P H A T Hb zs o R fo en V1 V2 V3 Us v := by
  have hH : H < u.heap.size := by obtain ⟨c, z, hc⟩ := h.ht; exact (Array.getElem?_eq_some_iff.1 hc).1
  exact ⟨h.rd.move hb h.rd.P_lt hH, h.ht.same (hb.block H hH), h.tm.later hb, h.res.later hb, below_step h.low hb, h.ord⟩
/-- behind a number -/
theorem Rp.num (h : Rp w P H A T Hb zs o R fo en V1 V2 V3 Us u) {n : Nat} (hr : Rd v P H (o + n) (zs.drop (o + n))) (hg : u.grownBy v (some P)) : Rp w P H A T Hb zs (o + n) R fo en V1 V2 V3 Us v := by
  have hH : H < u.heap.size := by obtain ⟨c, z, hc⟩ := h.ht; exact (Array.getElem?_eq_some_iff.1 hc).1
  have hne := h.rd.Pne
  have hA : A ≠ P := fun e => by subst e; exact absurd (TyB.ne h.res.ty h.rd.ty) (by decide)
  exact ⟨hr, h.ht.same (hg.block H hH (by simp; omega)), h.tm.grown h.rd.ty hg, h.res.same (hg.block A h.res.lt (by simp; omega)), h.low.grown hg h.low.size (fun b hb => by cases hb; exact h.ord.1), h.ord⟩
/-- a block beside is turned -/
theorem Rp.other (h : Rp w P H A T Hb zs o R fo en V1 V2 V3 Us u) {X q : Nat} {x : Value} (hX : Hb ≤ X) (hty : TyB u 3 X) (hw : w.heap.size ≤ X) : Rp w P H A T Hb zs o R fo en V1 V2 V3 Us (u.setCell ⟨X, q, none⟩ x) := by
  have hs : ∀ b t, TyB u t b → t ≠ 3 → (u.setCell ⟨X, q, none⟩ x).heap[b]? = u.heap[b]? := fun b t ht hne => Below.heap_setCell u ⟨X, q, none⟩ x b (fun e => by
    have e2 : b = X := e
    subst e2
    exact hne (TyB.ne ht hty))
  refine ⟨h.rd.later (hs P _ h.rd.ty (by decide)) (hs H _ h.ht (by decide)), h.ht.same (hs H _ h.ht (by decide)), h.tm.keep (by simp [World.setCell]) (fun b t hb _ _ _ => Below.heap_setCell u ⟨X, q, none⟩ x b (fun e => ?_)), h.res.same (hs A _ h.res.ty (by decide)), h.low.setCell (p := ⟨X, q, none⟩) hw x, h.ord⟩
  have e2 : b = X := e
  omega
/-- the lists grow: what is beside them stands -/
theorem Rp.side (h : Rp w P H A T Hb zs o R fo en V1 V2 V3 Us u) {u1 w3 : World} {q : Nat} {x : Value} {Vx : Value} {e : TypeId} {n : Nat} {xs : List Value} (hx : u.ownsRow w.heap.size e 1 Vx n xs) (h1 : Below u.heap.size u u1) (hg : u1.grownBy w3 Vx.ownBlock) :
    (∀ b t, b < u.heap.size → TyB u t b → t ≠ e → b ≠ T → (w3.setCell ⟨T, q, none⟩ x).heap[b]? = u.heap[b]?) ∧ Below w.heap.size w (w3.setCell ⟨T, q, none⟩ x) := by
  have hs1 := h1.size
  refine ⟨fun b t hb ht hne hT => ?_, ?_⟩
  · refine (Below.heap_setCell w3 ⟨T, q, none⟩ x b hT).trans ((hg.block b (by omega) (fun e2 => hne (TyB.ne ht (own_at hx b e2.symm).2.2))).trans (h1.block b hb))
  · exact ((below_step h.low h1).grown hg (below_step h.low h1).size (fun b hb => (own_at hx b hb).1)).setCell (p := ⟨T, q, none⟩) h.tm.tH.2.1 x
theorem Rp.sides (h : Rp w P H A T Hb zs o R fo en V1 V2 V3 Us u) {e : TypeId} (he : e = 41 ∨ e = 27) (hs : ∀ b t, b < u.heap.size → TyB u t b → t ≠ e → b ≠ T → v.heap[b]? = u.heap[b]?) :
    Rd v P H (o) (zs.drop (o)) ∧ TyB v 5 H ∧ DB v A (fun _ => 0) nilV nilV nilV := by
  have hH : H < u.heap.size := by obtain ⟨c, z, hc⟩ := h.ht; exact (Array.getElem?_eq_some_iff.1 hc).1
  have n1 : 79 ≠ e := by rcases he with rfl | rfl <;> decide
  have n2 : 5 ≠ e := by rcases he with rfl | rfl <;> decide
  have n3 : 26 ≠ e := by rcases he with rfl | rfl <;> decide
  have hP := hs P _ h.rd.P_lt h.rd.ty n1 (fun e2 => by subst e2; exact absurd (TyB.ne h.rd.ty h.tm.db.ty) (by decide))
  have hHH := hs H _ hH h.ht n2 (fun e2 => by subst e2; exact absurd (TyB.ne h.ht h.tm.db.ty) (by decide))
  exact ⟨h.rd.later hP hHH, h.ht.same hHH, h.res.same (hs A _ h.res.lt h.res.ty n3 h.ord.2.2)⟩
theorem Rp.next (h : Rp w P H A T Hb zs o R fo en V1 V2 V3 Us u) {r : List Int} {b : Nat} (hb : Hb ≤ b) (ho : u.ownsRow w.heap.size 3 1 (.slice (some ⟨b, 0, none⟩) r.length r.length) r.length (ints r)) {u1 w3 : World} (h1 : Below u.heap.size u u1) {V1' : Value} (ho1 : w3.ownsRow w.heap.size 41 1 V1' (R.length + 1) (Us ++ [.slice (some ⟨b, 0, none⟩) r.length r.length])) (hg : u1.grownBy w3 V1.ownBlock) :
    Rp w P H A T w3.heap.size zs o (R ++ [r]) fo en V1' V2 V3 (Us ++ [.slice (some ⟨b, 0, none⟩) r.length r.length]) (w3.setCell ⟨T, 256, none⟩ V1') := by
  obtain ⟨s1, s2⟩ := h.side (q := 256) (x := V1') h.tm.nx h1 hg
  obtain ⟨q1, q2, q3⟩ := h.sides (.inl rfl) s1
  exact ⟨q1, q2, h.tm.next hb ho h1 ho1 hg, q3, s2, h.ord⟩
theorem Rp.found (h : Rp w P H A T Hb zs o R fo en V1 V2 V3 Us u) {u1 w3 : World} (h1 : Below u.heap.size u u1) {x : Nat} {V2' : Value} (ho : w3.ownsRow w.heap.size 27 1 V2' (fo.length + 1) (u32s (fo ++ [x]))) (hg : u1.grownBy w3 V2.ownBlock) (hat : Here u1 V2 V2') :
    Rp w P H A T w3.heap.size zs o R (fo ++ [x]) en V1 V2' V3 Us (w3.setCell ⟨T, 257, none⟩ V2') := by
  obtain ⟨s1, s2⟩ := h.side (q := 257) (x := V2') h.tm.fo h1 hg
  obtain ⟨q1, q2, q3⟩ := h.sides (.inr rfl) s1
  exact ⟨q1, q2, h.tm.found h1 ho hg hat, q3, s2, h.ord⟩
theorem Rp.ends (h : Rp w P H A T Hb zs o R fo en V1 V2 V3 Us u) {u1 w3 : World} (h1 : Below u.heap.size u u1) {x : Nat} {V3' : Value} (ho : w3.ownsRow w.heap.size 27 1 V3' (en.length + 1) (u32s (en ++ [x]))) (hg : u1.grownBy w3 V3.ownBlock) (hat : Here u1 V3 V3') :
    Rp w P H A T w3.heap.size zs o R fo (en ++ [x]) V1 V2 V3' Us (w3.setCell ⟨T, 258, none⟩ V3') := by
  obtain ⟨s1, s2⟩ := h.side (q := 258) (x := V3') h.tm.en h1 hg
  obtain ⟨q1, q2, q3⟩ := h.sides (.inr rfl) s1
  exact ⟨q1, q2, h.tm.ends h1 ho hg hat, q3, s2, h.ord⟩
end
end Go.Proofs.YtdngileimmgdnaaDoor
