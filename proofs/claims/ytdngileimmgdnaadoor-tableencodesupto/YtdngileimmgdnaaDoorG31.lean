/- What TableEncodes has in memory: rows of bytes, and a table in lists of its own. -/
import Derived.Test.YtdngileimmgdnaaDoorG30
namespace Go.Proofs.YtdngileimmgdnaaDoor
open Go Go.RowKit

theorem fam_merge {A : Nat} {u v : World} {bs rows : List (Value × List Int)} {nx : Value × List Value} {fo en : Value × List Nat} (h1 : Fam A u (fm bs [] (nilS, []) (nilS, []) (nilS, []))) (hb : Below u.heap.size u v) (h2 : Fam u.heap.size v (fm [] rows nx fo en)) (hA : A ≤ u.heap.size) : Fam A v (fm bs rows nx fo en) := by
  have hv := h1.later hb
  have lo : ∀ i, i < 4 → fm bs rows nx fo en i = fm bs [] (nilS, []) (nilS, []) (nilS, []) i := fun i hi => by rw [fm_at0 _ _ _ _ _ hi, fm_at0 _ _ _ _ _ hi]
  have hi' : ∀ i, ¬ i < 4 → fm bs rows nx fo en i = fm [] rows nx fo en i := fun i hi => by unfold fm; rw [if_neg hi, if_neg hi]
  refine ⟨fun i t x xs h => ?_, fun i j t x xs t' x' xs' k h h' hk hk' => ?_⟩
  · by_cases e : i < 4
    · rw [lo i e] at h
      exact hv.own i _ _ _ h
    · rw [hi' i e] at h
      exact (h2.lower hA).own i _ _ _ h
  · have cross : ∀ i j t x xs t' x' xs', i < 4 → ¬ j < 4 → fm bs rows nx fo en i = some (t, x, xs) → fm bs rows nx fo en j = some (t', x', xs') → x.ownBlock = some k → x'.ownBlock = some k → False := fun i j t x xs t' x' xs' hi hj h h' hk hk' => by
      rw [lo i hi] at h
      rw [hi' j hj] at h'
      have a1 := (own_at (h1.own i _ _ _ h) k hk).2.1
      have a2 := (own_at (h2.own j _ _ _ h') k hk').1
      omega
    by_cases e : i < 4 <;> by_cases e' : j < 4
    · rw [lo i e] at h
      rw [lo j e'] at h'
      exact hv.inj i j _ _ _ _ _ _ k h h' hk hk'
    · exact (cross i j _ _ _ _ _ _ e e' h h' hk hk').elim
    · exact (cross j i _ _ _ _ _ _ e' e h' h hk' hk).elim
    · rw [hi' i e] at h
      rw [hi' j e'] at h'
      exact h2.inj i j _ _ _ _ _ _ k h h' hk hk'
theorem cellsOf_set (z : List Int) (j : Nat) (x : Int) : (cellsOf z).set j (.int .u8 x) = cellsOf (z.set j x) := by simp [cellsOf, List.map_set]
theorem u32s_set (l : List Nat) (j x : Nat) : (u32s l).set j (.int .u32 (x : Nat)) = u32s (l.set j x) := by simp [u32s, List.map_set]
theorem ints_set (l : List Int) (j : Nat) (x : Int) : (ints l).set j (.int .i64 x) = ints (l.set j x) := by simp [ints, List.map_set]
theorem set_snoc {α : Type} (l : List α) (m x : α) {j : Nat} (hj : j < l.length) : (l ++ [m]).set j x = l.set j x ++ [m] := by rw [List.set_append_left _ _ hj]
structure En (w1 u : World) (E : Nat) (d : Dt) (bs rows : List (Value × List Int)) (V1 V2 V3 M : Value) : Prop where
  c : Cpy w1.heap.size u d bs rows V1 V2 V3 M
  low : Below w1.heap.size w1 u
  db : DB u E d.cl (cutv V1) (cutv V2) (cutv V3)
  bf : ∀ x ∈ d.fo, x < 4294967296
  be : ∀ x ∈ d.en, x < 4294967296
section
variable {w1 u v : World} {E : Nat} {d : Dt} {bs rows : List (Value × List Int)} {V1 V2 V3 M : Value}
theorem En.later (h : En w1 u E d bs rows V1 V2 V3 M) (hb : Below u.heap.size u v) : En w1 v E d bs rows V1 V2 V3 M := ⟨h.c.later hb, below_step h.low hb, h.db.later hb, h.bf, h.be⟩
theorem En.drew (h : En w1 u E d bs rows V1 V2 V3 M) : En w1 u.drew E d bs rows V1 V2 V3 M := h.later (Below.refl _ _).drew
theorem En.df (h : En w1 u E d bs rows V1 V2 V3 M) : DfAt u d (cutv V1) (cutv V2) (cutv V3) (rows.map fun p => cutv p.1) := h.c.df h.bf h.be
/-- the bytes of row k -/
theorem En.byte (h : En w1 u E d bs rows V1 V2 V3 M) {k : Nat} (h4 : k < 4) {v : Value} {z : List Int} (hk : bs[k]? = some (v, z)) : u.ownsRow w1.heap.size 5 1 v z.length (cellsOf z) := by
  have := h.c.fam.own k 5 v (cellsOf z) (by rw [fm_at0 _ _ _ _ _ h4, hk]; rfl)
  rwa [cellsOf_length] at this
theorem bytes_of {B : Nat} {v : Value} {z : List Int} (h : u.ownsRow B 5 1 v z.length (cellsOf z)) : ∃ a c, v = .slice a z.length c ∧ BytesAt u a z ∧ z.length ≤ c ∧ c ≤ 9223372036854775807 ∧ (z ≠ [] → ∃ g, a = some ⟨g, 0, none⟩ ∧ B ≤ g) := by
  rcases h.2 with ⟨rfl, h0⟩ | ⟨g, cap, cur, rfl, hB, hg, hc, hm, hs, ht⟩
  · exact ⟨none, 0, by rw [h0], .inl (List.eq_nil_of_length_eq_zero h0), by omega, by omega, fun hn => absurd (List.eq_nil_of_length_eq_zero h0) hn⟩
  · refine ⟨_, cap, rfl, .inr ⟨g, 0, rfl, fun k hk => ?_⟩, hc, by simp only [maxLen] at hm; omega, fun _ => ⟨g, rfl, hB⟩⟩
    have := h.cellAt k (by omega)
    rw [Nat.zero_add, this]
    simp [cellsOf, hk]
theorem En.db_put (h : En w1 u E d bs rows V1 V2 V3 M) {i : Nat} {t : TypeId} {g n c : Nat} {xs : List Value} (hi : fm bs rows (V1, (rows.map fun p => cutv p.1) ++ [M]) (V2, d.fo ++ [77]) (V3, d.en ++ [77]) i = some (t, .slice (some ⟨g, 0, none⟩) n c, xs)) (ht : t ≠ 26) (j : Nat) (x : Value) : DB (u.setCell ⟨g, j, none⟩ x) E d.cl (cutv V1) (cutv V2) (cutv V3) :=
  h.db.same (Below.heap_setCell u ⟨g, j, none⟩ x E (fun e => by
    have e' : E = g := e
    have h1 := (own_at (h.c.fam.own i _ _ _ hi) g rfl).2.2
    rw [← e'] at h1
    exact ht (TyB.ne h1 h.db.ty)))
theorem En.low_put (h : En w1 u E d bs rows V1 V2 V3 M) {i : Nat} {t : TypeId} {g n c : Nat} {xs : List Value} (hi : fm bs rows (V1, (rows.map fun p => cutv p.1) ++ [M]) (V2, d.fo ++ [77]) (V3, d.en ++ [77]) i = some (t, .slice (some ⟨g, 0, none⟩) n c, xs)) (j : Nat) (x : Value) : Below w1.heap.size w1 (u.setCell ⟨g, j, none⟩ x) :=
  h.low.setCell (p := ⟨g, j, none⟩) (own_at (h.c.fam.own i _ _ _ hi) g rfl).1 x
theorem En.putB (h : En w1 u E d bs rows V1 V2 V3 M) {k : Nat} (h4 : k < 4) {g n c : Nat} {z : List Int} (hk : bs[k]? = some (.slice (some ⟨g, 0, none⟩) n c, z)) (j : Nat) (x : Int) : En w1 (u.setCell ⟨g, j, none⟩ (.int .u8 x)) E d (bs.set k (.slice (some ⟨g, 0, none⟩) n c, z.set j x)) rows V1 V2 V3 M := by
  have hi : fm bs rows (V1, (rows.map fun p => cutv p.1) ++ [M]) (V2, d.fo ++ [77]) (V3, d.en ++ [77]) k = some (5, .slice (some ⟨g, 0, none⟩) n c, cellsOf z) := by rw [fm_at0 _ _ _ _ _ h4, hk]; rfl
  refine ⟨⟨?_, h.c.len, h.c.row, h.c.nn, h.c.n1, h.c.n2, h.c.n3, h.c.m⟩, h.low_put hi j _, h.db_put hi (by decide) j _, h.bf, h.be⟩
  have := h.c.fam.put hi j (.int .u8 x)
  rw [cellsOf_set, fm_byte _ _ _ _ _ (List.getElem?_eq_some_iff.1 hk).1 h4] at this
  exact this
theorem En.putE (h : En w1 u E d bs rows V1 V2 V3 M) {g n c : Nat} (h3 : V3 = .slice (some ⟨g, 0, none⟩) n c) {j : Nat} (hj : j < d.en.length) {x : Nat} (hx : x < 4294967296) : En w1 (u.setCell ⟨g, j, none⟩ (.int .u32 (x : Nat))) E ⟨d.cl, d.nx, d.fo, d.en.set j x⟩ bs rows V1 V2 V3 M := by
  subst h3
  have hi := fm_at6 bs rows (V1, (rows.map fun p => cutv p.1) ++ [M]) (V2, d.fo ++ [77]) (.slice (some ⟨g, 0, none⟩) n c, d.en ++ [77])
  refine ⟨⟨?_, h.c.len, h.c.row, h.c.nn, h.c.n1, h.c.n2, h.c.n3, h.c.m⟩, h.low_put hi j _, h.db_put hi (by decide) j _, h.bf, fun y hy => ?_⟩
  · have := h.c.fam.put hi j (.int .u32 (x : Nat))
    rw [u32s_set, set_snoc _ _ _ hj, fm_en] at this
    exact this
  · rcases List.mem_or_eq_of_mem_set hy with h' | h'
    · exact h.be y h'
    · rw [h']; exact hx
/-- a number of a row written over -/
def setRowD (d : Dt) (s j : Nat) (x : Int) : Dt := ⟨d.cl, d.nx.set s ((d.row s).set j x), d.fo, d.en⟩
theorem setRowD_row (d : Dt) {s j : Nat} (x : Int) (hs : s < d.S) (t : Nat) : (setRowD d s j x).row t = if t = s then (d.row s).set j x else d.row t := by
  unfold setRowD Dt.row
  simp only [List.getD_eq_getElem?_getD]
  by_cases e : t = s
  · subst e
    rw [List.getElem?_set_self hs]
    simp
  · rw [List.getElem?_set_ne (Ne.symm e)]
    simp [e]
theorem setRowD_S (d : Dt) (s j : Nat) (x : Int) : (setRowD d s j x).S = d.S := by simp [setRowD, Dt.S]
theorem En.putR (h : En w1 u E d bs rows V1 V2 V3 M) {s : Nat} (hs : s < d.S) {g n c : Nat} (hr : rows[s]? = some (.slice (some ⟨g, 0, none⟩) n c, d.row s ++ [-77])) {j : Nat} (hj : j < (d.row s).length) (x : Int) : En w1 (u.setCell ⟨g, j, none⟩ (.int .i64 x)) E (setRowD d s j x) bs (rows.set s (.slice (some ⟨g, 0, none⟩) n c, (d.row s).set j x ++ [-77])) V1 V2 V3 M := by
  have hi : fm bs rows (V1, (rows.map fun p => cutv p.1) ++ [M]) (V2, d.fo ++ [77]) (V3, d.en ++ [77]) (7 + s) = some (3, .slice (some ⟨g, 0, none⟩) n c, ints (d.row s ++ [-77])) := by rw [fm_at7, hr]; rfl
  have hsl : s < rows.length := (List.getElem?_eq_some_iff.1 hr).1
  have hmap : (rows.set s (.slice (some ⟨g, 0, none⟩) n c, (d.row s).set j x ++ [-77])).map (fun p => cutv p.1) = rows.map (fun p => cutv p.1) := by
    rw [List.map_set]
    apply List.ext_getElem?
    intro k
    by_cases e : s = k
    · subst e
      rw [List.getElem?_set_self (by simpa using hsl), List.getElem?_map, hr]
      rfl
    · rw [List.getElem?_set_ne e]
  refine ⟨⟨?_, by rw [List.length_set, setRowD_S]; exact h.c.len, fun t p hp => ?_, fun p hp => ?_, h.c.n1, h.c.n2, h.c.n3, h.c.m⟩, h.low_put hi j _, h.db_put hi (by decide) j _, h.bf, h.be⟩
  · have := h.c.fam.put hi j (.int .i64 x)
    rw [ints_set, set_snoc _ _ _ hj, fm_row _ _ _ _ _ hsl] at this
    rw [hmap]
    exact this
  · rw [setRowD_row d x hs]
    by_cases e : t = s
    · subst e
      rw [List.getElem?_set_self hsl] at hp
      cases hp
      rw [if_pos rfl]
    · rw [List.getElem?_set_ne (Ne.symm e)] at hp
      rw [if_neg e]
      exact h.c.row t p hp
  · rcases List.mem_or_eq_of_mem_set hp with h' | h'
    · exact h.c.nn p h'
    · rw [h']; simp
end
theorem infB : (Tryd.prog.info? 5).map (fun i => (i.zero, i.size, i.bytes)) = some (some (.int .u8 0), 1, 1) := by kernel_rfl
/-- a byte appended to a row of bytes -/
theorem wpList_append_en {u : World} {ops : Array Oper} {rest : List Oper} {o : Oper} {a : Act} {Q : Exit → Act → World → Prop} (hgd : o.guard = none) (s x : Operand)
    (ho : o.op = .call { callee := .builtin .append, args := #[s, x], argTypes := #[28, 28] })
    {w1 : World} {E : Nat} {d : Dt} {bs rows : List (Value × List Int)} {V1 V2 V3 M : Value} (h : En w1 u E d bs rows V1 V2 V3 M) {k : Nat} (h4 : k < 4) {V : Value} {z : List Int} (hk : bs[k]? = some (V, z)) (hs : a.eval s = V) (Y : Value) (y : Int) (hx : a.eval x = Y) (hY : LAt u Y [.int .u8 y]) (hl : z.length ≤ 3000000)
    (hh : ∀ V' w', En w1 w' E d (bs.set k (V', z ++ [y])) rows V1 V2 V3 M → wpList Tryd.prog ops Q rest (a.put o.dst V') w') : wpList Tryd.prog ops Q (o :: rest) a u := by
  have hi : fm bs rows (V1, (rows.map fun p => cutv p.1) ++ [M]) (V2, d.fo ++ [77]) (V3, d.en ++ [77]) k = some (5, V, cellsOf z) := by rw [fm_at0 _ _ _ _ _ h4, hk]; rfl
  have hown := h.c.fam.own k _ _ _ hi
  refine wpList_append_lat hgd s x ho (.int .u8 0) 1 Tryd.underlying28 infB rfl w1.heap.size V (cellsOf z).length (cellsOf z) hs hown Y [.int .u8 y] hx hY (fun v hv => by simp at hv; subst hv; rfl) (by rw [cellsOf_length]; simp only [maxLen, List.length_singleton]; omega) (by rw [cellsOf_length]; simp only [List.length_singleton]; omega) h.low.size ?_
  intro V' w' h2 h3 _ h5
  have e : cellsOf z ++ [Value.int .u8 y] = cellsOf (z ++ [y]) := by simp [cellsOf]
  have hf : Fam w1.heap.size w' (upd (fm bs rows (V1, (rows.map fun p => cutv p.1) ++ [M]) (V2, d.fo ++ [77]) (V3, d.en ++ [77])) k (5, V', cellsOf (z ++ [y]))) := h.c.fam.grown hi (by rw [← e, List.length_append]; exact h2) h3 h5
  rw [fm_byte _ _ _ _ _ (List.getElem?_eq_some_iff.1 hk).1 h4] at hf
  refine hh V' w' ⟨⟨hf, h.c.len, h.c.row, h.c.nn, h.c.n1, h.c.n2, h.c.n3, h.c.m⟩, h.low.grown h3 h.low.size (fun b hb => (own_at hown b hb).1), h.db.same (h3.block E h.db.lt (fun e => ?_)), h.bf, h.be⟩
  have h6 := (own_at hown E e.symm).2.2
  exact absurd (TyB.ne h6 h.db.ty) (by decide)
end Go.Proofs.YtdngileimmgdnaaDoor
