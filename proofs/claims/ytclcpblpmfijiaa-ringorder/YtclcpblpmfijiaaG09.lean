/- A queue of things: a slice that is shortened at its front and grown at its end. -/
import Derived.Test.YtclcpblpmfijiaaG08
import Derived.Deep.AppendSrc
import Derived.Deep.MidRow
namespace Go.Proofs.Ytclcpblpmfijiaa
open Go.RowKit Rg

theorem grown_trans {w u v : World} {r : Option Nat} (h : w.grownBy u r) (hb : u.grownBy v r) : w.grownBy v r := ⟨hb.os.trans h.os, hb.tape.trans h.tape, hb.output.trans h.output, Nat.le_trans h.size hb.size, fun k hk hne => (hb.block k (Nat.lt_of_lt_of_le hk h.size) hne).trans (h.block k hk hne)⟩
theorem grown_set (W : World) (a : Addr) (v : Value) : W.grownBy (W.setCell a v) (some a.block) := ⟨rfl, rfl, rfl, by simp, fun k _ hk => Below.heap_setCell W a v k (fun e => hk (by rw [e]))⟩
theorem ty_set {u : World} {t : TypeId} {b : Nat} (h : TyB u t b) (B k : Nat) (v : Value) : TyB (u.setCell ⟨B, k, none⟩ v) t b := by
  by_cases e : b = B
  · obtain ⟨cs, z, hc⟩ := h
    subst e
    exact ⟨_, _, heap_set hc k v⟩
  · exact h.same (Below.heap_setCell u ⟨B, k, none⟩ v b e)
theorem ty_setCells {u : World} {t : TypeId} {b : Nat} (g : Nat) : ∀ (vs : List Value) (o : Nat) {u : World}, TyB u t b → TyB (u.setCells g o vs) t b
  | [], _, _, h => h
  | v :: r, o, _, h => ty_setCells (u := u) g r (o + 1) (ty_set h _ _ v)
theorem setCells_grown (g : Nat) : ∀ (vs : List Value) (o : Nat) (u : World), u.grownBy (u.setCells g o vs) (some g)
  | [], _, _ => ⟨rfl, rfl, rfl, Nat.le_refl _, fun _ _ _ => rfl⟩
  | v :: r, o, u => grown_trans (grown_set u ⟨g, o, none⟩ v) (setCells_grown g r (o + 1) _)
/-- A QUEUE IN MEMORY: its cells, from an address on. -/
structure Qu (w : World) (base qb off len cap : Nat) (l : List Value) : Prop where
  ge : base ≤ qb
  ty : TyB w 29 qb
  cells : ∀ j v, l[j]? = some v → w.cell? ⟨qb, off + j, none⟩ = some v
  room : w.there qb off (cap * 2)
  n : l.length = len * 2
  le : len ≤ cap
  mx : cap ≤ maxLen
section
variable {w w' : World} {base qb off len cap : Nat} {l : List Value}
theorem Qu.lt (h : Qu w base qb off len cap l) : qb < w.heap.size := by
  obtain ⟨c, z, hc⟩ := h.ty
  exact (Array.getElem?_eq_some_iff.1 hc).1
theorem Qu.same (h : Qu w base qb off len cap l) (e : w'.heap[qb]? = w.heap[qb]?) : Qu w' base qb off len cap l :=
  ⟨h.ge, h.ty.same e, fun j v hj => (World.cell?_of_block (a := ⟨qb, off + j, none⟩) e).trans (h.cells j v hj), fun j hj => by
    obtain ⟨h1, h2⟩ := h.room j hj
    exact ⟨by rw [World.cell?_of_block (a := ⟨qb, off + j, none⟩) e]; exact h1, by unfold World.frozen? at h2 ⊢; rw [e]; exact h2⟩, h.n, h.le, h.mx⟩
theorem Qu.later (h : Qu w base qb off len cap l) (hb : Below w.heap.size w w') : Qu w' base qb off len cap l := h.same (hb.block qb h.lt)
/-- the first goes -/
theorem Qu.pop (h : Qu w base qb off (len + 1) cap l) : Qu w base qb (if cap = 1 then off else off + 2) len (cap - 1) (l.drop 2) := by
  have hle := h.le
  have hn := h.n
  have hmx := h.mx
  by_cases e : cap = 1
  · have h0 : len = 0 := by omega
    subst h0 e
    rw [if_pos rfl]
    refine ⟨h.ge, h.ty, fun j v hj => ?_, fun j hj => by omega, by simp [hn], by omega, by omega⟩
    rw [List.drop_of_length_le (by omega)] at hj
    simp at hj
  · rw [if_neg e]
    refine ⟨h.ge, h.ty, fun j v hj => ?_, fun j hj => ?_, by simp [hn]; omega, by omega, by omega⟩
    · rw [List.getElem?_drop] at hj
      have := h.cells (2 + j) v hj
      rwa [show off + (2 + j) = off + 2 + j by omega] at this
    · have := h.room (2 + j) (by omega)
      rwa [show off + (2 + j) = off + 2 + j by omega] at this
theorem run_pop (h : Qu w base qb off (len + 1) cap l) (u : World) : (Instr.slice 22 (.slice (some ⟨qb, off, none⟩) (len + 1) cap) (some (.int .i64 1)) none none).run Try.prog u = .ok (.slice (some ⟨qb, if cap = 1 then off else off + 2, none⟩) len (cap - 1)) u := by
  have hle := h.le
  obtain ⟨i0, hi, hz0, hz1, hz2⟩ := info_parts (show (Try.prog.info? 29).map (fun i => (i.zero, i.size, i.bytes)) = some (some (.agg #[.string ⟨#[]⟩, .int .i64 0]), 2, 24) by kernel_rfl)
  simp [Instr.slice, run_underlying Try.underlying22, Instr.sliceBounds, Instr.sliceBound, asIntOf, sizeOf, typeInfo, hi, hz1]
  by_cases e : cap = 1
  · simp [e]
    intro h9
    omega
  · simp [e, Addr.add]
    intro h9
    omega
/-- one more at the end -/
theorem qu_append (h : Qu w base qb off len cap l) (ty : TypeId) (ad : Addr) (news : List Value) (hl : news.length = 2) (hnews : ∀ j v, news[j]? = some v → w.cell? (ad.add j) = some v) (h1 : ∀ v ∈ news, v.oneCell' = true) (hlen : len ≤ 100000) (hbase : base ≤ w.heap.size) :
    ∃ qb' off' cap' w', (Builtin.append_ #[22, 22] ty #[.slice (some ⟨qb, off, none⟩) len cap, .slice (some ad) 1 1]).run Try.prog w = .ok (.slice (some ⟨qb', off', none⟩) (len + 1) cap') w' ∧ Qu w' base qb' off' (len + 1) cap' (l ++ news) ∧ w.grownBy w' (some qb) ∧ (qb' = qb ∨ w.heap.size ≤ qb') := by
  obtain ⟨i0, hi, hz0, hz1, hz2⟩ := info_parts (show (Try.prog.info? 29).map (fun i => (i.zero, i.size, i.bytes)) = some (some (.agg #[.string ⟨#[]⟩, .int .i64 0]), 2, 24) by kernel_rfl)
  have hs : Src Try.prog i0.size 22 (.slice (some ad) 1 1) 1 news w := Src.ofSlice w Try.underlying22 ad 1 1 news (by rw [hl, hz1]) hnews h1
  have hn := h.n
  by_cases hroom : len + 1 ≤ cap
  · have hr := run_append_room_src (P := Try.prog) w 22 22 ty 29 i0 Try.underlying22 hi qb off len cap (.slice (some ad) 1 1) 1 news hs hroom
      (fun j hj => by rw [hz1]; rw [hl] at hj; have := (h.room (len * 2 + j) (by omega)).1; rwa [show off + (len * 2 + j) = off + len * 2 + j by omega] at this)
      (fun j hj => by rw [hz1]; rw [hl] at hj; have := (h.room (len * 2 + j) (by omega)).2; rwa [show off + (len * 2 + j) = off + len * 2 + j by omega] at this)
    rw [hz1] at hr
    refine ⟨qb, off, cap, _, hr, ⟨h.ge, ty_setCells (u := w) qb _ _ h.ty, fun j v hj => ?_, World.there_setCells h.room _ _ _, by simp [hn, hl]; omega, hroom, h.mx⟩, ?_, .inl rfl⟩
    · by_cases hj2 : j < l.length
      · rw [List.getElem?_append_left hj2] at hj
        rw [World.cell?_setCells_out qb news _ w ⟨qb, off + j, none⟩ (fun _ _ => .inl (by show off + j < off + len * 2; omega))]
        exact h.cells j v hj
      · rw [List.getElem?_append_right (by omega)] at hj
        have hjl := (List.getElem?_eq_some_iff.1 hj).1
        have := World.cell?_setCells_in qb news (off + len * 2) w (fun i hi => by rw [hl] at hi; have := (h.room (len * 2 + i) (by omega)).1; rwa [show off + (len * 2 + i) = off + len * 2 + i by omega] at this) (j - l.length) hjl
        rw [show off + len * 2 + (j - l.length) = off + j by omega] at this
        rw [this, ← hj, List.getElem?_eq_getElem hjl]
    · exact setCells_grown qb news _ w
  · have hcl : cap = len := by have := h.le; omega
    have hold : (Builtin.firstCells i0.size len (.slice (some ⟨qb, off, none⟩) len cap)).run Try.prog w.drew = .ok l.toArray w.drew := run_firstCells_some (P := Try.prog) w.drew i0.size len ⟨qb, off, none⟩ len cap l (by rw [hz1]; exact hn) (fun j v hj => by rw [Go.WideShapes.add_plain]; exact h.cells j v hj)
    have hr := run_append_grow_src (P := Try.prog) w 22 22 ty 29 i0 _ Try.underlying22 hi hz0 (some ⟨qb, off, none⟩) len cap l hold (.slice (some ad) 1 1) 1 news hs (by omega) (by omega) (growslice_fits (by omega) (by rw [hz2]; omega))
    obtain ⟨G, hG⟩ : ∃ G, G = grownCap w (len + 1) cap 29 := ⟨_, rfl⟩
    have hge : len + 1 ≤ G := by rw [hG]; exact grownCap_ge w _ _ _
    have hgm : G ≤ maxLen := by rw [hG]; exact grownCap_le_maxLen w _ _ _ (by simp only [maxLen]; omega)
    rw [← hG] at hr
    have hnew := heap_alloc_new w.drew (.cells ((l ++ news).toArray ++ Builtin.zeroCells (Value.agg #[.string ⟨#[]⟩, .int .i64 0]).cells (G - (len + 1))) 29 (0, 0))
    have hcs : ((l ++ news).toArray ++ Builtin.zeroCells (Value.agg #[.string ⟨#[]⟩, .int .i64 0]).cells (G - (len + 1))).size = G * 2 := by
      simp [Builtin.zeroCells, Value.cells, hn, hl]
      omega
    refine ⟨w.heap.size, 0, G, _, hr, ⟨hbase, ⟨_, _, hnew⟩, fun j v hj => ?_, fun j hj => ?_, by simp [hn, hl]; omega, hge, hgm⟩, ?_, .inr (Nat.le_refl _)⟩
    · have hjl := (List.getElem?_eq_some_iff.1 hj).1
      simp only [World.cell?]
      rw [show (w.heap.size : Nat) = w.drew.heap.size from rfl, hnew]
      simp only [Nat.zero_add]
      rw [Array.getElem?_append_left (by simpa using hjl)]
      simpa using hj
    · have hjs : 0 + j < ((l ++ news).toArray ++ Builtin.zeroCells (Value.agg #[.string ⟨#[]⟩, .int .i64 0]).cells (G - (len + 1))).size := by rw [hcs]; omega
      refine ⟨?_, ?_⟩
      · simp only [World.cell?]
        rw [show (w.heap.size : Nat) = w.drew.heap.size from rfl, hnew]
        simp only
        rw [Array.getElem?_eq_getElem hjs]
        rfl
      · simp only [World.frozen?]
        rw [show (w.heap.size : Nat) = w.drew.heap.size from rfl, hnew]
        simp
    · have k : Below w.heap.size w (w.drew.alloc (.cells ((l ++ news).toArray ++ Builtin.zeroCells (Value.agg #[.string ⟨#[]⟩, .int .i64 0]).cells (G - (len + 1))) 29)) := ((Below.refl _ _).drew).alloc (Nat.le_refl _) _
      exact ⟨k.os, k.tape, k.output, k.size, fun b hb _ => k.block b hb⟩
/-- a first one -/
theorem qu_first (w : World) (ty : TypeId) (ad : Addr) (news : List Value) (hl : news.length = 2) (hnews : ∀ j v, news[j]? = some v → w.cell? (ad.add j) = some v) (h1 : ∀ v ∈ news, v.oneCell' = true) :
    ∃ qb' off' cap' w', (Builtin.append_ #[22, 22] ty #[.slice none 0 0, .slice (some ad) 1 1]).run Try.prog w = .ok (.slice (some ⟨qb', off', none⟩) 1 cap') w' ∧ Qu w' w.heap.size qb' off' 1 cap' news ∧ Below w.heap.size w w' := by
  obtain ⟨i0, hi, hz0, hz1, hz2⟩ := info_parts (show (Try.prog.info? 29).map (fun i => (i.zero, i.size, i.bytes)) = some (some (.agg #[.string ⟨#[]⟩, .int .i64 0]), 2, 24) by kernel_rfl)
  have hs : Src Try.prog i0.size 22 (.slice (some ad) 1 1) 1 news w := Src.ofSlice w Try.underlying22 ad 1 1 news (by rw [hl, hz1]) hnews h1
  have hold : (Builtin.firstCells i0.size 0 (.slice none 0 0)).run Try.prog w.drew = .ok #[] w.drew := by simp [Builtin.firstCells]
  have hr := run_append_grow_src (P := Try.prog) w 22 22 ty 29 i0 _ Try.underlying22 hi hz0 none 0 0 [] hold (.slice (some ad) 1 1) 1 news hs (by omega) (by omega) (growslice_fits (by omega) (by rw [hz2]; omega))
  obtain ⟨G, hG⟩ : ∃ G, G = grownCap w (0 + 1) 0 29 := ⟨_, rfl⟩
  have hge : 0 + 1 ≤ G := by rw [hG]; exact grownCap_ge w _ _ _
  have hgm : G ≤ maxLen := by rw [hG]; exact grownCap_le_maxLen w _ _ _ (by simp only [maxLen]; omega)
  rw [← hG] at hr
  simp only [List.nil_append] at hr
  have hnew := heap_alloc_new w.drew (.cells (news.toArray ++ Builtin.zeroCells (Value.agg #[.string ⟨#[]⟩, .int .i64 0]).cells (G - (0 + 1))) 29 (0, 0))
  have hcs : (news.toArray ++ Builtin.zeroCells (Value.agg #[.string ⟨#[]⟩, .int .i64 0]).cells (G - (0 + 1))).size = G * 2 := by
    simp [Builtin.zeroCells, Value.cells, hl]
    omega
  refine ⟨w.heap.size, 0, G, _, hr, ⟨Nat.le_refl _, ⟨_, _, hnew⟩, fun j v hj => ?_, fun j hj => ?_, by simp [hl], hge, hgm⟩, ((Below.refl _ _).drew).alloc (Nat.le_refl _) _⟩
  · have hjl := (List.getElem?_eq_some_iff.1 hj).1
    simp only [World.cell?]
    rw [show (w.heap.size : Nat) = w.drew.heap.size from rfl, hnew]
    simp only [Nat.zero_add]
    rw [Array.getElem?_append_left (by simpa using hjl)]
    simpa using hj
  · have hjs : 0 + j < (news.toArray ++ Builtin.zeroCells (Value.agg #[.string ⟨#[]⟩, .int .i64 0]).cells (G - (0 + 1))).size := by rw [hcs]; omega
    refine ⟨?_, ?_⟩
    · simp only [World.cell?]
      rw [show (w.heap.size : Nat) = w.drew.heap.size from rfl, hnew]
      simp only
      rw [Array.getElem?_eq_getElem hjs]
      rfl
    · simp only [World.frozen?]
      rw [show (w.heap.size : Nat) = w.drew.heap.size from rfl, hnew]
      simp
end
end Go.Proofs.Ytclcpblpmfijiaa
