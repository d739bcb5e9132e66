/- PartSets: sets written over, edges written over, rows that grow. -/
import Derived.Test.YtemmicnhnaafmaaG15
namespace Go.Proofs.Ytemmicnhnaafmaa
open Go.RowKit

/-- the set of four like words -/
def mk4 (x : Nat) : Oct.S := Oct.ofWords x x x x
theorem mk4_0 {x : Nat} (h : x < 18446744073709551616) : Oct.word (mk4 x) 0 = x := (Oct.ofWords0 x x x x h).symm
theorem mk4_1 {x : Nat} (h : x < 18446744073709551616) : Oct.word (mk4 x) 1 = x := (Oct.ofWords1 x x x x h).symm
theorem mk4_2 {x : Nat} (h : x < 18446744073709551616) : Oct.word (mk4 x) 2 = x := (Oct.ofWords2 x x x x h).symm
theorem mk4_3 {x : Nat} (h : x < 18446744073709551616) : Oct.word (mk4 x) 3 = x := (Oct.ofWords3 x x x x h).symm
def over4 (w : World) (g k : Nat) (t : Oct.S) : World := (((w.setCell ⟨g, k * 4, none⟩ (.int .u64 (Oct.word t 0 : Nat))).setCell ⟨g, k * 4 + 1, none⟩ (.int .u64 (Oct.word t 1 : Nat))).setCell ⟨g, k * 4 + 2, none⟩ (.int .u64 (Oct.word t 2 : Nat))).setCell ⟨g, k * 4 + 3, none⟩ (.int .u64 (Oct.word t 3 : Nat))
theorem heap_over4 (w : World) (g k : Nat) (t : Oct.S) (b : Nat) (h : b ≠ g) : (over4 w g k t).heap[b]? = w.heap[b]? := by
  unfold over4
  rw [Below.heap_setCell _ ⟨g, k * 4 + 3, none⟩ _ b h, Below.heap_setCell _ ⟨g, k * 4 + 2, none⟩ _ b h, Below.heap_setCell _ ⟨g, k * 4 + 1, none⟩ _ b h, Below.heap_setCell _ ⟨g, k * 4, none⟩ _ b h]
theorem below_over4 {w u : World} {B g : Nat} (h : Below B w u) (hg : B ≤ g) (k : Nat) (t : Oct.S) : Below B w (over4 u g k t) :=
  (((h.setCell (p := ⟨g, k * 4, none⟩) hg _).setCell (p := ⟨g, k * 4 + 1, none⟩) hg _).setCell (p := ⟨g, k * 4 + 2, none⟩) hg _).setCell (p := ⟨g, k * 4 + 3, none⟩) hg _
theorem OwnsS.over {w : World} {B g n c : Nat} {l : List Oct.S} (h : OwnsS w B (.slice (some ⟨g, 0, none⟩) n c) l) (hn : n = l.length) {k : Nat} {s : Oct.S} (hk : l[k]? = some s) (t : Oct.S) : OwnsS (over4 w g k t) B (.slice (some ⟨g, 0, none⟩) n c) (l.set k t) := by
  have hkl := (List.getElem?_eq_some_iff.1 hk).1
  have l0 := Oct.word_lt t 0
  have l1 := Oct.word_lt t 1
  have l2 := Oct.word_lt t 2
  have s1 := Oct.word_lt s 1
  have s2 := Oct.word_lt s 2
  have s3 := Oct.word_lt s 3
  have a0 := (Oct.ofWords0 (Oct.word t 0) (Oct.word s 1) (Oct.word s 2) (Oct.word s 3) l0).symm
  have a1 := (Oct.ofWords1 (Oct.word t 0) (Oct.word s 1) (Oct.word s 2) (Oct.word s 3) s1).symm
  have a2 := (Oct.ofWords2 (Oct.word t 0) (Oct.word s 1) (Oct.word s 2) (Oct.word s 3) s2).symm
  have a3 := (Oct.ofWords3 (Oct.word t 0) (Oct.word s 1) (Oct.word s 2) (Oct.word s 3) s3).symm
  have b0 := (Oct.ofWords0 (Oct.word t 0) (Oct.word t 1) (Oct.word s 2) (Oct.word s 3) l0).symm
  have b1 := (Oct.ofWords1 (Oct.word t 0) (Oct.word t 1) (Oct.word s 2) (Oct.word s 3) l1).symm
  have b2 := (Oct.ofWords2 (Oct.word t 0) (Oct.word t 1) (Oct.word s 2) (Oct.word s 3) s2).symm
  have b3 := (Oct.ofWords3 (Oct.word t 0) (Oct.word t 1) (Oct.word s 2) (Oct.word s 3) s3).symm
  have d0 := (Oct.ofWords0 (Oct.word t 0) (Oct.word t 1) (Oct.word t 2) (Oct.word s 3) l0).symm
  have d1 := (Oct.ofWords1 (Oct.word t 0) (Oct.word t 1) (Oct.word t 2) (Oct.word s 3) l1).symm
  have d2 := (Oct.ofWords2 (Oct.word t 0) (Oct.word t 1) (Oct.word t 2) (Oct.word s 3) l2).symm
  have d3 := (Oct.ofWords3 (Oct.word t 0) (Oct.word t 1) (Oct.word t 2) (Oct.word s 3) s3).symm
  obtain ⟨A, hA⟩ : ∃ A, A = Oct.ofWords (Oct.word t 0) (Oct.word s 1) (Oct.word s 2) (Oct.word s 3) := ⟨_, rfl⟩
  obtain ⟨D, hD⟩ : ∃ D, D = Oct.ofWords (Oct.word t 0) (Oct.word t 1) (Oct.word s 2) (Oct.word s 3) := ⟨_, rfl⟩
  obtain ⟨E, hE⟩ : ∃ E, E = Oct.ofWords (Oct.word t 0) (Oct.word t 1) (Oct.word t 2) (Oct.word s 3) := ⟨_, rfl⟩
  rw [← hA] at a0 a1 a2 a3
  rw [← hD] at b0 b1 b2 b3
  rw [← hE] at d0 d1 d2 d3
  have g1 := h.put hn k 0 s A hk (by decide) (.int .u64 (Oct.word t 0 : Nat)) (by simp [cells4, a0]) (fun i h4 hne => by
    have h3 : i = 1 ∨ i = 2 ∨ i = 3 := by omega
    rcases h3 with rfl | rfl | rfl <;> simp [cells4, a1, a2, a3])
  have e1 : (l.set k A)[k]? = some A := by rw [List.getElem?_set_self hkl]
  have g2 := g1.put (by rw [List.length_set]; exact hn) k 1 A D e1 (by decide) (.int .u64 (Oct.word t 1 : Nat)) (by simp [cells4, b1]) (fun i h4 hne => by
    have h3 : i = 0 ∨ i = 2 ∨ i = 3 := by omega
    rcases h3 with rfl | rfl | rfl <;> simp [cells4, a0, a2, a3, b0, b2, b3])
  rw [List.set_set] at g2
  have e2 : (l.set k D)[k]? = some D := by rw [List.getElem?_set_self hkl]
  have g3 := g2.put (by rw [List.length_set]; exact hn) k 2 D E e2 (by decide) (.int .u64 (Oct.word t 2 : Nat)) (by simp [cells4, d2]) (fun i h4 hne => by
    have h3 : i = 0 ∨ i = 1 ∨ i = 3 := by omega
    rcases h3 with rfl | rfl | rfl <;> simp [cells4, d0, d1, d3, b0, b1, b3])
  rw [List.set_set] at g3
  have e3 : (l.set k E)[k]? = some E := by rw [List.getElem?_set_self hkl]
  have g4 := g3.put (by rw [List.length_set]; exact hn) k 3 E t e3 (by decide) (.int .u64 (Oct.word t 3 : Nat)) (by simp [cells4]) (fun i h4 hne => by
    have h3 : i = 0 ∨ i = 1 ∨ i = 2 := by omega
    rcases h3 with rfl | rfl | rfl <;> simp [cells4, d0, d1, d2])
  rw [List.set_set] at g4
  exact g4
/-! ### bears -/
set_option maxRecDepth 20000 in
theorem bears_any (a : Option Addr) (n c x : Nat) (w : World) (hx : x < 18446744073709551616) (hn : n ≤ 1000) (hat : SetsAt w a (List.replicate n (mk4 x))) :
    Calls Try.prog 11 #[.slice a n c, .int .u64 (x : Nat)] w fun e w' => e = .returned (.bool true) ∧ w' = w := by
  have HA : Hid (SetsAt w a (List.replicate n (mk4 x))) := hat
  have eq := eq4_same
  clear hat
  go_enter Try.func11, Try.ntmps11
  go_wp2
  go_loop [8] (fun i => ∃ k : Nat, k ≤ n ∧ i = .int .i64 (k : Nat)) (fun i => n - (intOf i).toNat)
  case atStart => exact ⟨0, Nat.zero_le _, rfl⟩
  case round =>
    obtain ⟨k, hk, rfl⟩ := hrel
    by_cases hlt : k < n
    · have hlt' : (k : Int) < (n : Int) := by omega
      obtain ⟨g, off, rfl, c0, c1, c2, c3⟩ := setsAt_cell HA.out (Below.refl _ _) (k := k) (s := mk4 x) (by rw [List.getElem?_replicate, if_pos hlt])
      rw [mk4_0 hx] at c0
      rw [mk4_1 hx] at c1
      rw [mk4_2 hx] at c2
      rw [mk4_3 hx] at c3
      go_wp2
      go_round
      case rel => exact ⟨k + 1, by omega, by go_num⟩
      case measure => simp [intOf]; omega
    · have hge : ¬ (k : Int) < (n : Int) := by omega
      go_wp2
      go_ret
      exact ⟨rfl, rfl⟩
/-! ### edges -/
theorem flatE_set (l : List Eg) (k j : Nat) (s t : Eg) (hk : l[k]? = some s) (hj : j < 7) (x : Value) (hx : t.cells[j]? = some x) (ho : ∀ i, i < 7 → i ≠ j → s.cells[i]? = t.cells[i]?) : (flatE l).set (7 * k + j) x = flatE (l.set k t) := by
  have hkl := (List.getElem?_eq_some_iff.1 hk).1
  apply List.ext_getElem?
  intro m
  rw [List.getElem?_set]
  by_cases hm : m < 7 * l.length
  · have hq : (l.set k t)[m / 7]? = if m / 7 = k then some t else l[m / 7]? := by
      rw [List.getElem?_set]
      by_cases e : k = m / 7
      · subst e; simp [hkl]
      · have : ¬ m / 7 = k := fun h => e h.symm
        simp [e, this]
    obtain ⟨q, hq1⟩ : ∃ q, l[m / 7]? = some q := ⟨_, List.getElem?_eq_getElem (show m / 7 < l.length by omega)⟩
    by_cases e : m / 7 = k
    · have hq2 : (l.set k t)[m / 7]? = some t := by rw [hq, if_pos e]
      have h2 := flatE_at hq2 (m := m % 7) (by omega)
      rw [show 7 * (m / 7) + m % 7 = m by omega] at h2
      rw [h2]
      by_cases e2 : m % 7 = j
      · have : 7 * k + j = m := by omega
        rw [if_pos this, e2, hx]
        simp [flatE_length]
        omega
      · have : ¬ 7 * k + j = m := by omega
        rw [if_neg this]
        have h1 := flatE_at (es := l) (i := m / 7) (x := s) (by rw [e]; exact hk) (m := m % 7) (by omega)
        rw [show 7 * (m / 7) + m % 7 = m by omega] at h1
        rw [h1, ho _ (by omega) e2]
    · have : ¬ 7 * k + j = m := by omega
      rw [if_neg this]
      have hq2 : (l.set k t)[m / 7]? = some q := by rw [hq, if_neg e, hq1]
      have h1 := flatE_at hq1 (m := m % 7) (by omega)
      have h2 := flatE_at hq2 (m := m % 7) (by omega)
      rw [show 7 * (m / 7) + m % 7 = m by omega] at h1 h2
      rw [h1, h2]
  · have : ¬ 7 * k + j = m := by omega
    rw [if_neg this, List.getElem?_eq_none (by rw [flatE_length]; omega), List.getElem?_eq_none (by rw [flatE_length, List.length_set]; omega)]
theorem RowE.put {w : World} {B g n c : Nat} {l : List Eg} (h : RowE w B (.slice (some ⟨g, 0, none⟩) n c) l) (k j : Nat) (s t : Eg) (hk : l[k]? = some s) (hj : j < 7) (x : Value) (hx : t.cells[j]? = some x) (ho : ∀ i, i < 7 → i ≠ j → s.cells[i]? = t.cells[i]?) :
    RowE (w.setCell ⟨g, 7 * k + j, none⟩ x) B (.slice (some ⟨g, 0, none⟩) n c) (l.set k t) := by
  have hn := h.at.1
  subst hn
  have h1 := World.ownsRow.stored h (7 * k + j) x
  rw [flatE_set l k j s t hk hj x hx ho] at h1
  unfold RowE
  rw [List.length_set]
  exact h1.1
theorem RowE.frozen {w : World} {B g n c : Nat} {l : List Eg} (h : RowE w B (.slice (some ⟨g, 0, none⟩) n c) l) (j : Nat) : w.frozen? ⟨g, j, none⟩ = false := by
  rcases h.2 with ⟨hv, _⟩ | ⟨g', cap, cur, hv, hBg, hg, rest⟩
  · cases hv
  · cases hv
    simp [World.frozen?, hg]
/-- copies of edges that came in -/
theorem wpList_append_edgesN {w : World} {ops : Array Oper} {rest : List Oper} {o : Oper} {a : Act} {Q : Exit → Act → World → Prop} (hgd : o.guard = none) (s y : Operand)
    (ho : o.op = .call { callee := .builtin .append, args := #[s, y], argTypes := #[22, 22] }) (hs : a.eval s = .slice none 0 0)
    (B n : Nat) (p : Option Addr) (cap : Nat) (es : List Eg) (hn : n = es.length) (hy : a.eval y = .slice p n cap) (hE : EA w p es) (hl : n ≤ 1000) (hB : B ≤ w.heap.size)
    (h : ∀ v' w', RowE w' B v' es → w.grownBy w' none → wpList Try.prog ops Q rest (a.put o.dst v') w') : wpList Try.prog ops Q (o :: rest) a w := by
  subst hn
  refine wpList_plain hgd fun K hK => ?_
  obtain ⟨i0, hi, hz0, hz1, hz2⟩ := info_parts infoE
  have key : ∃ v' w', (Builtin.append_ #[22, 22] o.type #[.slice none 0 0, .slice p es.length cap]).run Try.prog w = .ok v' w' ∧ RowE w' B v' es ∧ w.grownBy w' none := by
    rcases hE with rfl | ⟨b, off, rfl, _, hc⟩
    · refine ⟨.slice none 0 0, w, ?_, rowE_nil _ _, ⟨rfl, rfl, rfl, Nat.le_refl _, fun _ _ _ => rfl⟩⟩
      cases p with
      | none => simp [Builtin.append_, run_underlying Try.underlying22, sizeOf, typeInfo, hi, Builtin.lenOf, Builtin.firstCells]
      | some ad => simp [Builtin.append_, run_underlying Try.underlying22, sizeOf, typeInfo, hi, Builtin.lenOf, Builtin.firstCells, loadCells, loadCellsFrom]
    · by_cases hz : es = []
      · subst hz
        refine ⟨.slice none 0 0, w, ?_, rowE_nil _ _, ⟨rfl, rfl, rfl, Nat.le_refl _, fun _ _ _ => rfl⟩⟩
        simp [Builtin.append_, run_underlying Try.underlying22, sizeOf, typeInfo, hi, Builtin.lenOf, Builtin.firstCells, loadCells, loadCellsFrom]
      · obtain ⟨v', w', hr, ho2, hg, _⟩ := run_append_own_wide (P := Try.prog) w B 22 o.type 33 i0 _ 7 56 Try.underlying22 hi hz0 hz1 hz2 rfl (by decide) (.slice none 0 0) 0 [] (World.ownsRow_nil w B 33 7)
          ⟨b, off, none⟩ es.length cap (flatE es) (by rw [flatE_length, Nat.mul_comm]) (fun j u hj => by
            rw [Go.WideShapes.add_plain]
            exact hc j u hj) (flatE_one es) (by simp only [maxLen]; omega) (by omega) hB
        refine ⟨v', w', hr, ?_, hg⟩
        unfold RowE
        simpa using ho2
  obtain ⟨v', w', hr, h2, h3⟩ := key
  unfold Oper.wp execOp
  simp only [ho, resolve, invoke, builtin, Sem.run_bind, Sem.run_pure, Result.andThen_ok, List.map_toArray, List.map_cons, List.map_nil, hs, hy, hr]
  exact hK _ _ (h v' w' h2 h3)
/-- one set more: where the row lies then -/
theorem wpList_append_one {w : World} {ops : Array Oper} {rest : List Oper} {o : Oper} {a : Act} {Q : Exit → Act → World → Prop} (hgd : o.guard = none) (s x : Operand)
    (ho : o.op = .call { callee := .builtin .append, args := #[s, x], argTypes := #[27, 27] })
    (B : Nat) (v : Value) (xs : List Oct.S) (hs : a.eval s = v) (hown : OwnsS w B v xs) (hB : B ≤ w.heap.size) (ad : Addr) (cap : Nat) (z : Oct.S) (hx : a.eval x = .slice (some ad) 1 cap) (hb : ∀ j u, (cells4 z)[j]? = some u → w.cell? (ad.add j) = some u)
    (hl : xs.length ≤ 1000)
    (h : ∀ g c' w', OwnsS w' B (.slice (some ⟨g, 0, none⟩) (xs.length + 1) c') (xs ++ [z]) → w.grownBy w' v.ownBlock → (v.ownBlock = some g ∨ g = w.heap.size) → wpList Try.prog ops Q rest (a.put o.dst (.slice (some ⟨g, 0, none⟩) (xs.length + 1) c')) w') : wpList Try.prog ops Q (o :: rest) a w := by
  refine wpList_plain hgd fun K hK => ?_
  obtain ⟨i0, hi, hz0, hz1, hz2⟩ := info_parts info31
  obtain ⟨g, c', w', hr, ho2, hg, hgg, hlt⟩ := run_append_lies (P := Try.prog) w 27 o.type B 31 i0 _ 4 32 Try.underlying27 hi hz0 hz1 hz2 rfl (by decide) v xs.length _ hown.1 ad 1 cap (cells4 z) rfl hb
    (cells4_one z) (by decide) (by simp only [maxLen]; omega) (by omega) hB w.heap.size rfl
  unfold Oper.wp execOp
  simp only [ho, resolve, invoke, builtin, Sem.run_bind, Sem.run_pure, Result.andThen_ok, List.map_toArray, List.map_cons, List.map_nil, hs, hx, hr]
  refine hK _ _ (h g c' w' ⟨?_, fun e => by simp at e, fun _ e => by cases e⟩ hg hgg)
  rw [flat_append, List.length_append]
  have e2 : flat [z] = cells4 z := by simp [flat]
  rw [e2]
  exact ho2
end Go.Proofs.Ytemmicnhnaafmaa

/- PartSets: the state. -/
namespace Go.Proofs.Ytemmicnhnaafmaa
open Go.RowKit

theorem OwnsS.ty {w : World} {B : Nat} {v : Value} {l : List Oct.S} (h : OwnsS w B v l) : ∀ b, v.ownBlock = some b → B ≤ b ∧ TyB w 31 b := by
  intro b hb
  rcases h.1.2 with ⟨rfl, _⟩ | ⟨g, cap, cur, rfl, hbg, hg, _⟩
  · simp [Value.ownBlock] at hb
  · simp [Value.ownBlock] at hb
    subst hb
    exact ⟨hbg, _, _, hg⟩
theorem OwnsS.keepV {w w' : World} {B : Nat} {v : Value} {l : List Oct.S} (h : OwnsS w B v l) (hk : ∀ b, v.ownBlock = some b → w'.heap[b]? = w.heap[b]?) : OwnsS w' B v l := by
  refine ⟨⟨h.1.1, ?_⟩, h.2⟩
  rcases h.1.2 with h2 | ⟨g, cap, cur, hv, hBg, hg, rest⟩
  · exact Or.inl h2
  · exact Or.inr ⟨g, cap, cur, hv, hBg, (hk g (by rw [hv]; rfl)).trans hg, rest⟩
theorem OwnsS.lower {w : World} {B B' : Nat} {v : Value} {l : List Oct.S} (h : OwnsS w B v l) (hb : B' ≤ B) : OwnsS w B' v l := by
  refine ⟨⟨h.1.1, ?_⟩, h.2⟩
  rcases h.1.2 with h2 | ⟨g, cap, cur, hv, hBg, rest⟩
  · exact Or.inl h2
  · exact Or.inr ⟨g, cap, cur, hv, by omega, rest⟩
theorem TyB.one {w : World} {t t' : TypeId} {b : Nat} (h : TyB w t b) (h' : TyB w t' b) : t = t' := by
  obtain ⟨c, z, e⟩ := h
  obtain ⟨c', z', e'⟩ := h'
  rw [e] at e'
  cases e'
  rfl
/-- no block is two rows' -/
def Sep (v v' : Value) : Prop := ∀ b, v.ownBlock = some b → v'.ownBlock ≠ some b
theorem Sep.symm {v v' : Value} (h : Sep v v') : Sep v' v := fun b h1 h2 => h b h2 h1
theorem sep_nil (v : Value) : Sep v (.slice none 0 0) := fun b _ h => by cases h
/-- what does not turn: the machine's block, the own machine's, the list of edges, three rows of sets beside the one that is written -/
structure Pq (w u : World) (B M O gE cE en : Nat) (S : Int) (ea ra : Option Addr) (ec rn rc : Nat) (el : List Eg) (vw va vb vc : Value) (Lw La Lb Lc : List Oct.S) : Prop where
  mach : MBk u M S ea en ec ra rn rc
  own : MBk u O S (some ⟨gE, 0, none⟩) en cE ra rn rc
  edges : RowE u B (.slice (some ⟨gE, 0, none⟩) (en + 1) cE) el
  rw_ : OwnsS u B vw Lw
  ra_ : OwnsS u B va La
  rb_ : OwnsS u B vb Lb
  rc_ : OwnsS u B vc Lc
  wa : Sep vw va
  wb : Sep vw vb
  wc : Sep vw vc
  ab : Sep va vb
  ac : Sep va vc
  bc : Sep vb vc
  low : Below B w u
  sz : B ≤ w.heap.size
section
variable {w u u' : World} {B M O gE cE en : Nat} {S : Int} {ea ra : Option Addr} {ec rn rc : Nat} {el : List Eg} {vw va vb vc : Value} {Lw La Lb Lc : List Oct.S}
theorem Pq.later (h : Pq w u B M O gE cE en S ea ra ec rn rc el vw va vb vc Lw La Lb Lc) (hb : Below u.heap.size u u') : Pq w u' B M O gE cE en S ea ra ec rn rc el vw va vb vc Lw La Lb Lc :=
  ⟨h.mach.later hb, h.own.later hb, h.edges.later hb, h.rw_.later hb, h.ra_.later hb, h.rb_.later hb, h.rc_.later hb, h.wa, h.wb, h.wc, h.ab, h.ac, h.bc, h.low.trans (hb.mono (Nat.le_trans h.sz h.low.size)), h.sz⟩
theorem Pq.swap (h : Pq w u B M O gE cE en S ea ra ec rn rc el vw va vb vc Lw La Lb Lc) : Pq w u B M O gE cE en S ea ra ec rn rc el vw vb va vc Lw Lb La Lc :=
  ⟨h.mach, h.own, h.edges, h.rw_, h.rb_, h.ra_, h.rc_, h.wb, h.wa, h.wc, h.ab.symm, h.bc, h.ac, h.low, h.sz⟩
theorem Pq.tyE (h : Pq w u B M O gE cE en S ea ra ec rn rc el vw va vb vc Lw La Lb Lc) : B ≤ gE ∧ TyB u 33 gE := h.edges.ty gE rfl
/-- row a turns, in its block or into a new one: all else stands -/
theorem Pq.turnA {va' : Value} {La' : List Oct.S} (h : Pq w u B M O gE cE en S ea ra ec rn rc el vw va vb vc Lw La Lb Lc) (hg : u.grownBy u' va.ownBlock) (ho : OwnsS u' B va' La') (hl : ∀ b, va'.ownBlock = some b → va.ownBlock = some b ∨ u.heap.size ≤ b) : Pq w u' B M O gE cE en S ea ra ec rn rc el vw va' vb vc Lw La' Lb Lc := by
  have hty := h.ra_.ty
  have ne : ∀ {b : Nat} {t : TypeId}, TyB u t b → t ≠ 31 → some b ≠ va.ownBlock := fun {b t} hb ht e => ht ((TyB.one hb (hty b e.symm).2))
  have lt : ∀ {v : Value} {l : List Oct.S}, OwnsS u B v l → ∀ b, v.ownBlock = some b → b < u.heap.size := fun hv b hb => by
    obtain ⟨c, z, e⟩ := (hv.ty b hb).2
    exact (Array.getElem?_eq_some_iff.1 e).1
  have sp : ∀ {v : Value} {l : List Oct.S}, OwnsS u B v l → Sep v va → Sep v va' := fun hv hs b hb e => by
    rcases hl b e with h1 | h1
    · exact hs b hb h1
    · have := lt hv b hb
      omega
  have kp : ∀ {v : Value} {l : List Oct.S}, OwnsS u B v l → Sep v va → OwnsS u' B v l := fun hv hs => hv.keepV (fun b hb => hg.block b (lt hv b hb) (fun e => hs b hb e.symm))
  refine ⟨h.mach.same (hg.block M h.mach.lt (ne ⟨_, _, h.mach⟩ (by decide))), h.own.same (hg.block O h.own.lt (ne ⟨_, _, h.own⟩ (by decide))), h.edges.keep (fun b _ hlt ht => hg.block b hlt (ne ht (by decide))), kp h.rw_ h.wa, ho, kp h.rb_ h.ab.symm, kp h.rc_ h.ac.symm, sp h.rw_ h.wa, h.wb, h.wc, (sp h.rb_ h.ab.symm).symm, (sp h.rc_ h.ac.symm).symm, h.bc, ?_, h.sz⟩
  exact h.low.grown hg (Nat.le_trans h.sz h.low.size) (fun b e => (hty b e).1)
/-- one of row a's sets written over -/
theorem Pq.overA {g n c k : Nat} {s : Oct.S} (h : Pq w u B M O gE cE en S ea ra ec rn rc el vw (.slice (some ⟨g, 0, none⟩) n c) vb vc Lw La Lb Lc) (hn : n = La.length) (hk : La[k]? = some s) (t : Oct.S) : Pq w (over4 u g k t) B M O gE cE en S ea ra ec rn rc el vw (.slice (some ⟨g, 0, none⟩) n c) vb vc Lw (La.set k t) Lb Lc :=
  h.turnA ⟨rfl, rfl, rfl, by simp [over4], fun b _ hb => heap_over4 u g k t b (fun e => hb (by rw [e]; rfl))⟩ (h.ra_.over hn hk t) (fun b hb => .inl hb)
/-- one of the edges turns -/
theorem Pq.edge {k j : Nat} {s t : Eg} {x : Value} (h : Pq w u B M O gE cE en S ea ra ec rn rc el vw va vb vc Lw La Lb Lc) (hk : el[k]? = some s) (hj : j < 7) (hx : t.cells[j]? = some x) (ho : ∀ i, i < 7 → i ≠ j → s.cells[i]? = t.cells[i]?) : Pq w (u.setCell ⟨gE, 7 * k + j, none⟩ x) B M O gE cE en S ea ra ec rn rc (el.set k t) vw va vb vc Lw La Lb Lc := by
  have htE := h.tyE
  have ne : ∀ {b : Nat} {t : TypeId}, TyB u t b → t ≠ 33 → b ≠ gE := fun {b t} hb ht e => ht (TyB.one hb (e ▸ htE.2))
  have kp : ∀ {v : Value} {l : List Oct.S}, OwnsS u B v l → OwnsS (u.setCell ⟨gE, 7 * k + j, none⟩ x) B v l := fun hv => hv.keepV (fun b hb => Below.heap_setCell u ⟨gE, 7 * k + j, none⟩ _ b (ne (hv.ty b hb).2 (by decide)))
  exact ⟨h.mach.same (Below.heap_setCell u ⟨gE, 7 * k + j, none⟩ _ M (ne ⟨_, _, h.mach⟩ (by decide))), h.own.same (Below.heap_setCell u ⟨gE, 7 * k + j, none⟩ _ O (ne ⟨_, _, h.own⟩ (by decide))), h.edges.put k j s t hk hj x hx ho, kp h.rw_, kp h.ra_, kp h.rb_, kp h.rc_, h.wa, h.wb, h.wc, h.ab, h.ac, h.bc, h.low.setCell htE.1 _, h.sz⟩
/-- a new row -/
theorem sep_new {v v' : Value} {l l' : List Oct.S} {B' : Nat} (hv : OwnsS u B v l) (hv' : OwnsS u' B' v' l') (hb : u.heap.size ≤ B') : Sep v v' := fun b h1 h2 => by
  obtain ⟨c, z, e⟩ := (hv.ty b h1).2
  have h3 := (Array.getElem?_eq_some_iff.1 e).1
  have h4 := (hv'.ty b h2).1
  omega
end
/-- the edges that the law writes over -/
def upE (e : Eg) : Eg := ⟨IntKind.i64.wrap (1 + bits .and .i64 (IntKind.i64.wrap (e.k + 1)) 3), e.f, e.t, Oct.ofWords (Oct.word e.s 0) (Oct.word e.s 1) (Oct.word e.s 2 ^^^ 255) (Oct.word e.s 3)⟩
end Go.Proofs.Ytemmicnhnaafmaa
