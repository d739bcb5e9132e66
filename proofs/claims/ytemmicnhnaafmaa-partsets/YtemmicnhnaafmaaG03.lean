/- Laws for rows of sets that a call itself makes: what append of sets leaves, from nil on too; a row's sets read and written word by word. -/
import Derived.Test.YtemmicnhnaafmaaG02
import Derived.Deep.DeepAppendWide
import Derived.Deep.AppendSrc
import Derived.WideShapes
import Derived.Laws.BytesArg
import Derived.Deep.RegionHeld3
import Derived.Deep.DrawnRows
import Derived.Orders
namespace Go.Proofs.Ytemmicnhnaafmaa
open Go.RowKit

theorem info31 : (Try.prog.info? 31).map (fun i => (i.zero, i.size, i.bytes)) = some (some (.agg #[.int .u64 0, .int .u64 0, .int .u64 0, .int .u64 0]), 4, 32) := by kernel_rfl
theorem cells4_one (s : Oct.S) : ∀ u ∈ cells4 s, u.oneCell' = true := by
  intro u hu
  simp only [cells4, List.mem_cons, List.not_mem_nil, or_false] at hu
  rcases hu with rfl | rfl | rfl | rfl <;> rfl
theorem flat_one (l : List Oct.S) : ∀ u ∈ flat l, u.oneCell' = true := by
  intro u hu
  obtain ⟨s, _, hs⟩ := List.mem_flatMap.1 hu
  exact cells4_one s u hs
theorem flat_append (a b : List Oct.S) : flat (a ++ b) = flat a ++ flat b := by simp [flat]
theorem flat_get {l : List Oct.S} {j : Nat} {u : Value} (h : (flat l)[j]? = some u) : ∃ s, l[j / 4]? = some s ∧ (cells4 s)[j % 4]? = some u := by
  have hj : j < (flat l).length := (List.getElem?_eq_some_iff.1 h).1
  rw [flat_length] at hj
  obtain ⟨s, hs⟩ : ∃ s, l[j / 4]? = some s := ⟨_, List.getElem?_eq_getElem (show j / 4 < l.length by omega)⟩
  refine ⟨s, hs, ?_⟩
  have h2 := flat_at l (j / 4) (j % 4) s hs (by omega)
  rw [show j / 4 * 4 + j % 4 = j by omega] at h2
  rw [← h2]
  exact h
/-- what the cells of a list of sets hold, one by one -/
theorem setsAt_news {w : World} {b off : Nat} {l : List Oct.S} (h : ∀ k s, l[k]? = some s → w.cell? ⟨b, off + k * 4, none⟩ = some (.int .u64 (Oct.word s 0 : Nat)) ∧ w.cell? ⟨b, off + k * 4 + 1, none⟩ = some (.int .u64 (Oct.word s 1 : Nat)) ∧ w.cell? ⟨b, off + k * 4 + 2, none⟩ = some (.int .u64 (Oct.word s 2 : Nat)) ∧ w.cell? ⟨b, off + k * 4 + 3, none⟩ = some (.int .u64 (Oct.word s 3 : Nat))) (j : Nat) (u : Value) (hj : (flat l)[j]? = some u) : w.cell? ⟨b, off + j, none⟩ = some u := by
  obtain ⟨s, hs, hu⟩ := flat_get hj
  obtain ⟨h0, h1, h2, h3⟩ := h (j / 4) s hs
  have hm : j % 4 = 0 ∨ j % 4 = 1 ∨ j % 4 = 2 ∨ j % 4 = 3 := by omega
  rcases hm with e | e | e | e <;> rw [e] at hu <;> simp [cells4] at hu <;> subst hu
  · rw [← h0]; congr 2; omega
  · rw [← h1]; congr 2; omega
  · rw [← h2]; congr 2; omega
  · rw [← h3]; congr 2; omega

/-- A ROW OF SETS OF THE CALL's OWN, or nil while nothing has been gathered. -/
def OwnsS (w : World) (B : Nat) (v : Value) (l : List Oct.S) : Prop := w.ownsRow B 31 4 v l.length (flat l) ∧ (l = [] → v = .slice none 0 0) ∧ (l ≠ [] → v ≠ .slice none 0 0)
theorem ownsS_nil (w : World) (B : Nat) : OwnsS w B (.slice none 0 0) [] := ⟨World.ownsRow_nil w B 31 4, fun _ => rfl, fun h => absurd rfl h⟩
theorem OwnsS.later {w w' : World} {B : Nat} {v : Value} {l : List Oct.S} (h : OwnsS w B v l) (hb : Below w.heap.size w w') : OwnsS w' B v l := by
  refine ⟨⟨h.1.1, ?_⟩, h.2⟩
  rcases h.1.2 with h2 | ⟨g, cap, cur, hv, hBg, hg, rest⟩
  · exact Or.inl h2
  · exact Or.inr ⟨g, cap, cur, hv, hBg, by rw [hb.block g (Array.getElem?_eq_some_iff.1 hg).1]; exact hg, rest⟩
theorem OwnsS.block {w : World} {B : Nat} {v : Value} {l : List Oct.S} (h : OwnsS w B v l) : ∀ k, v.ownBlock = some k → B ≤ k := by
  intro k hk
  rcases h.1.2 with ⟨rfl, _⟩ | ⟨g, cap, cur, rfl, hBg, _⟩
  · simp [Value.ownBlock] at hk
  · simp [Value.ownBlock] at hk
    omega
theorem OwnsS.form {w : World} {B : Nat} {v : Value} {l : List Oct.S} (h : OwnsS w B v l) (hn : l ≠ []) : ∃ g c, v = .slice (some ⟨g, 0, none⟩) l.length c ∧ B ≤ g ∧ g < w.heap.size ∧ l.length ≤ c := by
  rcases h.1.2 with ⟨rfl, _⟩ | ⟨g, cap, cur, rfl, hBg, hg, hc, _⟩
  · exact absurd rfl (h.2.2 hn)
  · exact ⟨g, cap, rfl, hBg, (Array.getElem?_eq_some_iff.1 hg).1, hc⟩
/-- the four words of one of its sets -/
theorem OwnsS.cells {w : World} {B g n c : Nat} {l : List Oct.S} (h : OwnsS w B (.slice (some ⟨g, 0, none⟩) n c) l) (hn : n = l.length) {k : Nat} {s : Oct.S} (hk : l[k]? = some s) :
    w.cell? ⟨g, k * 4, none⟩ = some (.int .u64 (Oct.word s 0 : Nat)) ∧ w.cell? ⟨g, k * 4 + 1, none⟩ = some (.int .u64 (Oct.word s 1 : Nat)) ∧ w.cell? ⟨g, k * 4 + 2, none⟩ = some (.int .u64 (Oct.word s 2 : Nat)) ∧ w.cell? ⟨g, k * 4 + 3, none⟩ = some (.int .u64 (Oct.word s 3 : Nat)) := by
  subst hn
  have hkl := (List.getElem?_eq_some_iff.1 hk).1
  have c0 := h.1.cellAt (k * 4) (by omega)
  have c1 := h.1.cellAt (k * 4 + 1) (by omega)
  have c2 := h.1.cellAt (k * 4 + 2) (by omega)
  have c3 := h.1.cellAt (k * 4 + 3) (by omega)
  have e0 := flat_at l k 0 s hk (by decide)
  rw [Nat.add_zero] at e0
  rw [e0] at c0
  rw [flat_at l k 1 s hk (by decide)] at c1
  rw [flat_at l k 2 s hk (by decide)] at c2
  rw [flat_at l k 3 s hk (by decide)] at c3
  exact ⟨c0, c1, c2, c3⟩
theorem OwnsS.frozen {w : World} {B g n c : Nat} {l : List Oct.S} (h : OwnsS w B (.slice (some ⟨g, 0, none⟩) n c) l) (hn : n = l.length) (j : Nat) : w.frozen? ⟨g, j, none⟩ = false := by
  subst hn
  exact h.1.frozenAt j
theorem OwnsS.at {w : World} {B g n c m : Nat} {l : List Oct.S} (h : OwnsS w B (.slice (some ⟨g, 0, none⟩) n c) l) (hn : n = l.length) : SetsAt w (some ⟨g, 0, none⟩) (l.take m) := by
  refine Or.inr ⟨g, 0, rfl, fun k s hk => ?_⟩
  have hk' : l[k]? = some s := by
    obtain ⟨h1, h2⟩ := List.getElem?_eq_some_iff.1 hk
    rw [List.getElem_take] at h2
    rw [List.length_take] at h1
    exact List.getElem?_eq_some_iff.2 ⟨by omega, h2⟩
  simpa using h.cells hn hk'

theorem run_append_setsN (w : World) (ty : TypeId) (B : Nat) (v : Value) (xs : List Oct.S) (hown : OwnsS w B v xs) (a : Option Addr) (cap : Nat) (zs : List Oct.S) (hb : SetsAt w a zs)
    (hl : xs.length + zs.length ≤ 4398046510977) (hB : B ≤ w.heap.size) (hnil : zs = [] → xs = []) :
    ∃ v' w', (Builtin.append_ #[27, 27] ty #[v, .slice a zs.length cap]).run Try.prog w = .ok v' w' ∧ OwnsS w' B v' (xs ++ zs) ∧ w.grownBy w' v.ownBlock := by
  obtain ⟨i0, hi, hz0, hz1, hz2⟩ := info_parts info31
  have rf : w.grownBy w v.ownBlock := ⟨rfl, rfl, rfl, Nat.le_refl _, fun _ _ _ => rfl⟩
  by_cases hz : zs = []
  · have hx := hnil hz
    subst hz
    subst hx
    have hv := hown.2.1 rfl
    subst hv
    refine ⟨.slice none 0 0, w, ?_, hown, rf⟩
    cases a with
    | none => simp [Builtin.append_, run_underlying Try.underlying27, sizeOf, typeInfo, hi, Builtin.lenOf, Builtin.firstCells]
    | some ad => simp [Builtin.append_, run_underlying Try.underlying27, sizeOf, typeInfo, hi, Builtin.lenOf, Builtin.firstCells, loadCells, loadCellsFrom]
  · rcases hb with h0 | ⟨b, off, rfl, hc⟩
    · exact absurd h0 hz
    · obtain ⟨v', w', hr, ho, hg, hn⟩ := run_append_own_wide (P := Try.prog) w B 27 ty 31 i0 _ 4 32 Try.underlying27 hi hz0 hz1 hz2 rfl (by decide) v xs.length (flat xs) hown.1
        ⟨b, off, none⟩ zs.length cap (flat zs) (by rw [flat_length]; omega) (fun j u hj => by rw [Go.WideShapes.add_plain]; exact setsAt_news hc j u hj) (flat_one zs) (by simp only [maxLen]; omega) (by omega) hB
      refine ⟨v', w', hr, ⟨?_, fun h => absurd (List.append_eq_nil_iff.1 h).2 hz, fun _ e => ?_⟩, hg⟩
      · rw [flat_append, List.length_append]
        exact ho
      · exact hz (List.eq_nil_of_length_eq_zero (hn.1 e).2)
theorem wpList_append_setsN {w : World} {ops : Array Oper} {rest : List Oper} {o : Oper} {a : Act} {Q : Exit → Act → World → Prop} (hgd : o.guard = none) (s x : Operand)
    (ho : o.op = .call { callee := .builtin .append, args := #[s, x], argTypes := #[27, 27] })
    (w0 : World) (v : Value) (xs : List Oct.S) (hs : a.eval s = v) (hown : OwnsS w w0.heap.size v xs) (hbel : Below w0.heap.size w0 w) (p : Option Addr) (cap n : Nat) (zs : List Oct.S) (hn : n = zs.length) (hx : a.eval x = .slice p n cap) (hb : SetsAt w p zs)
    (hl : xs.length + zs.length ≤ 4398046510977) (hnil : zs = [] → xs = [])
    (h : ∀ v' w', OwnsS w' w0.heap.size v' (xs ++ zs) → Below w0.heap.size w0 w' → wpList Try.prog ops Q rest (a.put o.dst v') w') : wpList Try.prog ops Q (o :: rest) a w := by
  subst hn
  refine wpList_plain hgd fun K hK => ?_
  obtain ⟨v', w', hr, h2, h3⟩ := run_append_setsN w o.type w0.heap.size v xs hown p cap zs hb hl hbel.size hnil
  unfold Oper.wp execOp
  simp only [ho, resolve, invoke, builtin, Sem.run_bind, Sem.run_pure, Result.andThen_ok, List.map_toArray, List.map_cons, List.map_nil, hs, hx, hr]
  exact hK _ _ (h v' w' h2 (hbel.grown h3 hbel.size hown.block))

theorem flat_set (l : List Oct.S) (k j : Nat) (s t : Oct.S) (hk : l[k]? = some s) (hj : j < 4) (x : Value) (hx : (cells4 t)[j]? = some x) (ho : ∀ i, i < 4 → i ≠ j → (cells4 s)[i]? = (cells4 t)[i]?) : (flat l).set (k * 4 + j) x = flat (l.set k t) := by
  have hkl := (List.getElem?_eq_some_iff.1 hk).1
  apply List.ext_getElem?
  intro m
  rw [List.getElem?_set]
  by_cases hm : m < 4 * l.length
  · have hq : (l.set k t)[m / 4]? = if m / 4 = k then some t else l[m / 4]? := by
      rw [List.getElem?_set]
      by_cases e : k = m / 4
      · subst e; simp [hkl]
      · have : ¬ m / 4 = k := fun h => e h.symm
        simp [e, this]
    obtain ⟨q, hq1⟩ : ∃ q, l[m / 4]? = some q := ⟨_, List.getElem?_eq_getElem (show m / 4 < l.length by omega)⟩
    by_cases e : m / 4 = k
    · have hq2 : (l.set k t)[m / 4]? = some t := by rw [hq, if_pos e]
      have h2 := flat_at (l.set k t) (m / 4) (m % 4) t hq2 (by omega)
      rw [show m / 4 * 4 + m % 4 = m by omega] at h2
      rw [h2]
      by_cases e2 : m % 4 = j
      · have : k * 4 + j = m := by omega
        rw [if_pos this, e2, hx]
        simp [flat_length]
        omega
      · have : ¬ k * 4 + j = m := by omega
        rw [if_neg this]
        have h1 := flat_at l (m / 4) (m % 4) s (by rw [e]; exact hk) (by omega)
        rw [show m / 4 * 4 + m % 4 = m by omega] at h1
        rw [h1, ho _ (by omega) e2]
    · have : ¬ k * 4 + j = m := by omega
      rw [if_neg this]
      have hq2 : (l.set k t)[m / 4]? = some q := by rw [hq, if_neg e, hq1]
      have h1 := flat_at l (m / 4) (m % 4) q hq1 (by omega)
      have h2 := flat_at (l.set k t) (m / 4) (m % 4) q hq2 (by omega)
      rw [show m / 4 * 4 + m % 4 = m by omega] at h1 h2
      rw [h1, h2]
  · have : ¬ k * 4 + j = m := by omega
    rw [if_neg this, List.getElem?_eq_none (by rw [flat_length]; omega), List.getElem?_eq_none (by rw [flat_length, List.length_set]; omega)]
/-- a word of one of its sets written -/
theorem OwnsS.put {w : World} {B g n c : Nat} {l : List Oct.S} (h : OwnsS w B (.slice (some ⟨g, 0, none⟩) n c) l) (hn : n = l.length) (k j : Nat) (s t : Oct.S) (hk : l[k]? = some s) (hj : j < 4) (x : Value) (hx : (cells4 t)[j]? = some x) (ho : ∀ i, i < 4 → i ≠ j → (cells4 s)[i]? = (cells4 t)[i]?) :
    OwnsS (w.setCell ⟨g, k * 4 + j, none⟩ x) B (.slice (some ⟨g, 0, none⟩) n c) (l.set k t) := by
  subst hn
  have h1 := h.1.stored (k * 4 + j) x
  rw [flat_set l k j s t hk hj x hx ho] at h1
  have hkl := (List.getElem?_eq_some_iff.1 hk).1
  refine ⟨by rw [List.length_set]; exact h1.1, fun e => ?_, fun _ e => by simp at e⟩
  have e2 := congrArg List.length e
  rw [List.length_set, List.length_nil] at e2
  omega
end Go.Proofs.Ytemmicnhnaafmaa

/- Laws for rows of bytes that a call itself makes: what append of bytes leaves, from nil on too; a row's bytes read and written; bytes as a text. -/
namespace Go.Proofs.Ytemmicnhnaafmaa
open Go.RowKit

/-- BYTES READ FROM A SLICE: there are none, or they lie from the address on. -/
def BytesI (w : World) (a : Option Addr) (zs : List Int) : Prop :=
  zs = [] ∨ ∃ b off, a = some ⟨b, off, none⟩ ∧ ∀ k, k < zs.length → w.cell? ⟨b, off + k, none⟩ = some (.int .u8 (zs.getD k 0))
theorem info5 : (Try.prog.info? 5).map (fun i => (i.zero, i.size, i.bytes)) = some (some (.int .u8 0), 1, 1) := by kernel_rfl
/-- bytes as cells -/
def cellsOf (zs : List Int) : List Value := zs.map (fun z => Value.int .u8 z)
theorem cellsOf_length (zs : List Int) : (cellsOf zs).length = zs.length := by simp [cellsOf]
theorem cellsOf_append (xs zs : List Int) : cellsOf (xs ++ zs) = cellsOf xs ++ cellsOf zs := by simp [cellsOf]
theorem cellsOf_one (zs : List Int) : ∀ u ∈ cellsOf zs, u.oneCell' = true := by
  intro u hu
  obtain ⟨z, _, rfl⟩ := List.mem_map.1 hu
  rfl

/-- A ROW OF THE CALL's OWN (a slice that is not nil) HOLDS THESE BYTES. -/
def Owns (w : World) (B : Nat) (v : Value) (zs : List Int) : Prop := w.ownsRow B 5 1 v zs.length (cellsOf zs) ∧ v ≠ .slice none 0 0

theorem Owns.form {w : World} {B : Nat} {v : Value} {zs : List Int} (h : Owns w B v zs) :
    ∃ g cap, v = .slice (some ⟨g, 0, none⟩) zs.length cap ∧ B ≤ g ∧ g < w.heap.size ∧ BytesI w (some ⟨g, 0, none⟩) zs ∧ zs.length ≤ cap ∧ cap ≤ maxLen ∧ v.ownBlock = some g := by
  obtain ⟨h, hn⟩ := h
  rcases h.2 with ⟨rfl, _⟩ | ⟨g, cap, cur, rfl, hb, hg, hc, hm, hs, ht⟩
  · exact absurd rfl hn
  · refine ⟨g, cap, rfl, hb, (Array.getElem?_eq_some_iff.1 hg).1, Or.inr ⟨g, 0, rfl, fun k hk => ?_⟩, hc, hm, rfl⟩
    have := h.cellAt k (by omega)
    rw [Nat.zero_add, this]
    simp [cellsOf, hk]

theorem run_append_bytes (w : World) (ty : TypeId) (B : Nat) (v : Value) (xs : List Int) (hown : Owns w B v xs) (a : Option Addr) (cap : Nat) (zs : List Int) (hb : BytesI w a zs)
    (hl : xs.length + zs.length ≤ 140737488355328) (hB : B ≤ w.heap.size) :
    ∃ v' w', (Builtin.append_ #[59, 59] ty #[v, .slice a zs.length cap]).run Try.prog w = .ok v' w' ∧ Owns w' B v' (xs ++ zs) ∧ w.grownBy w' v.ownBlock := by
  obtain ⟨i0, hi, hz0, hz1, hz2⟩ := info_parts info5
  rcases hb with rfl | ⟨b, off, rfl, hc⟩
  · obtain ⟨g, c, rfl, _, _, _, hc, _, _⟩ := hown.form
    have hs : Src Try.prog i0.size 59 (.slice a 0 cap) 0 [] w := by
      cases a with
      | none => exact Src.ofNil w Try.underlying59 cap
      | some ad => exact Src.ofSlice w Try.underlying59 ad 0 cap [] (by simp) (fun j u hj => by simp at hj) (fun u hu => by cases hu)
    have hr := run_append_room_src (P := Try.prog) w 59 59 ty 5 i0 Try.underlying59 hi g 0 xs.length c (.slice a 0 cap) 0 [] hs (by omega) (fun j hj => by simp at hj) (fun j hj => by simp at hj)
    exact ⟨_, _, hr, by simpa [World.setCells] using hown, by simpa [World.setCells] using (⟨rfl, rfl, rfl, Nat.le_refl _, fun _ _ _ => rfl⟩ : w.grownBy w _)⟩
  · obtain ⟨v', w', hr, ho, hg, hn⟩ := run_append_own_wide (P := Try.prog) w B 59 ty 5 i0 (.int .u8 0) 1 1 Try.underlying59 hi hz0 hz1 hz2 rfl (by decide) v xs.length (cellsOf xs) hown.1
      ⟨b, off, none⟩ zs.length cap (cellsOf zs) (by simp [cellsOf]) (fun j u hj => by
        have hj' : j < zs.length := by
          have := (List.getElem?_eq_some_iff.1 hj).1
          simpa [cellsOf] using this
        have h := hc j hj'
        simp [cellsOf, hj'] at hj
        subst hj
        rw [Go.WideShapes.add_plain]
        simpa [hj'] using h) (cellsOf_one zs) (by simp only [maxLen]; omega) (by omega) hB
    refine ⟨v', w', hr, ⟨?_, fun e => hown.2 (hn.1 e).1⟩, hg⟩
    rw [cellsOf_append, List.length_append]
    exact ho

theorem bytesI_later {w w' : World} {a : Option Addr} {zs : List Int} (h : Below w.heap.size w w') (hT : BytesI w a zs) : BytesI w' a zs := by
  rcases hT with h0 | ⟨b, off, rfl, hc⟩
  · exact Or.inl h0
  · exact Or.inr ⟨b, off, rfl, fun k hk => by rw [h.cell (p := ⟨b, off + k, none⟩) (World.block_lt_of_cell? w _ (hc k hk))]; exact hc k hk⟩
/-- what is below the heap's size stays -/
theorem Owns.later {w w' : World} {B : Nat} {v : Value} {zs : List Int} (h : Owns w B v zs) (hb : Below w.heap.size w w') : Owns w' B v zs := by
  obtain ⟨h1, hn⟩ := h
  refine ⟨⟨h1.1, ?_⟩, hn⟩
  rcases h1.2 with h2 | ⟨g, cap, cur, hv, hBg, hg, rest⟩
  · exact Or.inl h2
  · exact Or.inr ⟨g, cap, cur, hv, hBg, by rw [hb.block g (Array.getElem?_eq_some_iff.1 hg).1]; exact hg, rest⟩
theorem Owns.lower {w : World} {B B' : Nat} {v : Value} {zs : List Int} (h : Owns w B v zs) (hb : B' ≤ B) : Owns w B' v zs := by
  obtain ⟨h1, hn⟩ := h
  refine ⟨⟨h1.1, ?_⟩, hn⟩
  rcases h1.2 with h2 | ⟨g, cap, cur, hv, hBg, hg, rest⟩
  · exact Or.inl h2
  · exact Or.inr ⟨g, cap, cur, hv, by omega, hg, rest⟩
/-- bytes as a text -/
theorem conv_string (w : World) (a : Option Addr) (n cap : Nat) (zs : List Int) (hn : n = zs.length) (hb : BytesI w a zs) : (convert 59 9 (.slice a n cap)).run Try.prog w = .ok (.string (strOfNums zs)) w := by
  subst hn
  rcases hb with rfl | ⟨b, off, rfl, hc⟩
  · cases a with
    | none => exact run_convert_bytes_nil w 59 5 Try.underlying59 Try.underlying5 0 cap 9 Try.underlying9
    | some ad =>
      rw [run_convert_bytes_string w 59 9 5 _ _ _ Try.underlying59 Try.underlying5 Try.underlying9]
      have hl : (loadCells ad 0).run Try.prog w = .ok (([] : List Int).map (Value.int .u8)).toArray w := run_loadCells_list (P := Try.prog) w ad [] (fun j v hj => by simp at hj)
      exact run_bytesToString w ad 0 cap [] hl
  · exact run_convert_bytes_arg w 59 5 Try.underlying59 Try.underlying5 b off zs.length cap zs rfl hc 9 Try.underlying9
/-- A row of the call's own, or nil while nothing has been gathered. -/
def OwnsN (w : World) (B : Nat) (v : Value) (zs : List Int) : Prop := w.ownsRow B 5 1 v zs.length (cellsOf zs) ∧ (zs = [] → v = .slice none 0 0) ∧ (zs ≠ [] → v ≠ .slice none 0 0)

theorem ownsN_nil (w : World) (B : Nat) : OwnsN w B (.slice none 0 0) [] := ⟨World.ownsRow_nil w B 5 1, fun _ => rfl, fun h => absurd rfl h⟩
theorem OwnsN.owns {w : World} {B : Nat} {v : Value} {zs : List Int} (h : OwnsN w B v zs) (hn : zs ≠ []) : Owns w B v zs := ⟨h.1, h.2.2 hn⟩
theorem OwnsN.later {w w' : World} {B : Nat} {v : Value} {zs : List Int} (h : OwnsN w B v zs) (hb : Below w.heap.size w w') : OwnsN w' B v zs := by
  by_cases hn : zs = []
  · subst hn
    rw [h.2.1 rfl]
    exact ownsN_nil _ _
  · exact ⟨((h.owns hn).later hb).1, h.2⟩
theorem OwnsN.block {w : World} {B : Nat} {v : Value} {zs : List Int} (h : OwnsN w B v zs) : ∀ k, v.ownBlock = some k → B ≤ k := by
  intro k hk
  by_cases hn : zs = []
  · rw [h.2.1 hn] at hk
    simp [Value.ownBlock] at hk
  · obtain ⟨g, c, rfl, hB, _, _, _, _, hg⟩ := (h.owns hn).form
    rw [hg] at hk
    cases hk
    exact hB
/-- what such a slice is to a reader -/
theorem OwnsN.form {w : World} {B : Nat} {v : Value} {zs : List Int} (h : OwnsN w B v zs) :
    ∃ a cap, v = .slice a zs.length cap ∧ BytesI w a zs ∧ zs.length ≤ cap ∧ cap ≤ maxLen ∧ (zs ≠ [] → ∃ g, a = some ⟨g, 0, none⟩) ∧ (zs = [] → a = none ∧ cap = 0) := by
  by_cases hn : zs = []
  · subst hn
    exact ⟨none, 0, h.2.1 rfl, Or.inl rfl, Nat.le_refl _, Nat.zero_le _, fun h => absurd rfl h, fun _ => ⟨rfl, rfl⟩⟩
  · obtain ⟨g, c, e, _, _, hb, hc, hm, _⟩ := (h.owns hn).form
    exact ⟨_, c, e, hb, hc, hm, fun _ => ⟨g, rfl⟩, fun h => absurd h hn⟩

theorem run_append_bytesN (w : World) (ty : TypeId) (B : Nat) (v : Value) (xs : List Int) (hown : OwnsN w B v xs) (a : Option Addr) (cap : Nat) (zs : List Int) (hb : BytesI w a zs)
    (hl : xs.length + zs.length ≤ 140737488355328) (hB : B ≤ w.heap.size) :
    ∃ v' w', (Builtin.append_ #[59, 59] ty #[v, .slice a zs.length cap]).run Try.prog w = .ok v' w' ∧ OwnsN w' B v' (xs ++ zs) ∧ w.grownBy w' v.ownBlock := by
  obtain ⟨i0, hi, hz0, hz1, hz2⟩ := info_parts info5
  have rf : w.grownBy w v.ownBlock := ⟨rfl, rfl, rfl, Nat.le_refl _, fun _ _ _ => rfl⟩
  by_cases hx : xs = []
  · subst hx
    have hv := hown.2.1 rfl
    subst hv
    rcases hb with rfl | ⟨b, off, rfl, hc⟩
    · refine ⟨.slice none 0 0, w, ?_, hown, rf⟩
      cases a with
      | none => simp [Builtin.append_, run_underlying Try.underlying59, sizeOf, typeInfo, hi, Builtin.lenOf, Builtin.firstCells]
      | some ad => simp [Builtin.append_, run_underlying Try.underlying59, sizeOf, typeInfo, hi, Builtin.lenOf, Builtin.firstCells, loadCells, loadCellsFrom]
    · by_cases hz : zs = []
      · subst hz
        refine ⟨.slice none 0 0, w, ?_, hown, rf⟩
        simp [Builtin.append_, run_underlying Try.underlying59, sizeOf, typeInfo, hi, Builtin.lenOf, Builtin.firstCells, loadCells, loadCellsFrom]
      · obtain ⟨v', w', hr, ho, hg, hn⟩ := run_append_own_wide (P := Try.prog) w B 59 ty 5 i0 (.int .u8 0) 1 1 Try.underlying59 hi hz0 hz1 hz2 rfl (by decide) (.slice none 0 0) 0 [] hown.1
          ⟨b, off, none⟩ zs.length cap (cellsOf zs) (by simp [cellsOf]) (fun j u hj => by
            have hj' : j < zs.length := by
              have := (List.getElem?_eq_some_iff.1 hj).1
              simpa [cellsOf] using this
            have h := hc j hj'
            simp [cellsOf, hj'] at hj
            subst hj
            rw [Go.WideShapes.add_plain]
            simpa [hj'] using h) (cellsOf_one zs) (by simp only [maxLen]; simp at hl; omega) (by simp at hl; omega) hB
        refine ⟨v', w', hr, ⟨?_, fun h => absurd h (by simpa using hz), fun _ e => ?_⟩, hg⟩
        · simpa using ho
        · have := (hn.1 e).2
          exact hz (List.eq_nil_of_length_eq_zero this)
  · obtain ⟨v', w', hr, ho, hg⟩ := run_append_bytes w ty B v xs (hown.owns hx) a cap zs hb hl hB
    exact ⟨v', w', hr, ⟨ho.1, fun h => absurd h (by simp [hx]), fun _ => ho.2⟩, hg⟩

theorem wpList_append_bytesN {w : World} {ops : Array Oper} {rest : List Oper} {o : Oper} {a : Act} {Q : Exit → Act → World → Prop} (hgd : o.guard = none) (s x : Operand)
    (ho : o.op = .call { callee := .builtin .append, args := #[s, x], argTypes := #[59, 59] })
    (w0 : World) (v : Value) (xs : List Int) (hs : a.eval s = v) (hown : OwnsN w w0.heap.size v xs) (hbel : Below w0.heap.size w0 w) (p : Option Addr) (cap n : Nat) (zs : List Int) (hn : n = zs.length) (hx : a.eval x = .slice p n cap) (hb : BytesI w p zs)
    (hl : xs.length + zs.length ≤ 140737488355328)
    (h : ∀ v' w', OwnsN w' w0.heap.size v' (xs ++ zs) → Below w0.heap.size w0 w' → wpList Try.prog ops Q rest (a.put o.dst v') w') : wpList Try.prog ops Q (o :: rest) a w := by
  subst hn
  refine wpList_plain hgd fun K hK => ?_
  obtain ⟨v', w', hr, h2, h3⟩ := run_append_bytesN w o.type w0.heap.size v xs hown p cap zs hb hl hbel.size
  unfold Oper.wp execOp
  simp only [ho, resolve, invoke, builtin, Sem.run_bind, Sem.run_pure, Result.andThen_ok, List.map_toArray, List.map_cons, List.map_nil, hs, hx, hr]
  exact hK _ _ (h v' w' h2 (hbel.grown h3 hbel.size hown.block))
/-- a byte of a row of the call's own -/
theorem Owns.cellAt {w : World} {B g n c : Nat} {ys : List Int} (h : Owns w B (.slice (some ⟨g, 0, none⟩) n c) ys) {j : Nat} (hj : j < ys.length) : w.cell? ⟨g, j, none⟩ = some (.int .u8 (ys.getD j 0)) ∧ w.frozen? ⟨g, j, none⟩ = false := by
  obtain ⟨g', c', e, _, _, hbt, _⟩ := h.form
  cases e
  refine ⟨?_, h.1.frozenAt j⟩
  rcases hbt with rfl | ⟨b, off, e, hc⟩
  · simp at hj
  · cases e
    have := hc j hj
    rw [Nat.zero_add] at this
    exact this
/-- a byte stored into it -/
theorem Owns.put {w : World} {B g n c : Nat} {ys : List Int} (h : Owns w B (.slice (some ⟨g, 0, none⟩) n c) ys) (j : Nat) (x : Int) :
    Owns (w.setCell ⟨g, j, none⟩ (.int .u8 x)) B (.slice (some ⟨g, 0, none⟩) n c) (ys.set j x) := by
  obtain ⟨g', c', e, hB, _, _, _⟩ := h.form
  cases e
  refine ⟨?_, by simp⟩
  have h1 := h.1.stored j (.int .u8 x)
  have e2 : cellsOf (ys.set j x) = (cellsOf ys).set j (.int .u8 x) := by simp [cellsOf, List.map_set]
  rw [e2, List.length_set]
  exact h1.1
/-- bytes as whole numbers -/
def ints (bs : List Nat) : List Int := bs.map (fun b : Nat => (b : Int))
theorem ints_length (bs : List Nat) : (ints bs).length = bs.length := by simp [ints]
theorem ints_at (bs : List Nat) (k : Nat) (hk : k < bs.length) : (ints bs).getD k 0 = (bs.getD k 0 : Nat) := by simp [ints, hk]
theorem bytesI_of {w : World} {a : Option Addr} {bs : List Nat} (h : BytesAt w a bs) : BytesI w a (ints bs) := by
  rcases h with rfl | ⟨b, off, rfl, hc⟩
  · exact Or.inl rfl
  · refine Or.inr ⟨b, off, rfl, fun k hk => ?_⟩
    rw [ints_length] at hk
    rw [ints_at bs k hk]
    exact hc k hk
theorem bytesAt_of {w : World} {a : Option Addr} {bs : List Nat} (h : BytesI w a (ints bs)) : BytesAt w a bs := by
  rcases h with h0 | ⟨b, off, rfl, hc⟩
  · exact Or.inl (by simpa [ints] using h0)
  · refine Or.inr ⟨b, off, rfl, fun k hk => ?_⟩
    rw [← ints_at bs k hk]
    exact hc k (by rw [ints_length]; exact hk)
theorem bytesI_take {w : World} {a : Option Addr} {zs : List Int} (n : Nat) (h : BytesI w a zs) : BytesI w a (zs.take n) := by
  rcases h with rfl | ⟨b, off, rfl, hc⟩
  · exact Or.inl (by simp)
  · refine Or.inr ⟨b, off, rfl, fun k hk => ?_⟩
    have hk1 : k < n := by simp at hk; omega
    have hk2 : k < zs.length := by simp at hk; omega
    rw [hc k hk2]
    simp [hk1, hk2]
end Go.Proofs.Ytemmicnhnaafmaa

/- Contracts of the document's Of and Join of layer 3: by walking their bodies. -/
namespace Go.Proofs.Ytemmicnhnaafmaa
open Go.RowKit
attribute [local go_sem ↓] Go.wp_at_zero Go.wp_at_succ

set_option maxRecDepth 4000 in
set_option maxHeartbeats 1000000 in
theorem rof_any (a : Option Addr) (n cap : Nat) (bs : List Nat) (w : World) (hn : n = bs.length) (hl : n ≤ maxLen) (hat : BytesAt w a bs) (hb : ∀ b ∈ bs, b < 256) :
    Calls Try.prog 26 #[.slice a n cap] w fun e w' => e = .returned (setV (Oct.has bs)) ∧ Below w.heap.size w w' := by
  unfold maxLen at hl
  have HN : Hid (n = bs.length) := hn
  have HAT : Hid (BytesAt w a bs) := hat
  have HBS : Hid (∀ b ∈ bs, b < 256) := hb
  clear hn hat hb
  have H0 := start2_hid w
  go_enter Try.func26, Try.ntmps26
  go_wp2
  go_loopw [4] (fun i u => ∃ k : Nat, k ≤ n ∧ i = .int .i64 k ∧ Hid (St w u w.heap.size (w.heap.size + 1) (Oct.has (bs.take k)))) (fun i _ => n - (intOf i).toNat)
  case atStart => exact ⟨0, Nat.zero_le _, rfl, H0.out.as (fun b _ => by simp [Oct.has, Oct.none])⟩
  case round =>
    clear H0
    obtain ⟨k, hk, rfl, hs⟩ := hrel
    obtain ⟨s, hS⟩ : ∃ s, s = Oct.has (bs.take k) := ⟨_, rfl⟩
    have HS : Hid (s = Oct.has (bs.take k)) := hS
    rw [← hS] at hs
    clear hS
    by_cases hlt : k < n
    · have hkl : k < bs.length := by rw [← HN.out]; exact hlt
      obtain ⟨g, o, rfl, h1⟩ := bytesAt_cell HAT.out hs.out.2.2 hkl
      have h2 : bs.getD k 0 < 256 := HBS.out _ (getD_mem hkl)
      obtain ⟨b, hbe⟩ : ∃ b, b = bs.getD k 0 := ⟨_, rfl⟩
      rw [← hbe] at h1 h2
      have HBE : Hid (b = bs.getD k 0) := hbe
      have HKL : Hid (k < bs.length) := hkl
      clear hbe hkl
      obtain ⟨⟨c0, c1, c2, c3⟩, ⟨f0, f1, f2, f3⟩, _, _⟩ := hs.out.facts
      have hk0 : (0 : Int) ≤ (k : Int) := by omega
      have hk1 : (k : Int) < (n : Int) := by omega
      go_wp2_with fail
      have hwb : IntKind.i64.wrap (b : Int) = b := by rw [IntKind.wrap_i64]; omega
      go_region_with (first | (go_at_call 27; refine (rwith_any s b _ h2).mono ?_; rintro e w3 ⟨rfl, hb3⟩; have HS3 : Hid (St w w3 w.heap.size (w.heap.size + 1) s) := (hs.out.later ((Below.refl _ _).drew)).later hb3; obtain ⟨⟨c0, c1, c2, c3⟩, ⟨f0, f1, f2, f3⟩, _, _⟩ := HS3.out.facts; clear hb3 hs; unfold setV))
      all_goals
        go_wp2
        go_roundw
        case rel => exact ⟨k + 1, by omega, by go_num, (HS3.out.put (by omega) (by omega) (Oct.ins s b)).as (fun c _ => by rw [HS.out, HBE.out]; exact Oct.has_take_succ bs k HKL.out c)⟩
        case measure => simp [intOf]; omega
    · obtain ⟨⟨c0, c1, c2, c3⟩, ⟨f0, f1, f2, f3⟩, ⟨d0, d1, d2, d3⟩, ⟨g0, g1, g2, g3⟩⟩ := hs.out.facts
      go_wp2
      exact hs.out.ret Try.f26 2 rfl rfl rfl (Nat.le_refl _) _ (fun c _ => by rw [HS.out, List.take_of_length_le (by rw [← HN.out]; omega)])

end Go.Proofs.Ytemmicnhnaafmaa

/- A region that draws its order: each operation shown once, in itself: what it leaves ('G i') stands behind all others; at the end all stand. -/
namespace Go.Proofs.Ytemmicnhnaafmaa
open Go

section
variable {P : Program} {ops : Array Oper} {md : Region.Mode} {Q : Exit → Act → World → Prop}

/-- how many have not come up -/
def left (ops : Array Oper) (listed : Array Bool) : Nat := ((List.range ops.size).filter fun i => !listed.getD i true).length
theorem left_zero {listed : Array Bool} (h : left ops listed = 0) : ∀ i, i < ops.size → listed.getD i true = true := by
  intro i hi
  have h1 := List.eq_nil_of_length_eq_zero h
  rw [List.filter_eq_nil_iff] at h1
  have h2 := h1 i (List.mem_range.2 hi)
  cases h3 : listed.getD i true with
  | true => rfl
  | false => exact absurd (by rw [h3]; rfl) h2
theorem left_set {listed : Array Bool} {i : Nat} (hi : i < ops.size) (h0 : listed.getD i true = false) (hsz : listed.size = ops.size) : left ops (listed.setIfInBounds i true) < left ops listed := by
  unfold left
  have hsub : ((List.range ops.size).filter fun k => !(listed.setIfInBounds i true).getD k true) = ((List.range ops.size).filter fun k => !listed.getD k true).filter fun k => !(k == i) := by
    rw [List.filter_filter]
    apply List.filter_congr
    intro k _
    by_cases e : i = k
    · subst e
      simp [hsz, hi]
    · rw [getD_set_ne true e]
      have : ¬ k = i := fun h => e h.symm
      simp [this]
  rw [hsub]
  refine List.length_filter_lt_length_iff_exists.2 ⟨i, List.mem_filter.2 ⟨List.mem_range.2 hi, by rw [h0]; rfl⟩, by simp⟩
/-- where nothing may come up, all have -/
theorem all_of_ready {listed : Array Bool} (hwf : ∀ i o e, ops[i]? = some o → e ∈ o.after → Region.binds md e = true → e.on < i) (hsz : listed.size = ops.size) (h : Region.ready md ops listed = []) : ∀ i, i < ops.size → listed.getD i true = true := by
  intro i
  induction i using Nat.strongRecOn with
  | ind i ih =>
    intro hi
    cases h3 : listed.getD i true with
    | true => rfl
    | false =>
      have hm : i ∈ Region.ready md ops listed := mem_ready.2 ⟨h3, ops[i], Array.getElem?_eq_getElem hi, fun e he hb => by
        have hlt := hwf i _ e (Array.getElem?_eq_getElem hi) he hb
        have h4 := ih e.on hlt (by omega)
        have hs : e.on < listed.size := by omega
        simp [hs] at h4 ⊢
        exact h4⟩
      rw [h] at hm
      cases hm
/-- **EACH OPERATION ONCE.** -/
theorem wpAny_each (Fr : Act → World → Prop) (G : Nat → Act → World → Prop)
    (hwf : ∀ i o e, ops[i]? = some o → e ∈ o.after → Region.binds md e = true → e.on < i)
    (hstep : ∀ i o, ops[i]? = some o → ∀ a w, Fr a w → (∀ e ∈ o.after, Region.binds md e = true → G e.on a w) → wpOp P ops Q i (fun a' w' => Fr a' w' ∧ G i a' w' ∧ ∀ j, j ≠ i → G j a w → G j a' w') a w)
    (hend : ∀ a w, Fr a w → (∀ i, i < ops.size → G i a w) → Q .normal a w) :
    ∀ (fuel : Nat) (listed : Array Bool) (a : Act) (w : World), listed.size = ops.size → left ops listed ≤ fuel → Fr a w → (∀ i, i < ops.size → listed.getD i true = true → G i a w) → wpAny P md ops Q fuel listed a w := by
  intro fuel
  induction fuel with
  | zero =>
    intro listed a w hsz hl hf hg
    have hall := left_zero (Nat.le_zero.1 hl)
    refine ⟨?_, hend a w hf (fun i hi => hg i hi (hall i hi))⟩
    apply List.eq_nil_iff_forall_not_mem.2
    intro i hi
    obtain ⟨h0, o, ho, _⟩ := mem_ready.1 hi
    have hlt := (Array.getElem?_eq_some_iff.1 ho).1
    rw [hall i hlt] at h0
    cases h0
  | succ fuel ih =>
    intro listed a w hsz hl hf hg
    refine ⟨fun h => hend a w hf (fun i hi => hg i hi (all_of_ready hwf hsz h i hi)), fun i hi => ?_⟩
    obtain ⟨h0, o, ho, hafter⟩ := mem_ready.1 hi
    have hlt := (Array.getElem?_eq_some_iff.1 ho).1
    refine wpOp_mono (fun a' w' h => ?_) (hstep i o ho a w hf (fun e he hb => ?_))
    · obtain ⟨h1, h2, h3⟩ := h
      refine ih _ a' w' (by simpa using hsz) (by have := left_set hlt h0 hsz; omega) h1 (fun j hj hlj => ?_)
      by_cases e : j = i
      · subst e; exact h2
      · rw [getD_set_ne true (Ne.symm e)] at hlj
        exact h3 j e (hg j hj hlj)
    · have h4 := hafter e he hb
      have h5 := hwf i o e ho he hb
      refine hg e.on (by omega) ?_
      have hs : e.on < listed.size := by omega
      simp [hs] at h4 ⊢
      exact h4
theorem wp_region_each {id : Nat} {a : Act} {w : World} (hm : P.follows .mixedOrders = true) (Fr : Act → World → Prop) (G : Nat → Act → World → Prop)
    (hwf : ∀ i o e, ops[i]? = some o → e ∈ o.after → Region.binds .any e = true → e.on < i)
    (hstep : ∀ i o, ops[i]? = some o → ∀ a w, Fr a w → (∀ e ∈ o.after, Region.binds .any e = true → G e.on a w) → wpOp P ops Q i (fun a' w' => Fr a' w' ∧ G i a' w' ∧ ∀ j, j ≠ i → G j a w → G j a' w') a w)
    (hend : ∀ a w, Fr a w → (∀ i, i < ops.size → G i a w) → Q .normal a w)
    (h0 : Fr a w.drew) : (Code.region id ops true).wp P Q a w := by
  refine wp_region_any hm (wpAny_each Fr G hwf hstep hend ops.size _ a _ (by simp) ?_ h0 (fun i hi h => ?_))
  · unfold left
    have := List.length_filter_le (fun i => !(Array.replicate ops.size false).getD i true) (List.range ops.size)
    simpa using this
  · simp [hi] at h
end
end Go.Proofs.Ytemmicnhnaafmaa

/- A drawn region whose operations write slots one behind the other: each operation shown once, by a relation of its answer to the world that stands in all later worlds. -/
namespace Go.Proofs.Ytemmicnhnaafmaa
open Go Go.RowKit

section
variable {P : Program} {ops : Array Oper} {Q : Exit → Act → World → Prop}

theorem put_same {a : Act} {d : Nat} {v : Value} (h : d < a.tmps.size) : (a.put (some d) v).tmps[d]?.getD undef = v := by simp [Act.put, h]
theorem put_other {a : Act} {d e : Nat} {v : Value} (h : d ≠ e) : (a.put (some d) v).tmps[e]?.getD undef = a.tmps[e]?.getD undef := by simp [Act.put, Array.getElem?_setIfInBounds_ne h]
theorem below_step {w0 w w' : World} (h : Below w0.heap.size w0 w) (hb : Below w.heap.size w w') : Below w0.heap.size w0 w' := below_trans h hb h.size

/-- what an operation is to leave -/
def Leaves (R : Value → World → Prop) (o : Oper) (a : Act) (w : World) : Act → World → Prop := fun a' w' => ∃ v, a' = a.put o.dst v ∧ Below w.heap.size w w' ∧ R v w'
theorem wp_region_seq {id : Nat} {a : Act} {w0 : World} (hm : P.follows .mixedOrders = true) (base : Nat) (R : Nat → Value → World → Prop) (F0 : Act → Prop)
    (hup : ∀ i v w w', R i v w → Below w.heap.size w w' → R i v w')
    (hF0 : ∀ a i v, i < ops.size → F0 a → F0 (a.put (some (base + i)) v)) (hsz : ∀ a, F0 a → base + ops.size ≤ a.tmps.size)
    (hdst : ∀ i o, ops[i]? = some o → o.dst = some (base + i))
    (hwf : ∀ i o e, ops[i]? = some o → e ∈ o.after → Region.binds .any e = true → e.on < i)
    (hstep : ∀ i o, ops[i]? = some o → ∀ a w, F0 a → Below w0.heap.size w0 w → (∀ e ∈ o.after, Region.binds .any e = true → R e.on (a.tmps[base + e.on]?.getD undef) w) →
      (Region.wanted o (yielded ops a.tmps) = true → o.wp P a w (Leaves (R i) o a w) Q) ∧ (Region.wanted o (yielded ops a.tmps) = false → R i undef w))
    (hend : ∀ a w, F0 a → Below w0.heap.size w0 w → (∀ i, i < ops.size → R i (a.tmps[base + i]?.getD undef) w) → Q .normal a w)
    (h0 : F0 a) : (Code.region id ops true).wp P Q a w0 := by
  refine wp_region_each hm (fun a w => F0 a ∧ Below w0.heap.size w0 w) (fun i a w => R i (a.tmps[base + i]?.getD undef) w) hwf (fun i o ho a w hf hg => ?_) (fun a w hf hg => hend a w hf.1 hf.2 hg) ⟨h0, (Below.refl _ _).drew⟩
  obtain ⟨hw, hn⟩ := hstep i o ho a w hf.1 hf.2 hg
  have hi := (Array.getElem?_eq_some_iff.1 ho).1
  have hd := hdst i o ho
  have hs := hsz a hf.1
  unfold wpOp
  simp only [ho]
  split
  · rename_i hwt
    refine .inl (Oper.wp_mono (fun a' w' h => ?_) (hw hwt))
    obtain ⟨v, rfl, hb, hr⟩ := h
    rw [hd]
    refine ⟨⟨hF0 a i v hi hf.1, below_step hf.2 hb⟩, ?_, fun j hj hgj => ?_⟩
    · show R i _ _
      rw [put_same (by omega)]
      exact hr
    · show R j _ _
      rw [put_other (by omega)]
      exact hup j _ _ _ hgj hb
  · rename_i hwt
    rw [hd]
    refine ⟨⟨hF0 a i undef hi hf.1, hf.2⟩, ?_, fun j hj hgj => ?_⟩
    · show R i _ _
      rw [put_same (by omega)]
      exact hn (by simpa using hwt)
    · show R j _ _
      rw [put_other (by omega)]
      exact hgj
/-- an operation that yields a value -/
theorem ob_value {o : Oper} {a : Act} {w w' : World} {R : Value → World → Prop} {v : Value} (h : (execOp a.eval o).run P w = .ok (.value v) w') (hb : Below w.heap.size w w') (hR : R v w') : o.wp P a w (Leaves R o a w) Q := by
  unfold Oper.wp
  rw [h]
  exact ⟨v, rfl, hb, hR⟩
/-- a call by its contract -/
theorem ob_enter {o : Oper} {a : Act} {w : World} {R : Value → World → Prop} {f : FuncId} {args : Array Value} (h : (execOp a.eval o).run P w = .ok (.enter f args) w) (hc : Calls P f args w fun e w' => ∃ v, e = .returned v ∧ Below w.heap.size w w' ∧ R v w') : o.wp P a w (Leaves R o a w) Q := by
  unfold Oper.wp
  rw [h]
  refine hc.mono ?_
  rintro e w' ⟨v, rfl, hb, hR⟩
  exact ⟨v, rfl, hb, hR⟩
end
end Go.Proofs.Ytemmicnhnaafmaa
