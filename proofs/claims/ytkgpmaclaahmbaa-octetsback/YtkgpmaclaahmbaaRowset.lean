/- Laws for rows of sets that a call itself makes: what append of sets leaves, from nil on too; a row's sets read and written word by word. -/
import Derived.Test.YtkgpmaclaahmbaaGen
import Derived.Deep.DeepAppendWide
import Derived.Deep.AppendSrc
import Derived.WideShapes
namespace Go.Proofs.Ytkgpmaclaahmbaa
open Go.RowKit

theorem info24 : (Try.prog.info? 24).map (fun i => (i.zero, i.size, i.bytes)) = some (some (.agg #[.int .u64 0, .int .u64 0, .int .u64 0, .int .u64 0]), 4, 32) := by kernel_rfl
theorem cells4_one (s : Oct.S) : ∀ u ∈ cells4 s, u.oneCell' = true := by
  intro u hu
  simp only [cells4, List.mem_cons, List.not_mem_nil, or_false] at hu
  rcases hu with rfl | rfl | rfl | rfl <;> rfl
theorem flat_one (l : List Oct.S) : ∀ u ∈ flat l, u.oneCell' = true := by
  intro u hu
  obtain ⟨s, _, hs⟩ := List.mem_flatMap.1 hu
  exact cells4_one s u hs
theorem flat_append (a b : List Oct.S) : flat (a ++ b) = flat a ++ flat b := by simp [flat]
theorem flat_get {l : List Oct.S} {j : Nat} {u : Value} (h : (flat l)[j]? = some u) : ∃ s, l[j / 4]? = some s ∧ (cells4 s)[j % 4]? = some u := by
  have hj : j < (flat l).length := (List.getElem?_eq_some_iff.1 h).1
  rw [flat_length] at hj
  obtain ⟨s, hs⟩ : ∃ s, l[j / 4]? = some s := ⟨_, List.getElem?_eq_getElem (show j / 4 < l.length by omega)⟩
  refine ⟨s, hs, ?_⟩
  have h2 := flat_at l (j / 4) (j % 4) s hs (by omega)
  rw [show j / 4 * 4 + j % 4 = j by omega] at h2
  rw [← h2]
  exact h
/-- what the cells of a list of sets hold, one by one -/
theorem setsAt_news {w : World} {b off : Nat} {l : List Oct.S} (h : ∀ k s, l[k]? = some s → w.cell? ⟨b, off + k * 4, none⟩ = some (.int .u64 (Oct.word s 0 : Nat)) ∧ w.cell? ⟨b, off + k * 4 + 1, none⟩ = some (.int .u64 (Oct.word s 1 : Nat)) ∧ w.cell? ⟨b, off + k * 4 + 2, none⟩ = some (.int .u64 (Oct.word s 2 : Nat)) ∧ w.cell? ⟨b, off + k * 4 + 3, none⟩ = some (.int .u64 (Oct.word s 3 : Nat))) (j : Nat) (u : Value) (hj : (flat l)[j]? = some u) : w.cell? ⟨b, off + j, none⟩ = some u := by
  obtain ⟨s, hs, hu⟩ := flat_get hj
  obtain ⟨h0, h1, h2, h3⟩ := h (j / 4) s hs
  have hm : j % 4 = 0 ∨ j % 4 = 1 ∨ j % 4 = 2 ∨ j % 4 = 3 := by omega
  rcases hm with e | e | e | e <;> rw [e] at hu <;> simp [cells4] at hu <;> subst hu
  · rw [← h0]; congr 2; omega
  · rw [← h1]; congr 2; omega
  · rw [← h2]; congr 2; omega
  · rw [← h3]; congr 2; omega

/-- A ROW OF SETS OF THE CALL's OWN, or nil while nothing has been gathered. -/
def OwnsS (w : World) (B : Nat) (v : Value) (l : List Oct.S) : Prop := w.ownsRow B 24 4 v l.length (flat l) ∧ (l = [] → v = .slice none 0 0) ∧ (l ≠ [] → v ≠ .slice none 0 0)
theorem ownsS_nil (w : World) (B : Nat) : OwnsS w B (.slice none 0 0) [] := ⟨World.ownsRow_nil w B 24 4, fun _ => rfl, fun h => absurd rfl h⟩
theorem OwnsS.later {w w' : World} {B : Nat} {v : Value} {l : List Oct.S} (h : OwnsS w B v l) (hb : Below w.heap.size w w') : OwnsS w' B v l := by
  refine ⟨⟨h.1.1, ?_⟩, h.2⟩
  rcases h.1.2 with h2 | ⟨g, cap, cur, hv, hBg, hg, rest⟩
  · exact Or.inl h2
  · exact Or.inr ⟨g, cap, cur, hv, hBg, by rw [hb.block g (Array.getElem?_eq_some_iff.1 hg).1]; exact hg, rest⟩
theorem OwnsS.block {w : World} {B : Nat} {v : Value} {l : List Oct.S} (h : OwnsS w B v l) : ∀ k, v.ownBlock = some k → B ≤ k := by
  intro k hk
  rcases h.1.2 with ⟨rfl, _⟩ | ⟨g, cap, cur, rfl, hBg, _⟩
  · simp [Value.ownBlock] at hk
  · simp [Value.ownBlock] at hk
    omega
theorem OwnsS.form {w : World} {B : Nat} {v : Value} {l : List Oct.S} (h : OwnsS w B v l) (hn : l ≠ []) : ∃ g c, v = .slice (some ⟨g, 0, none⟩) l.length c ∧ B ≤ g ∧ g < w.heap.size ∧ l.length ≤ c := by
  rcases h.1.2 with ⟨rfl, _⟩ | ⟨g, cap, cur, rfl, hBg, hg, hc, _⟩
  · exact absurd rfl (h.2.2 hn)
  · exact ⟨g, cap, rfl, hBg, (Array.getElem?_eq_some_iff.1 hg).1, hc⟩
/-- the four words of one of its sets -/
theorem OwnsS.cells {w : World} {B g n c : Nat} {l : List Oct.S} (h : OwnsS w B (.slice (some ⟨g, 0, none⟩) n c) l) (hn : n = l.length) {k : Nat} {s : Oct.S} (hk : l[k]? = some s) :
    w.cell? ⟨g, k * 4, none⟩ = some (.int .u64 (Oct.word s 0 : Nat)) ∧ w.cell? ⟨g, k * 4 + 1, none⟩ = some (.int .u64 (Oct.word s 1 : Nat)) ∧ w.cell? ⟨g, k * 4 + 2, none⟩ = some (.int .u64 (Oct.word s 2 : Nat)) ∧ w.cell? ⟨g, k * 4 + 3, none⟩ = some (.int .u64 (Oct.word s 3 : Nat)) := by
  subst hn
  have hkl := (List.getElem?_eq_some_iff.1 hk).1
  have c0 := h.1.cellAt (k * 4) (by omega)
  have c1 := h.1.cellAt (k * 4 + 1) (by omega)
  have c2 := h.1.cellAt (k * 4 + 2) (by omega)
  have c3 := h.1.cellAt (k * 4 + 3) (by omega)
  have e0 := flat_at l k 0 s hk (by decide)
  rw [Nat.add_zero] at e0
  rw [e0] at c0
  rw [flat_at l k 1 s hk (by decide)] at c1
  rw [flat_at l k 2 s hk (by decide)] at c2
  rw [flat_at l k 3 s hk (by decide)] at c3
  exact ⟨c0, c1, c2, c3⟩
theorem OwnsS.frozen {w : World} {B g n c : Nat} {l : List Oct.S} (h : OwnsS w B (.slice (some ⟨g, 0, none⟩) n c) l) (hn : n = l.length) (j : Nat) : w.frozen? ⟨g, j, none⟩ = false := by
  subst hn
  exact h.1.frozenAt j
theorem OwnsS.at {w : World} {B g n c m : Nat} {l : List Oct.S} (h : OwnsS w B (.slice (some ⟨g, 0, none⟩) n c) l) (hn : n = l.length) : SetsAt w (some ⟨g, 0, none⟩) (l.take m) := by
  refine Or.inr ⟨g, 0, rfl, fun k s hk => ?_⟩
  have hk' : l[k]? = some s := by
    obtain ⟨h1, h2⟩ := List.getElem?_eq_some_iff.1 hk
    rw [List.getElem_take] at h2
    rw [List.length_take] at h1
    exact List.getElem?_eq_some_iff.2 ⟨by omega, h2⟩
  simpa using h.cells hn hk'

theorem run_append_setsN (w : World) (ty : TypeId) (B : Nat) (v : Value) (xs : List Oct.S) (hown : OwnsS w B v xs) (a : Option Addr) (cap : Nat) (zs : List Oct.S) (hb : SetsAt w a zs)
    (hl : xs.length + zs.length ≤ 4398046510977) (hB : B ≤ w.heap.size) (hnil : zs = [] → xs = []) :
    ∃ v' w', (Builtin.append_ #[26, 26] ty #[v, .slice a zs.length cap]).run Try.prog w = .ok v' w' ∧ OwnsS w' B v' (xs ++ zs) ∧ w.grownBy w' v.ownBlock := by
  obtain ⟨i0, hi, hz0, hz1, hz2⟩ := info_parts info24
  have rf : w.grownBy w v.ownBlock := ⟨rfl, rfl, rfl, Nat.le_refl _, fun _ _ _ => rfl⟩
  by_cases hz : zs = []
  · have hx := hnil hz
    subst hz
    subst hx
    have hv := hown.2.1 rfl
    subst hv
    refine ⟨.slice none 0 0, w, ?_, hown, rf⟩
    cases a with
    | none => simp [Builtin.append_, run_underlying Try.underlying26, sizeOf, typeInfo, hi, Builtin.lenOf, Builtin.firstCells]
    | some ad => simp [Builtin.append_, run_underlying Try.underlying26, sizeOf, typeInfo, hi, Builtin.lenOf, Builtin.firstCells, loadCells, loadCellsFrom]
  · rcases hb with h0 | ⟨b, off, rfl, hc⟩
    · exact absurd h0 hz
    · obtain ⟨v', w', hr, ho, hg, hn⟩ := run_append_own_wide (P := Try.prog) w B 26 ty 24 i0 _ 4 32 Try.underlying26 hi hz0 hz1 hz2 rfl (by decide) v xs.length (flat xs) hown.1
        ⟨b, off, none⟩ zs.length cap (flat zs) (by rw [flat_length]; omega) (fun j u hj => by rw [Go.WideShapes.add_plain]; exact setsAt_news hc j u hj) (flat_one zs) (by simp only [maxLen]; omega) (by omega) hB
      refine ⟨v', w', hr, ⟨?_, fun h => absurd (List.append_eq_nil_iff.1 h).2 hz, fun _ e => ?_⟩, hg⟩
      · rw [flat_append, List.length_append]
        exact ho
      · exact hz (List.eq_nil_of_length_eq_zero (hn.1 e).2)
theorem wpList_append_setsN {w : World} {ops : Array Oper} {rest : List Oper} {o : Oper} {a : Act} {Q : Exit → Act → World → Prop} (hgd : o.guard = none) (s x : Operand)
    (ho : o.op = .call { callee := .builtin .append, args := #[s, x], argTypes := #[26, 26] })
    (w0 : World) (v : Value) (xs : List Oct.S) (hs : a.eval s = v) (hown : OwnsS w w0.heap.size v xs) (hbel : Below w0.heap.size w0 w) (p : Option Addr) (cap n : Nat) (zs : List Oct.S) (hn : n = zs.length) (hx : a.eval x = .slice p n cap) (hb : SetsAt w p zs)
    (hl : xs.length + zs.length ≤ 4398046510977) (hnil : zs = [] → xs = [])
    (h : ∀ v' w', OwnsS w' w0.heap.size v' (xs ++ zs) → Below w0.heap.size w0 w' → wpList Try.prog ops Q rest (a.put o.dst v') w') : wpList Try.prog ops Q (o :: rest) a w := by
  subst hn
  refine wpList_plain hgd fun K hK => ?_
  obtain ⟨v', w', hr, h2, h3⟩ := run_append_setsN w o.type w0.heap.size v xs hown p cap zs hb hl hbel.size hnil
  unfold Oper.wp execOp
  simp only [ho, resolve, invoke, builtin, Sem.run_bind, Sem.run_pure, Result.andThen_ok, List.map_toArray, List.map_cons, List.map_nil, hs, hx, hr]
  exact hK _ _ (h v' w' h2 (hbel.grown h3 hbel.size hown.block))

theorem flat_set (l : List Oct.S) (k j : Nat) (s t : Oct.S) (hk : l[k]? = some s) (hj : j < 4) (x : Value) (hx : (cells4 t)[j]? = some x) (ho : ∀ i, i < 4 → i ≠ j → (cells4 s)[i]? = (cells4 t)[i]?) : (flat l).set (k * 4 + j) x = flat (l.set k t) := by
  have hkl := (List.getElem?_eq_some_iff.1 hk).1
  apply List.ext_getElem?
  intro m
  rw [List.getElem?_set]
  by_cases hm : m < 4 * l.length
  · have hq : (l.set k t)[m / 4]? = if m / 4 = k then some t else l[m / 4]? := by
      rw [List.getElem?_set]
      by_cases e : k = m / 4
      · subst e; simp [hkl]
      · have : ¬ m / 4 = k := fun h => e h.symm
        simp [e, this]
    obtain ⟨q, hq1⟩ : ∃ q, l[m / 4]? = some q := ⟨_, List.getElem?_eq_getElem (show m / 4 < l.length by omega)⟩
    by_cases e : m / 4 = k
    · have hq2 : (l.set k t)[m / 4]? = some t := by rw [hq, if_pos e]
      have h2 := flat_at (l.set k t) (m / 4) (m % 4) t hq2 (by omega)
      rw [show m / 4 * 4 + m % 4 = m by omega] at h2
      rw [h2]
      by_cases e2 : m % 4 = j
      · have : k * 4 + j = m := by omega
        rw [if_pos this, e2, hx]
        simp [flat_length]
        omega
      · have : ¬ k * 4 + j = m := by omega
        rw [if_neg this]
        have h1 := flat_at l (m / 4) (m % 4) s (by rw [e]; exact hk) (by omega)
        rw [show m / 4 * 4 + m % 4 = m by omega] at h1
        rw [h1, ho _ (by omega) e2]
    · have : ¬ k * 4 + j = m := by omega
      rw [if_neg this]
      have hq2 : (l.set k t)[m / 4]? = some q := by rw [hq, if_neg e, hq1]
      have h1 := flat_at l (m / 4) (m % 4) q hq1 (by omega)
      have h2 := flat_at (l.set k t) (m / 4) (m % 4) q hq2 (by omega)
      rw [show m / 4 * 4 + m % 4 = m by omega] at h1 h2
      rw [h1, h2]
  · have : ¬ k * 4 + j = m := by omega
    rw [if_neg this, List.getElem?_eq_none (by rw [flat_length]; omega), List.getElem?_eq_none (by rw [flat_length, List.length_set]; omega)]
/-- a word of one of its sets written -/
theorem OwnsS.put {w : World} {B g n c : Nat} {l : List Oct.S} (h : OwnsS w B (.slice (some ⟨g, 0, none⟩) n c) l) (hn : n = l.length) (k j : Nat) (s t : Oct.S) (hk : l[k]? = some s) (hj : j < 4) (x : Value) (hx : (cells4 t)[j]? = some x) (ho : ∀ i, i < 4 → i ≠ j → (cells4 s)[i]? = (cells4 t)[i]?) :
    OwnsS (w.setCell ⟨g, k * 4 + j, none⟩ x) B (.slice (some ⟨g, 0, none⟩) n c) (l.set k t) := by
  subst hn
  have h1 := h.1.stored (k * 4 + j) x
  rw [flat_set l k j s t hk hj x hx ho] at h1
  have hkl := (List.getElem?_eq_some_iff.1 hk).1
  refine ⟨by rw [List.length_set]; exact h1.1, fun e => ?_, fun _ e => by simp at e⟩
  have e2 := congrArg List.length e
  rw [List.length_set, List.length_nil] at e2
  omega
end Go.Proofs.Ytkgpmaclaahmbaa
