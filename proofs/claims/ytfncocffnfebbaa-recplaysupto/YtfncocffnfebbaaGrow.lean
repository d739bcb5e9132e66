/- Bytes gathered by append from nil on: the row of the call's own, nil as long as it is empty. -/
import Derived.Test.YtfncocffnfebbaaOwn
namespace Go.Proofs.Ytfncocffnfebbaa
open Go.RowKit

/-- A row of the call's own, or nil while nothing has been gathered. -/
def OwnsN (w : World) (B : Nat) (v : Value) (zs : List Int) : Prop := w.ownsRow B 5 1 v zs.length (cellsOf zs) ∧ (zs = [] → v = .slice none 0 0) ∧ (zs ≠ [] → v ≠ .slice none 0 0)

theorem ownsN_nil (w : World) (B : Nat) : OwnsN w B (.slice none 0 0) [] := ⟨World.ownsRow_nil w B 5 1, fun _ => rfl, fun h => absurd rfl h⟩
theorem OwnsN.owns {w : World} {B : Nat} {v : Value} {zs : List Int} (h : OwnsN w B v zs) (hn : zs ≠ []) : Owns w B v zs := ⟨h.1, h.2.2 hn⟩
theorem OwnsN.later {w w' : World} {B : Nat} {v : Value} {zs : List Int} (h : OwnsN w B v zs) (hb : Below w.heap.size w w') : OwnsN w' B v zs := by
  by_cases hn : zs = []
  · subst hn
    rw [h.2.1 rfl]
    exact ownsN_nil _ _
  · exact ⟨((h.owns hn).later hb).1, h.2⟩
theorem OwnsN.block {w : World} {B : Nat} {v : Value} {zs : List Int} (h : OwnsN w B v zs) : ∀ k, v.ownBlock = some k → B ≤ k := by
  intro k hk
  by_cases hn : zs = []
  · rw [h.2.1 hn] at hk
    simp [Value.ownBlock] at hk
  · obtain ⟨g, c, rfl, hB, _, _, _, _, hg⟩ := (h.owns hn).form
    rw [hg] at hk
    cases hk
    exact hB
/-- what such a slice is to a reader -/
theorem OwnsN.form {w : World} {B : Nat} {v : Value} {zs : List Int} (h : OwnsN w B v zs) :
    ∃ a cap, v = .slice a zs.length cap ∧ BytesAt w a zs ∧ zs.length ≤ cap ∧ cap ≤ maxLen ∧ (zs ≠ [] → ∃ g, a = some ⟨g, 0, none⟩) ∧ (zs = [] → a = none ∧ cap = 0) := by
  by_cases hn : zs = []
  · subst hn
    exact ⟨none, 0, h.2.1 rfl, Or.inl rfl, Nat.le_refl _, Nat.zero_le _, fun h => absurd rfl h, fun _ => ⟨rfl, rfl⟩⟩
  · obtain ⟨g, c, e, _, _, hb, hc, hm, _⟩ := (h.owns hn).form
    exact ⟨_, c, e, hb, hc, hm, fun _ => ⟨g, rfl⟩, fun h => absurd h hn⟩

theorem run_append_bytesN (w : World) (ty : TypeId) (B : Nat) (v : Value) (xs : List Int) (hown : OwnsN w B v xs) (a : Option Addr) (cap : Nat) (zs : List Int) (hb : BytesAt w a zs)
    (hl : xs.length + zs.length ≤ 140737488355328) (hB : B ≤ w.heap.size) :
    ∃ v' w', (Builtin.append_ #[26, 26] ty #[v, .slice a zs.length cap]).run Try.prog w = .ok v' w' ∧ OwnsN w' B v' (xs ++ zs) ∧ w.grownBy w' v.ownBlock := by
  obtain ⟨i0, hi, hz0, hz1, hz2⟩ := info_parts info5
  have rf : w.grownBy w v.ownBlock := ⟨rfl, rfl, rfl, Nat.le_refl _, fun _ _ _ => rfl⟩
  by_cases hx : xs = []
  · subst hx
    have hv := hown.2.1 rfl
    subst hv
    rcases hb with rfl | ⟨b, off, rfl, hc⟩
    · refine ⟨.slice none 0 0, w, ?_, hown, rf⟩
      cases a with
      | none => simp [Builtin.append_, run_underlying Try.underlying26, sizeOf, typeInfo, hi, Builtin.lenOf, Builtin.firstCells]
      | some ad => simp [Builtin.append_, run_underlying Try.underlying26, sizeOf, typeInfo, hi, Builtin.lenOf, Builtin.firstCells, loadCells, loadCellsFrom]
    · by_cases hz : zs = []
      · subst hz
        refine ⟨.slice none 0 0, w, ?_, hown, rf⟩
        simp [Builtin.append_, run_underlying Try.underlying26, sizeOf, typeInfo, hi, Builtin.lenOf, Builtin.firstCells, loadCells, loadCellsFrom]
      · obtain ⟨v', w', hr, ho, hg, hn⟩ := run_append_own_wide (P := Try.prog) w B 26 ty 5 i0 (.int .u8 0) 1 1 Try.underlying26 hi hz0 hz1 hz2 rfl (by decide) (.slice none 0 0) 0 [] hown.1
          ⟨b, off, none⟩ zs.length cap (cellsOf zs) (by simp [cellsOf]) (fun j u hj => by
            have hj' : j < zs.length := by
              have := (List.getElem?_eq_some_iff.1 hj).1
              simpa [cellsOf] using this
            have h := hc j hj'
            simp [cellsOf, hj'] at hj
            subst hj
            rw [Go.WideShapes.add_plain]
            simpa [hj'] using h) (cellsOf_one zs) (by simp only [maxLen]; simp at hl; omega) (by simp at hl; omega) hB
        refine ⟨v', w', hr, ⟨?_, fun h => absurd h (by simpa using hz), fun _ e => ?_⟩, hg⟩
        · simpa using ho
        · have := (hn.1 e).2
          exact hz (List.eq_nil_of_length_eq_zero this)
  · obtain ⟨v', w', hr, ho, hg⟩ := run_append_bytes w ty B v xs (hown.owns hx) a cap zs hb hl hB
    exact ⟨v', w', hr, ⟨ho.1, fun h => absurd h (by simp [hx]), fun _ => ho.2⟩, hg⟩

theorem wpList_append_bytesN {w : World} {ops : Array Oper} {rest : List Oper} {o : Oper} {a : Act} {Q : Exit → Act → World → Prop} (hgd : o.guard = none) (s x : Operand)
    (ho : o.op = .call { callee := .builtin .append, args := #[s, x], argTypes := #[26, 26] })
    (w0 : World) (v : Value) (xs : List Int) (hs : a.eval s = v) (hown : OwnsN w w0.heap.size v xs) (hbel : Below w0.heap.size w0 w) (p : Option Addr) (cap n : Nat) (zs : List Int) (hn : n = zs.length) (hx : a.eval x = .slice p n cap) (hb : BytesAt w p zs)
    (hl : xs.length + zs.length ≤ 140737488355328)
    (h : ∀ v' w', OwnsN w' w0.heap.size v' (xs ++ zs) → Below w0.heap.size w0 w' → wpList Try.prog ops Q rest (a.put o.dst v') w') : wpList Try.prog ops Q (o :: rest) a w := by
  subst hn
  refine wpList_plain hgd fun K hK => ?_
  obtain ⟨v', w', hr, h2, h3⟩ := run_append_bytesN w o.type w0.heap.size v xs hown p cap zs hb hl hbel.size
  unfold Oper.wp execOp
  simp only [ho, resolve, invoke, builtin, Sem.run_bind, Sem.run_pure, Result.andThen_ok, List.map_toArray, List.map_cons, List.map_nil, hs, hx, hr]
  exact hK _ _ (h v' w' h2 (hbel.grown h3 hbel.size hown.block))
end Go.Proofs.Ytfncocffnfebbaa
