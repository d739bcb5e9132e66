/- Laws for rows of pairs of numbers that a call itself makes ([][2]int): what append of one pair leaves, from nil on too; a pair read and its second number written. -/
import Derived.Test.YtkgpmaclaahmbaaMem
import Derived.Deep.DeepAppendWide
import Derived.Deep.AppendSrc
import Derived.WideShapes
namespace Go.Proofs.Ytkgpmaclaahmbaa
open Go.RowKit

theorem info41 : (Try.prog.info? 41).map (fun i => (i.zero, i.size, i.bytes)) = some (some (.agg #[.int .i64 0, .int .i64 0]), 2, 16) := by kernel_rfl
/-- a pair's cells -/
def cells2 (x : Nat × Nat) : List Value := [.int .i64 (x.1 : Nat), .int .i64 (x.2 : Nat)]
def flat2 (l : List (Nat × Nat)) : List Value := l.flatMap cells2
theorem flat2_length (l : List (Nat × Nat)) : (flat2 l).length = 2 * l.length := by
  induction l with
  | nil => rfl
  | cons s r ih => simp only [flat2, List.flatMap_cons, List.length_append, List.length_cons] at ih ⊢; rw [ih]; simp [cells2]; omega
theorem flat2_at (l : List (Nat × Nat)) (k j : Nat) (s : Nat × Nat) (hk : l[k]? = some s) (hj : j < 2) : (flat2 l)[k * 2 + j]? = (cells2 s)[j]? := by
  induction l generalizing k with
  | nil => simp at hk
  | cons x r ih =>
    simp only [flat2, List.flatMap_cons] at ih ⊢
    cases k with
    | zero =>
      simp at hk
      subst hk
      rw [List.getElem?_append_left (by simp [cells2]; omega)]
      simp
    | succ k =>
      simp at hk
      rw [List.getElem?_append_right (by simp [cells2]; omega), ← ih k hk]
      congr 1
      simp [cells2]
      omega
theorem flat2_one (l : List (Nat × Nat)) : ∀ u ∈ flat2 l, u.oneCell' = true := by
  intro u hu
  obtain ⟨s, _, hs⟩ := List.mem_flatMap.1 hu
  simp only [cells2, List.mem_cons, List.not_mem_nil, or_false] at hs
  rcases hs with rfl | rfl <;> rfl
theorem flat2_append (a b : List (Nat × Nat)) : flat2 (a ++ b) = flat2 a ++ flat2 b := by simp [flat2]
/-- A ROW OF PAIRS OF THE CALL's OWN, or nil while nothing has been gathered. -/
def OwnsP (w : World) (B : Nat) (v : Value) (l : List (Nat × Nat)) : Prop := w.ownsRow B 41 2 v l.length (flat2 l) ∧ (l = [] → v = .slice none 0 0) ∧ (l ≠ [] → v ≠ .slice none 0 0)
theorem ownsP_nil (w : World) (B : Nat) : OwnsP w B (.slice none 0 0) [] := ⟨World.ownsRow_nil w B 41 2, fun _ => rfl, fun h => absurd rfl h⟩
theorem OwnsP.later {w w' : World} {B : Nat} {v : Value} {l : List (Nat × Nat)} (h : OwnsP w B v l) (hb : Below w.heap.size w w') : OwnsP w' B v l := by
  refine ⟨⟨h.1.1, ?_⟩, h.2⟩
  rcases h.1.2 with h2 | ⟨g, cap, cur, hv, hBg, hg, rest⟩
  · exact Or.inl h2
  · exact Or.inr ⟨g, cap, cur, hv, hBg, by rw [hb.block g (Array.getElem?_eq_some_iff.1 hg).1]; exact hg, rest⟩
theorem OwnsP.block {w : World} {B : Nat} {v : Value} {l : List (Nat × Nat)} (h : OwnsP w B v l) : ∀ k, v.ownBlock = some k → B ≤ k := by
  intro k hk
  rcases h.1.2 with ⟨rfl, _⟩ | ⟨g, cap, cur, rfl, hBg, _⟩
  · simp [Value.ownBlock] at hk
  · simp [Value.ownBlock] at hk
    omega
theorem OwnsP.form {w : World} {B : Nat} {v : Value} {l : List (Nat × Nat)} (h : OwnsP w B v l) (hn : l ≠ []) : ∃ g c, v = .slice (some ⟨g, 0, none⟩) l.length c ∧ B ≤ g ∧ g < w.heap.size ∧ l.length ≤ c := by
  rcases h.1.2 with ⟨rfl, _⟩ | ⟨g, cap, cur, rfl, hBg, hg, hc, _⟩
  · exact absurd rfl (h.2.2 hn)
  · exact ⟨g, cap, rfl, hBg, (Array.getElem?_eq_some_iff.1 hg).1, hc⟩
theorem OwnsP.cells {w : World} {B g n c : Nat} {l : List (Nat × Nat)} (h : OwnsP w B (.slice (some ⟨g, 0, none⟩) n c) l) (hn : n = l.length) {k : Nat} {s : Nat × Nat} (hk : l[k]? = some s) :
    w.cell? ⟨g, k * 2, none⟩ = some (.int .i64 (s.1 : Nat)) ∧ w.cell? ⟨g, k * 2 + 1, none⟩ = some (.int .i64 (s.2 : Nat)) := by
  subst hn
  have hkl := (List.getElem?_eq_some_iff.1 hk).1
  have c0 := h.1.cellAt (k * 2) (by omega)
  have c1 := h.1.cellAt (k * 2 + 1) (by omega)
  have e0 := flat2_at l k 0 s hk (by decide)
  rw [Nat.add_zero] at e0
  rw [e0] at c0
  rw [flat2_at l k 1 s hk (by decide)] at c1
  exact ⟨c0, c1⟩
theorem OwnsP.frozen {w : World} {B g n c : Nat} {l : List (Nat × Nat)} (h : OwnsP w B (.slice (some ⟨g, 0, none⟩) n c) l) (hn : n = l.length) (j : Nat) : w.frozen? ⟨g, j, none⟩ = false := by
  subst hn
  exact h.1.frozenAt j
/-- one pair more -/
theorem wpList_append_pair {w : World} {ops : Array Oper} {rest : List Oper} {o : Oper} {a : Act} {Q : Exit → Act → World → Prop} (hgd : o.guard = none) (s x : Operand)
    (ho : o.op = .call { callee := .builtin .append, args := #[s, x], argTypes := #[38, 38] })
    (w0 u : World) (v : Value) (xs : List (Nat × Nat)) (hs : a.eval s = v) (hown : OwnsP u w0.heap.size v xs) (hbel : Below w0.heap.size w0 u) (p q : Nat) (hw : w = u.alloc (.cells #[.int .i64 p, .int .i64 q] 41)) (hx : a.eval x = .slice (some ⟨u.heap.size, 0, none⟩) 1 1)
    (hl : xs.length ≤ 1000000)
    (h : ∀ v' w', OwnsP w' w0.heap.size v' (xs ++ [(p, q)]) → Below w0.heap.size w0 w' → wpList Try.prog ops Q rest (a.put o.dst v') w') : wpList Try.prog ops Q (o :: rest) a w := by
  subst hw
  obtain ⟨i0, hi, hz0, hz1, hz2⟩ := info_parts info41
  have hal : Below u.heap.size u (u.alloc (.cells #[.int .i64 p, .int .i64 q] 41)) := (Below.refl _ _).alloc (Nat.le_refl _) _
  have hown' := hown.later hal
  refine wpList_plain hgd fun K hK => ?_
  obtain ⟨v', w', hr, ho2, hg, hn⟩ := run_append_own_wide (P := Try.prog) (u.alloc (.cells #[.int .i64 p, .int .i64 q] 41)) w0.heap.size 38 o.type 41 i0 _ 2 16 Try.underlying38 hi hz0 hz1 hz2 rfl (by decide) v xs.length (flat2 xs) hown'.1
    ⟨u.heap.size, 0, none⟩ 1 1 (flat2 [(p, q)]) rfl (fun j y hj => by
      rw [Go.WideShapes.add_plain]
      have hj2 : j < 2 := by
        have := (List.getElem?_eq_some_iff.1 hj).1
        simpa [flat2, cells2] using this
      have h2 : j = 0 ∨ j = 1 := by omega
      rcases h2 with rfl | rfl
      · simp [flat2, cells2] at hj; subst hj; rw [World.cell?_alloc_mark]; rfl
      · simp [flat2, cells2] at hj; subst hj; rw [World.cell?_alloc_mark]; rfl) (flat2_one _) (by simp only [maxLen]; omega) (by omega) (by have := hbel.size; simp; omega)
  unfold Oper.wp execOp
  simp only [ho, resolve, invoke, builtin, Sem.run_bind, Sem.run_pure, Result.andThen_ok, List.map_toArray, List.map_cons, List.map_nil, hs, hx, hr]
  refine hK _ _ (h v' w' ⟨?_, fun e => by simp at e, fun _ e => ?_⟩ ((hbel.alloc hbel.size _).grown hg (by have := hbel.size; simp; omega) hown.block))
  · rw [flat2_append, List.length_append]
    exact ho2
  · have := (hn.1 e).2
    omega
/-- the second number of the last pair written -/
theorem OwnsP.put {w : World} {B g n c : Nat} {l : List (Nat × Nat)} {p q : Nat} (h : OwnsP w B (.slice (some ⟨g, 0, none⟩) n c) (l ++ [(p, q)])) (hn : n = (l ++ [(p, q)]).length) (y : Nat) (k : Nat) (hk : k = l.length) :
    OwnsP (w.setCell ⟨g, k * 2 + 1, none⟩ (.int .i64 (y : Nat))) B (.slice (some ⟨g, 0, none⟩) n c) (l ++ [(p, y)]) := by
  subst hn
  subst hk
  have h1 := h.1.stored (l.length * 2 + 1) (.int .i64 (y : Nat))
  have e : (flat2 (l ++ [(p, q)])).set (l.length * 2 + 1) (.int .i64 (y : Nat)) = flat2 (l ++ [(p, y)]) := by
    rw [flat2_append, flat2_append, List.set_append_right _ _ (by rw [flat2_length]; omega), flat2_length]
    congr 1
    rw [show l.length * 2 + 1 - 2 * l.length = 1 by omega]
    simp [flat2, cells2]
  rw [e] at h1
  refine ⟨?_, fun e => by simp at e, fun _ e => by simp at e⟩
  have e2 : (l ++ [(p, y)]).length = (l ++ [(p, q)]).length := by simp
  rw [e2]
  exact h1.1
end Go.Proofs.Ytkgpmaclaahmbaa
