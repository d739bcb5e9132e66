/- Laws for rows of bytes that a call itself makes: what append of bytes leaves, from nil on too; a row's bytes read and written; bytes as a text. -/
import Derived.Test.YtkgpmaclaahmbaaMem
import Derived.Laws.BytesArg
import Derived.Deep.DeepAppendWide
import Derived.Deep.AppendSrc
import Derived.WideShapes
namespace Go.Proofs.Ytkgpmaclaahmbaa
open Go.RowKit

/-- BYTES READ FROM A SLICE: there are none, or they lie from the address on. -/
def BytesI (w : World) (a : Option Addr) (zs : List Int) : Prop :=
  zs = [] ∨ ∃ b off, a = some ⟨b, off, none⟩ ∧ ∀ k, k < zs.length → w.cell? ⟨b, off + k, none⟩ = some (.int .u8 (zs.getD k 0))
theorem info5 : (Try.prog.info? 5).map (fun i => (i.zero, i.size, i.bytes)) = some (some (.int .u8 0), 1, 1) := by kernel_rfl
/-- bytes as cells -/
def cellsOf (zs : List Int) : List Value := zs.map (fun z => Value.int .u8 z)
theorem cellsOf_length (zs : List Int) : (cellsOf zs).length = zs.length := by simp [cellsOf]
theorem cellsOf_append (xs zs : List Int) : cellsOf (xs ++ zs) = cellsOf xs ++ cellsOf zs := by simp [cellsOf]
theorem cellsOf_one (zs : List Int) : ∀ u ∈ cellsOf zs, u.oneCell' = true := by
  intro u hu
  obtain ⟨z, _, rfl⟩ := List.mem_map.1 hu
  rfl

/-- A ROW OF THE CALL's OWN (a slice that is not nil) HOLDS THESE BYTES. -/
def Owns (w : World) (B : Nat) (v : Value) (zs : List Int) : Prop := w.ownsRow B 5 1 v zs.length (cellsOf zs) ∧ v ≠ .slice none 0 0

theorem Owns.form {w : World} {B : Nat} {v : Value} {zs : List Int} (h : Owns w B v zs) :
    ∃ g cap, v = .slice (some ⟨g, 0, none⟩) zs.length cap ∧ B ≤ g ∧ g < w.heap.size ∧ BytesI w (some ⟨g, 0, none⟩) zs ∧ zs.length ≤ cap ∧ cap ≤ maxLen ∧ v.ownBlock = some g := by
  obtain ⟨h, hn⟩ := h
  rcases h.2 with ⟨rfl, _⟩ | ⟨g, cap, cur, rfl, hb, hg, hc, hm, hs, ht⟩
  · exact absurd rfl hn
  · refine ⟨g, cap, rfl, hb, (Array.getElem?_eq_some_iff.1 hg).1, Or.inr ⟨g, 0, rfl, fun k hk => ?_⟩, hc, hm, rfl⟩
    have := h.cellAt k (by omega)
    rw [Nat.zero_add, this]
    simp [cellsOf, hk]

theorem run_append_bytes (w : World) (ty : TypeId) (B : Nat) (v : Value) (xs : List Int) (hown : Owns w B v xs) (a : Option Addr) (cap : Nat) (zs : List Int) (hb : BytesI w a zs)
    (hl : xs.length + zs.length ≤ 140737488355328) (hB : B ≤ w.heap.size) :
    ∃ v' w', (Builtin.append_ #[27, 27] ty #[v, .slice a zs.length cap]).run Try.prog w = .ok v' w' ∧ Owns w' B v' (xs ++ zs) ∧ w.grownBy w' v.ownBlock := by
  obtain ⟨i0, hi, hz0, hz1, hz2⟩ := info_parts info5
  rcases hb with rfl | ⟨b, off, rfl, hc⟩
  · obtain ⟨g, c, rfl, _, _, _, hc, _, _⟩ := hown.form
    have hs : Src Try.prog i0.size 27 (.slice a 0 cap) 0 [] w := by
      cases a with
      | none => exact Src.ofNil w Try.underlying27 cap
      | some ad => exact Src.ofSlice w Try.underlying27 ad 0 cap [] (by simp) (fun j u hj => by simp at hj) (fun u hu => by cases hu)
    have hr := run_append_room_src (P := Try.prog) w 27 27 ty 5 i0 Try.underlying27 hi g 0 xs.length c (.slice a 0 cap) 0 [] hs (by omega) (fun j hj => by simp at hj) (fun j hj => by simp at hj)
    exact ⟨_, _, hr, by simpa [World.setCells] using hown, by simpa [World.setCells] using (⟨rfl, rfl, rfl, Nat.le_refl _, fun _ _ _ => rfl⟩ : w.grownBy w _)⟩
  · obtain ⟨v', w', hr, ho, hg, hn⟩ := run_append_own_wide (P := Try.prog) w B 27 ty 5 i0 (.int .u8 0) 1 1 Try.underlying27 hi hz0 hz1 hz2 rfl (by decide) v xs.length (cellsOf xs) hown.1
      ⟨b, off, none⟩ zs.length cap (cellsOf zs) (by simp [cellsOf]) (fun j u hj => by
        have hj' : j < zs.length := by
          have := (List.getElem?_eq_some_iff.1 hj).1
          simpa [cellsOf] using this
        have h := hc j hj'
        simp [cellsOf, hj'] at hj
        subst hj
        rw [Go.WideShapes.add_plain]
        simpa [hj'] using h) (cellsOf_one zs) (by simp only [maxLen]; omega) (by omega) hB
    refine ⟨v', w', hr, ⟨?_, fun e => hown.2 (hn.1 e).1⟩, hg⟩
    rw [cellsOf_append, List.length_append]
    exact ho

theorem bytesI_later {w w' : World} {a : Option Addr} {zs : List Int} (h : Below w.heap.size w w') (hT : BytesI w a zs) : BytesI w' a zs := by
  rcases hT with h0 | ⟨b, off, rfl, hc⟩
  · exact Or.inl h0
  · exact Or.inr ⟨b, off, rfl, fun k hk => by rw [h.cell (p := ⟨b, off + k, none⟩) (World.block_lt_of_cell? w _ (hc k hk))]; exact hc k hk⟩
/-- what is below the heap's size stays -/
theorem Owns.later {w w' : World} {B : Nat} {v : Value} {zs : List Int} (h : Owns w B v zs) (hb : Below w.heap.size w w') : Owns w' B v zs := by
  obtain ⟨h1, hn⟩ := h
  refine ⟨⟨h1.1, ?_⟩, hn⟩
  rcases h1.2 with h2 | ⟨g, cap, cur, hv, hBg, hg, rest⟩
  · exact Or.inl h2
  · exact Or.inr ⟨g, cap, cur, hv, hBg, by rw [hb.block g (Array.getElem?_eq_some_iff.1 hg).1]; exact hg, rest⟩
theorem Owns.lower {w : World} {B B' : Nat} {v : Value} {zs : List Int} (h : Owns w B v zs) (hb : B' ≤ B) : Owns w B' v zs := by
  obtain ⟨h1, hn⟩ := h
  refine ⟨⟨h1.1, ?_⟩, hn⟩
  rcases h1.2 with h2 | ⟨g, cap, cur, hv, hBg, hg, rest⟩
  · exact Or.inl h2
  · exact Or.inr ⟨g, cap, cur, hv, by omega, hg, rest⟩
/-- bytes as a text -/
theorem conv_string (w : World) (a : Option Addr) (n cap : Nat) (zs : List Int) (hn : n = zs.length) (hb : BytesI w a zs) : (convert 27 9 (.slice a n cap)).run Try.prog w = .ok (.string (strOfNums zs)) w := by
  subst hn
  rcases hb with rfl | ⟨b, off, rfl, hc⟩
  · cases a with
    | none => exact run_convert_bytes_nil w 27 5 Try.underlying27 Try.underlying5 0 cap 9 Try.underlying9
    | some ad =>
      rw [run_convert_bytes_string w 27 9 5 _ _ _ Try.underlying27 Try.underlying5 Try.underlying9]
      have hl : (loadCells ad 0).run Try.prog w = .ok (([] : List Int).map (Value.int .u8)).toArray w := run_loadCells_list (P := Try.prog) w ad [] (fun j v hj => by simp at hj)
      exact run_bytesToString w ad 0 cap [] hl
  · exact run_convert_bytes_arg w 27 5 Try.underlying27 Try.underlying5 b off zs.length cap zs rfl hc 9 Try.underlying9
/-- A row of the call's own, or nil while nothing has been gathered. -/
def OwnsN (w : World) (B : Nat) (v : Value) (zs : List Int) : Prop := w.ownsRow B 5 1 v zs.length (cellsOf zs) ∧ (zs = [] → v = .slice none 0 0) ∧ (zs ≠ [] → v ≠ .slice none 0 0)

theorem ownsN_nil (w : World) (B : Nat) : OwnsN w B (.slice none 0 0) [] := ⟨World.ownsRow_nil w B 5 1, fun _ => rfl, fun h => absurd rfl h⟩
theorem OwnsN.owns {w : World} {B : Nat} {v : Value} {zs : List Int} (h : OwnsN w B v zs) (hn : zs ≠ []) : Owns w B v zs := ⟨h.1, h.2.2 hn⟩
theorem OwnsN.later {w w' : World} {B : Nat} {v : Value} {zs : List Int} (h : OwnsN w B v zs) (hb : Below w.heap.size w w') : OwnsN w' B v zs := by
  by_cases hn : zs = []
  · subst hn
    rw [h.2.1 rfl]
    exact ownsN_nil _ _
  · exact ⟨((h.owns hn).later hb).1, h.2⟩
theorem OwnsN.block {w : World} {B : Nat} {v : Value} {zs : List Int} (h : OwnsN w B v zs) : ∀ k, v.ownBlock = some k → B ≤ k := by
  intro k hk
  by_cases hn : zs = []
  · rw [h.2.1 hn] at hk
    simp [Value.ownBlock] at hk
  · obtain ⟨g, c, rfl, hB, _, _, _, _, hg⟩ := (h.owns hn).form
    rw [hg] at hk
    cases hk
    exact hB
/-- what such a slice is to a reader -/
theorem OwnsN.form {w : World} {B : Nat} {v : Value} {zs : List Int} (h : OwnsN w B v zs) :
    ∃ a cap, v = .slice a zs.length cap ∧ BytesI w a zs ∧ zs.length ≤ cap ∧ cap ≤ maxLen ∧ (zs ≠ [] → ∃ g, a = some ⟨g, 0, none⟩) ∧ (zs = [] → a = none ∧ cap = 0) := by
  by_cases hn : zs = []
  · subst hn
    exact ⟨none, 0, h.2.1 rfl, Or.inl rfl, Nat.le_refl _, Nat.zero_le _, fun h => absurd rfl h, fun _ => ⟨rfl, rfl⟩⟩
  · obtain ⟨g, c, e, _, _, hb, hc, hm, _⟩ := (h.owns hn).form
    exact ⟨_, c, e, hb, hc, hm, fun _ => ⟨g, rfl⟩, fun h => absurd h hn⟩

theorem run_append_bytesN (w : World) (ty : TypeId) (B : Nat) (v : Value) (xs : List Int) (hown : OwnsN w B v xs) (a : Option Addr) (cap : Nat) (zs : List Int) (hb : BytesI w a zs)
    (hl : xs.length + zs.length ≤ 140737488355328) (hB : B ≤ w.heap.size) :
    ∃ v' w', (Builtin.append_ #[27, 27] ty #[v, .slice a zs.length cap]).run Try.prog w = .ok v' w' ∧ OwnsN w' B v' (xs ++ zs) ∧ w.grownBy w' v.ownBlock := by
  obtain ⟨i0, hi, hz0, hz1, hz2⟩ := info_parts info5
  have rf : w.grownBy w v.ownBlock := ⟨rfl, rfl, rfl, Nat.le_refl _, fun _ _ _ => rfl⟩
  by_cases hx : xs = []
  · subst hx
    have hv := hown.2.1 rfl
    subst hv
    rcases hb with rfl | ⟨b, off, rfl, hc⟩
    · refine ⟨.slice none 0 0, w, ?_, hown, rf⟩
      cases a with
      | none => simp [Builtin.append_, run_underlying Try.underlying27, sizeOf, typeInfo, hi, Builtin.lenOf, Builtin.firstCells]
      | some ad => simp [Builtin.append_, run_underlying Try.underlying27, sizeOf, typeInfo, hi, Builtin.lenOf, Builtin.firstCells, loadCells, loadCellsFrom]
    · by_cases hz : zs = []
      · subst hz
        refine ⟨.slice none 0 0, w, ?_, hown, rf⟩
        simp [Builtin.append_, run_underlying Try.underlying27, sizeOf, typeInfo, hi, Builtin.lenOf, Builtin.firstCells, loadCells, loadCellsFrom]
      · obtain ⟨v', w', hr, ho, hg, hn⟩ := run_append_own_wide (P := Try.prog) w B 27 ty 5 i0 (.int .u8 0) 1 1 Try.underlying27 hi hz0 hz1 hz2 rfl (by decide) (.slice none 0 0) 0 [] hown.1
          ⟨b, off, none⟩ zs.length cap (cellsOf zs) (by simp [cellsOf]) (fun j u hj => by
            have hj' : j < zs.length := by
              have := (List.getElem?_eq_some_iff.1 hj).1
              simpa [cellsOf] using this
            have h := hc j hj'
            simp [cellsOf, hj'] at hj
            subst hj
            rw [Go.WideShapes.add_plain]
            simpa [hj'] using h) (cellsOf_one zs) (by simp only [maxLen]; simp at hl; omega) (by simp at hl; omega) hB
        refine ⟨v', w', hr, ⟨?_, fun h => absurd h (by simpa using hz), fun _ e => ?_⟩, hg⟩
        · simpa using ho
        · have := (hn.1 e).2
          exact hz (List.eq_nil_of_length_eq_zero this)
  · obtain ⟨v', w', hr, ho, hg⟩ := run_append_bytes w ty B v xs (hown.owns hx) a cap zs hb hl hB
    exact ⟨v', w', hr, ⟨ho.1, fun h => absurd h (by simp [hx]), fun _ => ho.2⟩, hg⟩

theorem wpList_append_bytesN {w : World} {ops : Array Oper} {rest : List Oper} {o : Oper} {a : Act} {Q : Exit → Act → World → Prop} (hgd : o.guard = none) (s x : Operand)
    (ho : o.op = .call { callee := .builtin .append, args := #[s, x], argTypes := #[27, 27] })
    (w0 : World) (v : Value) (xs : List Int) (hs : a.eval s = v) (hown : OwnsN w w0.heap.size v xs) (hbel : Below w0.heap.size w0 w) (p : Option Addr) (cap n : Nat) (zs : List Int) (hn : n = zs.length) (hx : a.eval x = .slice p n cap) (hb : BytesI w p zs)
    (hl : xs.length + zs.length ≤ 140737488355328)
    (h : ∀ v' w', OwnsN w' w0.heap.size v' (xs ++ zs) → Below w0.heap.size w0 w' → wpList Try.prog ops Q rest (a.put o.dst v') w') : wpList Try.prog ops Q (o :: rest) a w := by
  subst hn
  refine wpList_plain hgd fun K hK => ?_
  obtain ⟨v', w', hr, h2, h3⟩ := run_append_bytesN w o.type w0.heap.size v xs hown p cap zs hb hl hbel.size
  unfold Oper.wp execOp
  simp only [ho, resolve, invoke, builtin, Sem.run_bind, Sem.run_pure, Result.andThen_ok, List.map_toArray, List.map_cons, List.map_nil, hs, hx, hr]
  exact hK _ _ (h v' w' h2 (hbel.grown h3 hbel.size hown.block))
/-- a byte of a row of the call's own -/
theorem Owns.cellAt {w : World} {B g n c : Nat} {ys : List Int} (h : Owns w B (.slice (some ⟨g, 0, none⟩) n c) ys) {j : Nat} (hj : j < ys.length) : w.cell? ⟨g, j, none⟩ = some (.int .u8 (ys.getD j 0)) ∧ w.frozen? ⟨g, j, none⟩ = false := by
  obtain ⟨g', c', e, _, _, hbt, _⟩ := h.form
  cases e
  refine ⟨?_, h.1.frozenAt j⟩
  rcases hbt with rfl | ⟨b, off, e, hc⟩
  · simp at hj
  · cases e
    have := hc j hj
    rw [Nat.zero_add] at this
    exact this
/-- a byte stored into it -/
theorem Owns.put {w : World} {B g n c : Nat} {ys : List Int} (h : Owns w B (.slice (some ⟨g, 0, none⟩) n c) ys) (j : Nat) (x : Int) :
    Owns (w.setCell ⟨g, j, none⟩ (.int .u8 x)) B (.slice (some ⟨g, 0, none⟩) n c) (ys.set j x) := by
  obtain ⟨g', c', e, hB, _, _, _⟩ := h.form
  cases e
  refine ⟨?_, by simp⟩
  have h1 := h.1.stored j (.int .u8 x)
  have e2 : cellsOf (ys.set j x) = (cellsOf ys).set j (.int .u8 x) := by simp [cellsOf, List.map_set]
  rw [e2, List.length_set]
  exact h1.1
/-- bytes as whole numbers -/
def ints (bs : List Nat) : List Int := bs.map (fun b : Nat => (b : Int))
theorem ints_length (bs : List Nat) : (ints bs).length = bs.length := by simp [ints]
theorem ints_at (bs : List Nat) (k : Nat) (hk : k < bs.length) : (ints bs).getD k 0 = (bs.getD k 0 : Nat) := by simp [ints, hk]
theorem bytesI_of {w : World} {a : Option Addr} {bs : List Nat} (h : BytesAt w a bs) : BytesI w a (ints bs) := by
  rcases h with rfl | ⟨b, off, rfl, hc⟩
  · exact Or.inl rfl
  · refine Or.inr ⟨b, off, rfl, fun k hk => ?_⟩
    rw [ints_length] at hk
    rw [ints_at bs k hk]
    exact hc k hk
theorem bytesAt_of {w : World} {a : Option Addr} {bs : List Nat} (h : BytesI w a (ints bs)) : BytesAt w a bs := by
  rcases h with h0 | ⟨b, off, rfl, hc⟩
  · exact Or.inl (by simpa [ints] using h0)
  · refine Or.inr ⟨b, off, rfl, fun k hk => ?_⟩
    rw [← ints_at bs k hk]
    exact hc k (by rw [ints_length]; exact hk)
theorem bytesI_take {w : World} {a : Option Addr} {zs : List Int} (n : Nat) (h : BytesI w a zs) : BytesI w a (zs.take n) := by
  rcases h with rfl | ⟨b, off, rfl, hc⟩
  · exact Or.inl (by simp)
  · refine Or.inr ⟨b, off, rfl, fun k hk => ?_⟩
    have hk1 : k < n := by simp at hk; omega
    have hk2 : k < zs.length := by simp at hk; omega
    rw [hc k hk2]
    simp [hk1, hk2]
end Go.Proofs.Ytkgpmaclaahmbaa
