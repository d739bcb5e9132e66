/- Laws for rows of bytes that a call itself makes: what make, append of bytes and append of a text leave; a row's bytes read; bytes copied over a row; bytes as a text. -/
import Derived.Test.YtdngileimmgdnaaDoorG00
import Derived.Test.YtdngileimmgdnaaDoorG01
import Derived.WalkKit
import Derived.WalkLawsBesides
import Derived.WalkSpells
import Derived.OwnWalk
import Derived.Lib.AppendStr
import Derived.Laws.BytesArg
import Derived.Deep.DeepAppendWide
import Derived.Deep.AppendSrc
import Derived.Laws.CopyOwn
import Derived.WideShapes
namespace Go.Proofs.YtdngileimmgdnaaDoor
open Go.RowKit


/-- BYTES READ FROM A SLICE: there are none, or they lie from the address on. -/
def BytesAt (w : World) (a : Option Addr) (zs : List Int) : Prop :=
  zs = [] ∨ ∃ b off, a = some ⟨b, off, none⟩ ∧ ∀ k, k < zs.length → w.cell? ⟨b, off + k, none⟩ = some (.int .u8 (zs.getD k 0))
theorem bytesAt_new (w : World) (zs : List Int) (t : TypeId) (fr : Nat × Nat) : BytesAt (w.alloc (.cells (zs.map (fun z => Value.int .u8 z)).toArray t fr)) (some ⟨w.heap.size, 0, none⟩) zs := by
  refine Or.inr ⟨_, 0, rfl, fun k hk => ?_⟩
  rw [World.cell?_alloc_mark]
  simp [hk]
theorem info5 : (Tryd.prog.info? 5).map (fun i => (i.zero, i.size, i.bytes)) = some (some (.int .u8 0), 1, 1) := by kernel_rfl
/-- bytes as cells -/
def cellsOf (zs : List Int) : List Value := zs.map (fun z => Value.int .u8 z)
theorem cellsOf_length (zs : List Int) : (cellsOf zs).length = zs.length := by simp [cellsOf]
theorem cellsOf_append (xs zs : List Int) : cellsOf (xs ++ zs) = cellsOf xs ++ cellsOf zs := by simp [cellsOf]
theorem cellsOf_one (zs : List Int) : ∀ u ∈ cellsOf zs, u.oneCell' = true := by
  intro u hu
  obtain ⟨z, _, rfl⟩ := List.mem_map.1 hu
  rfl

/-- A ROW OF THE CALL's OWN (a slice that is not nil) HOLDS THESE BYTES. -/
def Owns (w : World) (B : Nat) (v : Value) (zs : List Int) : Prop := w.ownsRow B 5 1 v zs.length (cellsOf zs) ∧ v ≠ .slice none 0 0

theorem Owns.form {w : World} {B : Nat} {v : Value} {zs : List Int} (h : Owns w B v zs) :
    ∃ g cap, v = .slice (some ⟨g, 0, none⟩) zs.length cap ∧ B ≤ g ∧ g < w.heap.size ∧ BytesAt w (some ⟨g, 0, none⟩) zs ∧ zs.length ≤ cap ∧ cap ≤ maxLen ∧ v.ownBlock = some g := by
  obtain ⟨h, hn⟩ := h
  rcases h.2 with ⟨rfl, _⟩ | ⟨g, cap, cur, rfl, hb, hg, hc, hm, hs, ht⟩
  · exact absurd rfl hn
  · refine ⟨g, cap, rfl, hb, (Array.getElem?_eq_some_iff.1 hg).1, Or.inr ⟨g, 0, rfl, fun k hk => ?_⟩, hc, hm, rfl⟩
    have := h.cellAt k (by omega)
    rw [Nat.zero_add, this]
    simp [cellsOf, hk]

theorem run_append_bytes (w : World) (ty : TypeId) (B : Nat) (v : Value) (xs : List Int) (hown : Owns w B v xs) (a : Option Addr) (cap : Nat) (zs : List Int) (hb : BytesAt w a zs)
    (hl : xs.length + zs.length ≤ 140737488355328) (hB : B ≤ w.heap.size) :
    ∃ v' w', (Builtin.append_ #[28, 28] ty #[v, .slice a zs.length cap]).run Tryd.prog w = .ok v' w' ∧ Owns w' B v' (xs ++ zs) ∧ w.grownBy w' v.ownBlock := by
  obtain ⟨i0, hi, hz0, hz1, hz2⟩ := info_parts info5
  rcases hb with rfl | ⟨b, off, rfl, hc⟩
  · obtain ⟨g, c, rfl, _, _, _, hc, _, _⟩ := hown.form
    have hs : Src Tryd.prog i0.size 28 (.slice a 0 cap) 0 [] w := by
      cases a with
      | none => exact Src.ofNil w Tryd.underlying28 cap
      | some ad => exact Src.ofSlice w Tryd.underlying28 ad 0 cap [] (by simp) (fun j u hj => by simp at hj) (fun u hu => by cases hu)
    have hr := run_append_room_src (P := Tryd.prog) w 28 28 ty 5 i0 Tryd.underlying28 hi g 0 xs.length c (.slice a 0 cap) 0 [] hs (by omega) (fun j hj => by simp at hj) (fun j hj => by simp at hj)
    exact ⟨_, _, hr, by simpa [World.setCells] using hown, by simpa [World.setCells] using (⟨rfl, rfl, rfl, Nat.le_refl _, fun _ _ _ => rfl⟩ : w.grownBy w _)⟩
  · obtain ⟨v', w', hr, ho, hg, hn⟩ := run_append_own_wide (P := Tryd.prog) w B 28 ty 5 i0 (.int .u8 0) 1 1 Tryd.underlying28 hi hz0 hz1 hz2 rfl (by decide) v xs.length (cellsOf xs) hown.1
      ⟨b, off, none⟩ zs.length cap (cellsOf zs) (by simp [cellsOf]) (fun j u hj => by
        have hj' : j < zs.length := by
          have := (List.getElem?_eq_some_iff.1 hj).1
          simpa [cellsOf] using this
        have h := hc j hj'
        simp [cellsOf, hj'] at hj
        subst hj
        rw [Go.WideShapes.add_plain]
        simpa [hj'] using h) (cellsOf_one zs) (by simp only [maxLen]; omega) (by omega) hB
    refine ⟨v', w', hr, ⟨?_, fun e => hown.2 (hn.1 e).1⟩, hg⟩
    rw [cellsOf_append, List.length_append]
    exact ho

theorem wpList_append_bytes {w : World} {ops : Array Oper} {rest : List Oper} {o : Oper} {a : Act} {Q : Exit → Act → World → Prop} (hgd : o.guard = none) (s x : Operand)
    (ho : o.op = .call { callee := .builtin .append, args := #[s, x], argTypes := #[28, 28] })
    (B : Nat) (v : Value) (xs : List Int) (hs : a.eval s = v) (hown : Owns w B v xs) (p : Option Addr) (cap n : Nat) (zs : List Int) (hn : n = zs.length) (hx : a.eval x = .slice p n cap) (hb : BytesAt w p zs)
    (hl : xs.length + zs.length ≤ 140737488355328) (hB : B ≤ w.heap.size)
    (h : ∀ v' w', Owns w' B v' (xs ++ zs) → w.grownBy w' v.ownBlock → wpList Tryd.prog ops Q rest (a.put o.dst v') w') : wpList Tryd.prog ops Q (o :: rest) a w := by
  subst hn
  refine wpList_plain hgd fun K hK => ?_
  obtain ⟨v', w', hr, h2, h3⟩ := run_append_bytes w o.type B v xs hown p cap zs hb hl hB
  unfold Oper.wp execOp
  simp only [ho, resolve, invoke, builtin, Sem.run_bind, Sem.run_pure, Result.andThen_ok, List.map_toArray, List.map_cons, List.map_nil, hs, hx, hr]
  exact hK _ _ (h v' w' h2 h3)

theorem owns_empty (w : World) (B : Nat) (hB : B ≤ w.heap.size) : Owns (w.alloc (.cells #[] 5)) B (.slice (some ⟨w.heap.size, 0, none⟩) 0 0) [] :=
  ⟨World.ownsRow_lit w #[] 0 hB (Nat.zero_le _) (by simp), by simp⟩

/-- bytes copied over a whole row -/
theorem wpList_copy_bytes {w : World} {ops : Array Oper} {rest : List Oper} {o : Oper} {a : Act} {Q : Exit → Act → World → Prop} (hgd : o.guard = none) (d s : Operand)
    (ho : o.op = .call { callee := .builtin .copy, args := #[d, s], argTypes := #[28, 28] })
    (B : Nat) (v : Value) (xs : List Int) (hd : a.eval d = v) (hown : Owns w B v xs) (p : Option Addr) (cap n : Nat) (zs : List Int) (hn : n = zs.length) (hs : a.eval s = .slice p n cap) (hb : BytesAt w p zs) (hle : xs.length ≤ zs.length)
    (h : ∀ w', Owns w' B v (zs.take xs.length) → Below B w w' → wpList Tryd.prog ops Q rest (a.put o.dst (goInt xs.length)) w') : wpList Tryd.prog ops Q (o :: rest) a w := by
  subst hn
  obtain ⟨h1, hnn⟩ := hown
  rcases h1.2 with ⟨rfl, _⟩ | ⟨g, c, cur, rfl, hBg, hg, hc, hm, hsz, ht⟩
  · exact absurd rfl hnn
  · have hlen : (cellsOf (zs.take xs.length)).length = xs.length := by simp [cellsOf]; omega
    refine wpList_copy_splice hgd d s 28 28 ho 5 Tryd.underlying28 (by kernel_rfl) _ p _ c _ cap hd hs g 0 cur.toList 5 (by simpa using hg) (cellsOf (zs.take xs.length))
      (by rw [hlen]; show _ = min _ _; omega) (fun hp => ⟨rfl, ?_⟩) (by simp [hlen, hsz]; omega) (cellsOf_one _) B w (Below.refl _ _) hBg ?_
    · rcases hb with rfl | ⟨b, off, rfl, hcell⟩
      · simp [cellsOf] at hp
      · refine ⟨_, rfl, fun j u hj => ?_⟩
        have hj' : j < xs.length := by
          have := (List.getElem?_eq_some_iff.1 hj).1
          omega
        have h := hcell j (by omega)
        have hz : j < zs.length := by omega
        simp [cellsOf, hj', hz] at hj
        subst hj
        rw [Go.WideShapes.add_plain]
        simpa [hz] using h
    · intro w' hw' hbl
      rw [hlen]
      refine h w' ⟨⟨by simp [cellsOf], .inr ⟨g, c, (splice cur.toList 0 (cellsOf (zs.take xs.length))).toArray, ?_, hBg, hw'.out, ?_, hm, ?_, ?_⟩⟩, by simp⟩ hbl
      · simp; omega
      · simp; omega
      · rw [List.size_toArray, length_splice _ _ _ (by simp [hlen, hsz]; omega)]; simpa using hsz
      · simp [splice, cellsOf]

theorem bytesAt_later {w w' : World} {a : Option Addr} {zs : List Int} (h : Below w.heap.size w w') (hT : BytesAt w a zs) : BytesAt w' a zs := by
  rcases hT with h0 | ⟨b, off, rfl, hc⟩
  · exact Or.inl h0
  · exact Or.inr ⟨b, off, rfl, fun k hk => by rw [h.cell (p := ⟨b, off + k, none⟩) (World.block_lt_of_cell? w _ (hc k hk))]; exact hc k hk⟩
theorem bytesAt_take {w : World} {a : Option Addr} {zs : List Int} (n : Nat) (h : BytesAt w a zs) : BytesAt w a (zs.take n) := by
  rcases h with rfl | ⟨b, off, rfl, hc⟩
  · exact Or.inl (by simp)
  · refine Or.inr ⟨b, off, rfl, fun k hk => ?_⟩
    have hk1 : k < n := by simp at hk; omega
    have hk2 : k < zs.length := by simp at hk; omega
    rw [hc k hk2]
    simp [hk1, hk2]


/-- what is below the heap's size stays -/
theorem Owns.later {w w' : World} {B : Nat} {v : Value} {zs : List Int} (h : Owns w B v zs) (hb : Below w.heap.size w w') : Owns w' B v zs := by
  obtain ⟨h1, hn⟩ := h
  refine ⟨⟨h1.1, ?_⟩, hn⟩
  rcases h1.2 with h2 | ⟨g, cap, cur, hv, hBg, hg, rest⟩
  · exact Or.inl h2
  · exact Or.inr ⟨g, cap, cur, hv, hBg, by rw [hb.block g (Array.getElem?_eq_some_iff.1 hg).1]; exact hg, rest⟩
theorem Owns.lower {w : World} {B B' : Nat} {v : Value} {zs : List Int} (h : Owns w B v zs) (hb : B' ≤ B) : Owns w B' v zs := by
  obtain ⟨h1, hn⟩ := h
  refine ⟨⟨h1.1, ?_⟩, hn⟩
  rcases h1.2 with h2 | ⟨g, cap, cur, hv, hBg, hg, rest⟩
  · exact Or.inl h2
  · exact Or.inr ⟨g, cap, cur, hv, by omega, hg, rest⟩
/-- append([]byte{}, bytes...): a row of its own -/
theorem wpList_append_fresh {w : World} {ops : Array Oper} {rest : List Oper} {o : Oper} {a : Act} {Q : Exit → Act → World → Prop} (hgd : o.guard = none) (s x : Operand)
    (ho : o.op = .call { callee := .builtin .append, args := #[s, x], argTypes := #[28, 28] })
    (hs : a.eval s = .slice (some ⟨w.heap.size, 0, none⟩) 0 0) (p : Option Addr) (cap n : Nat) (zs : List Int) (hx : a.eval x = .slice p n cap) (hn : n = zs.length) (hb : BytesAt w p zs) (hl : n ≤ 140737488355328)
    (h : ∀ g c w', Owns w' w.heap.size (.slice (some ⟨g, 0, none⟩) n c) zs → Below w.heap.size w w' → n ≤ c → wpList Tryd.prog ops Q rest (a.put o.dst (.slice (some ⟨g, 0, none⟩) n c)) w') : wpList Tryd.prog ops Q (o :: rest) a (w.alloc (.cells #[] 5)) := by
  have hal : Below w.heap.size w (w.alloc (.cells #[] 5)) := (Below.refl _ _).alloc (Nat.le_refl _) _
  refine wpList_append_bytes hgd s x ho w.heap.size _ [] hs (owns_empty w _ (Nat.le_refl _)) p cap n zs hn hx (bytesAt_later hal hb) (by simp; omega) (by simp) ?_
  intro v' w' h1 h2
  rw [List.nil_append] at h1
  obtain ⟨g, c, rfl, _, _, _, hc, _, _⟩ := h1.form
  rw [← hn] at h1 ⊢
  exact h g c w' h1 (hal.grown h2 (by simp) (fun k hk => by simp [Value.ownBlock] at hk; omega)) (by omega)


/-- append of a text -/
theorem strCells_eq (s : ByteArray) : Lib.strCells s = cellsOf (Rec.str s) := by simp [Lib.strCells, cellsOf, Rec.str, List.map_map, Function.comp_def]
theorem wpList_append_text {w : World} {ops : Array Oper} {rest : List Oper} {o : Oper} {a : Act} {Q : Exit → Act → World → Prop} (hgd : o.guard = none) (s x : Operand)
    (ho : o.op = .call { callee := .builtin .append, args := #[s, x], argTypes := #[28, 9] })
    (B : Nat) (v : Value) (xs : List Int) (hs : a.eval s = v) (hown : Owns w B v xs) (t : ByteArray) (hx : a.eval x = .string t)
    (hl : xs.length + t.size ≤ 140737488355328) (hB : B ≤ w.heap.size)
    (h : ∀ v' w', Owns w' B v' (xs ++ Rec.str t) → w.grownBy w' v.ownBlock → wpList Tryd.prog ops Q rest (a.put o.dst v') w') : wpList Tryd.prog ops Q (o :: rest) a w := by
  obtain ⟨i0, hi, hz0, hz1, hz2⟩ := info_parts info5
  refine Lib.wpList_append_own_string (P := Tryd.prog) w hgd s x 28 9 ho B 5 i0 Tryd.underlying28 Tryd.underlying9 hi hz0 hz1 hz2 v xs.length (cellsOf xs) hs hown.1 t hx (by simp only [maxLen]; omega) (by omega) hB ?_
  intro v' w' h1 h2 h3
  refine h v' w' ⟨?_, fun e => hown.2 (h3.1 e).1⟩ h2
  rw [cellsOf_append, ← strCells_eq, List.length_append, Rec.str_length]
  exact h1

/-- make([]byte, 0, n) -/
theorem wpList_make_room {w : World} {ops : Array Oper} {rest : List Oper} {o : Oper} {a : Act} {Q : Exit → Act → World → Prop} (hgd : o.guard = none) (l c : Operand)
    (ho : o.op = Op.makeSlice 28 l c) (n : Nat) (C : Int) (hl : a.eval l = .int .i64 0) (hc : a.eval c = .int .i64 C) (hC : C = (n : Int)) (hn : n ≤ 140737488355328)
    (h : ∀ w', Owns w' w.heap.size (.slice (some ⟨w.heap.size, 0, none⟩) 0 n) [] → Below w.heap.size w w' → wpList Tryd.prog ops Q rest (a.put o.dst (.slice (some ⟨w.heap.size, 0, none⟩) 0 n)) w') : wpList Tryd.prog ops Q (o :: rest) a w := by
  obtain ⟨i0, hi, hz0, hz1, hz2⟩ := info_parts info5
  refine wpList_make_own (P := Tryd.prog) w hgd l c 28 ho w.heap.size 5 i0 (.int .u8 0) 1 Tryd.underlying28 hi hz0 hz1 .i64 .i64 C n hl hc hC (by rw [hz2]; omega) (by simp only [maxLen]; omega) (Nat.le_refl _) ?_
  intro w' h1 h2
  exact h w' ⟨by simpa [cellsOf] using h1, by simp⟩ ((Below.refl _ _).grown h2 (Nat.le_refl _) (fun k hk => by cases hk))

/-- make([]byte, n) -/
theorem madeCells_zero (n : Nat) : (madeCells (Value.int .u8 0).cells (n * 1)).toList = cellsOf (List.replicate n 0) := by
  apply List.ext_getElem?
  intro k
  simp [madeCells, cellsOf, Value.cells]
  by_cases hk : k < n
  · simp [hk, Nat.mod_one]
  · simp [hk]
theorem wpList_make_zeros {w : World} {ops : Array Oper} {rest : List Oper} {o : Oper} {a : Act} {Q : Exit → Act → World → Prop} (hgd : o.guard = none) (l c : Operand)
    (ho : o.op = Op.makeSlice 28 l c) (n : Nat) (L C : Int) (hl : a.eval l = .int .i64 L) (hc : a.eval c = .int .i64 C) (hL : L = (n : Int)) (hC : C = (n : Int)) (hn : n ≤ 140737488355328)
    (h : ∀ w', Owns w' w.heap.size (.slice (some ⟨w.heap.size, 0, none⟩) n n) (List.replicate n 0) → Below w.heap.size w w' → wpList Tryd.prog ops Q rest (a.put o.dst (.slice (some ⟨w.heap.size, 0, none⟩) n n)) w') : wpList Tryd.prog ops Q (o :: rest) a w := by
  obtain ⟨i0, hi, hz0, hz1, hz2⟩ := info_parts info5
  refine wpList_make_full (P := Tryd.prog) w hgd l c 28 ho w.heap.size 5 i0 (.int .u8 0) 1 Tryd.underlying28 hi hz0 hz1 .i64 .i64 L C n hl hc hL hC (by rw [hz2]; omega) (by simp only [maxLen]; omega) (Nat.le_refl _) ?_
  intro w' h1 h2
  rw [madeCells_zero] at h1
  exact h w' ⟨by simpa using h1, by simp⟩ ((Below.refl _ _).grown h2 (Nat.le_refl _) (fun k hk => by cases hk))

/-- bytes as a text -/
theorem conv_string (w : World) (a : Option Addr) (n cap : Nat) (zs : List Int) (hn : n = zs.length) (hb : BytesAt w a zs) : (convert 28 9 (.slice a n cap)).run Tryd.prog w = .ok (.string (strOfNums zs)) w := by
  subst hn
  rcases hb with rfl | ⟨b, off, rfl, hc⟩
  · cases a with
    | none => exact run_convert_bytes_nil w 28 5 Tryd.underlying28 Tryd.underlying5 0 cap 9 Tryd.underlying9
    | some ad =>
      rw [run_convert_bytes_string w 28 9 5 _ _ _ Tryd.underlying28 Tryd.underlying5 Tryd.underlying9]
      have hl : (loadCells ad 0).run Tryd.prog w = .ok (([] : List Int).map (Value.int .u8)).toArray w := run_loadCells_list (P := Tryd.prog) w ad [] (fun j v hj => by simp at hj)
      exact run_bytesToString w ad 0 cap [] hl
  · exact run_convert_bytes_arg w 28 5 Tryd.underlying28 Tryd.underlying5 b off zs.length cap zs rfl hc 9 Tryd.underlying9
theorem below_drewN {B : Nat} {a w : World} (h : Below B a w) (q : Nat) : Below B a (w.drewN q) := ⟨h.os, h.tape, h.output, h.size, h.block⟩
theorem bytesAt_drewN {w : World} {a : Option Addr} {zs : List Int} (h : BytesAt w a zs) (nq : Nat) : BytesAt (w.drewN nq) a zs := bytesAt_later (below_drewN (Below.refl _ _) nq) h
theorem strOf_str (t : ByteArray) : strOfNums (Rec.str t) = t := by
  have e : (strOfNums (Rec.str t)).data.toList = t.data.toList := by
    rw [strOfNums_data]; simp [Rec.str, List.map_map, Function.comp_def]
  have e2 := Array.toList_inj.1 e
  cases t
  exact congrArg ByteArray.mk e2
theorem str_strOf {zs : List Int} (h : Rec.Bs zs) : Rec.str (strOfNums zs) = zs := by
  unfold Rec.str
  rw [strOfNums_data, List.map_map]
  apply List.ext_getElem (by simp)
  intro k hk _
  have hz := h _ (List.getElem_mem (by simpa using hk))
  simp
  omega
theorem strOf_inj {a b : List Int} (ha : Rec.Bs a) (hb : Rec.Bs b) (h : strOfNums a = strOfNums b) : a = b := by
  rw [← str_strOf ha, ← str_strOf hb, h]
end Go.Proofs.YtdngileimmgdnaaDoor
