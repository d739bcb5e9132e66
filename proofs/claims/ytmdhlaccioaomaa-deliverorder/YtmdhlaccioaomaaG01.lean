/- Slices as they are read; append; maps, in memory. -/
import Derived.Test.YtmdhlaccioaomaaG00
import Derived.Deep.DeepAppendWide
import Derived.Deep.AppendSrc
import Derived.DeepKeys4
import Derived.Maps.OwnSet
import Derived.Maps.Views
namespace Go.Proofs.Ytmdhlaccioaomaa
open Go.RowKit Go.Maps

def nilV : Value := .slice none 0 0
theorem lt_of_cell {w : World} {b j : Nat} {v : Value} (h : w.cell? ⟨b, j, none⟩ = some v) : b < w.heap.size := World.block_lt_of_cell? w _ h
/-- A SLICE OF ONE-CELL THINGS IS READ SO. -/
def LAt (w : World) (V : Value) (xs : List Value) : Prop :=
  ∃ a c, V = .slice a xs.length c ∧ xs.length ≤ c ∧ c ≤ 9223372036854775807 ∧ (xs = [] ∨ ∃ b off, a = some ⟨b, off, none⟩ ∧ ∀ k v, xs[k]? = some v → w.cell? ⟨b, off + k, none⟩ = some v)
theorem LAt.keep {w w' : World} {V : Value} {xs : List Value} (h : LAt w V xs) (hk : ∀ b o v, w.cell? ⟨b, o, none⟩ = some v → w'.cell? ⟨b, o, none⟩ = some v) : LAt w' V xs := by
  obtain ⟨a, c, e, h1, h2, h3⟩ := h
  refine ⟨a, c, e, h1, h2, ?_⟩
  rcases h3 with h3 | ⟨b, off, ea, hc⟩
  · exact .inl h3
  · exact .inr ⟨b, off, ea, fun k v hv => hk b _ v (hc k v hv)⟩
theorem cell_later {w w' : World} (hb : Below w.heap.size w w') : ∀ b o v, w.cell? ⟨b, o, none⟩ = some v → w'.cell? ⟨b, o, none⟩ = some v := fun b o v h => by
  rw [hb.cell (p := ⟨b, o, none⟩) (World.block_lt_of_cell? w _ h)]; exact h
theorem LAt.later {w w' : World} {V : Value} {xs : List Value} (h : LAt w V xs) (hb : Below w.heap.size w w') : LAt w' V xs := h.keep (cell_later hb)
theorem LAt.one {w : World} {V : Value} {xs : List Value} (h : LAt w V xs) : V.oneCell' = true := by
  obtain ⟨a, c, rfl, _⟩ := h
  rfl
/-- its parts, where it is not empty -/
theorem LAt.open {w : World} {V : Value} {xs : List Value} (h : LAt w V xs) : ∃ a c, V = .slice a xs.length c ∧ xs.length ≤ c ∧ c ≤ 9223372036854775807 ∧ (∀ k v, xs[k]? = some v → ∃ b off, a = some ⟨b, off, none⟩ ∧ w.cell? ⟨b, off + k, none⟩ = some v) := by
  obtain ⟨a, c, e, h1, h2, h3⟩ := h
  refine ⟨a, c, e, h1, h2, fun k v hv => ?_⟩
  rcases h3 with rfl | ⟨b, off, ea, hc⟩
  · simp at hv
  · exact ⟨b, off, ea, hc k v hv⟩
theorem lat_nil (w : World) : LAt w nilV [] := ⟨none, 0, rfl, Nat.le_refl _, by omega, .inl rfl⟩
def Here (w : World) (V V' : Value) : Prop := ∀ b, V'.ownBlock = some b → V.ownBlock = some b ∨ w.heap.size ≤ b
theorem run_append_lat (w : World) (t e ty : TypeId) (z : Value) (bts : Nat) (ht : Try.prog.underlying t = some (.slice e)) (hin : (Try.prog.info? e).map (fun i => (i.zero, i.size, i.bytes)) = some (some z, 1, bts)) (hzc : z.cells.size = 1)
    (B : Nat) (V : Value) (n : Nat) (xs : List Value) (hown : w.ownsRow B e 1 V n xs) (Y : Value) (ys : List Value) (hY : LAt w Y ys) (h1 : ∀ u ∈ ys, u.oneCell' = true)
    (h63 : n + ys.length ≤ maxLen) (hb : ((n + ys.length) + (n + ys.length) / 4 + 192) * bts ≤ 281474976710656) (hB : B ≤ w.heap.size) :
    ∃ V' w', (Builtin.append_ #[t, t] ty #[V, Y]).run Try.prog w = .ok V' w' ∧ w'.ownsRow B e 1 V' (n + ys.length) (xs ++ ys) ∧ w.grownBy w' V.ownBlock ∧ (V' = .slice none 0 0 ↔ V = .slice none 0 0 ∧ ys.length = 0) ∧ Here w V V' := by
  obtain ⟨i0, hi, hz0, hz1, hz2⟩ := info_parts hin
  obtain ⟨a, c, rfl, _, _, h3⟩ := hY
  have rf : w.grownBy w V.ownBlock := ⟨rfl, rfl, rfl, Nat.le_refl _, fun _ _ _ => rfl⟩
  by_cases hys : ys = []
  · subst hys
    rcases hown.2 with ⟨rfl, hn0⟩ | ⟨g, cap, cur, rfl, hBg, hg, hc, rest⟩
    · subst hn0
      refine ⟨.slice none 0 0, w, ?_, by simpa using hown, rf, by simp, fun b hb => by simp [Value.ownBlock] at hb⟩
      cases a with
      | none => simp [Builtin.append_, run_underlying ht, sizeOf, typeInfo, hi, Builtin.lenOf, Builtin.firstCells]
      | some ad => simp [Builtin.append_, run_underlying ht, sizeOf, typeInfo, hi, Builtin.lenOf, Builtin.firstCells, loadCells, loadCellsFrom]
    · have hs : Src Try.prog i0.size t (.slice a 0 c) 0 [] w := by
        cases a with
        | none => exact Src.ofNil w ht c
        | some ad => exact Src.ofSlice w ht ad 0 c [] (by simp) (fun j u hj => by simp at hj) (fun u hu => by cases hu)
      have hr := run_append_room_src (P := Try.prog) w t t ty e i0 ht hi g 0 n cap (.slice a 0 c) 0 [] hs (by omega) (fun j hj => by simp at hj) (fun j hj => by simp at hj)
      exact ⟨_, _, hr, by simpa [World.setCells] using hown, by simpa [World.setCells] using rf, by simp, fun b hb => .inl hb⟩
  · obtain ⟨b, off, rfl, hc⟩ : ∃ b off, a = some ⟨b, off, none⟩ ∧ ∀ k v, ys[k]? = some v → w.cell? ⟨b, off + k, none⟩ = some v := by
      rcases h3 with h3 | h3
      · exact absurd h3 hys
      · exact h3
    have hnews : ∀ j u, ys[j]? = some u → w.cell? ((⟨b, off, none⟩ : Addr).add j) = some u := fun j u hj => by
      rw [Go.WideShapes.add_plain]
      exact hc j u hj
    obtain ⟨V', w', hr, ho, hg, hn⟩ := run_append_own_wide (P := Try.prog) w B t ty e i0 z 1 bts ht hi hz0 hz1 hz2 hzc (by decide) V n xs hown ⟨b, off, none⟩ ys.length c ys (by simp) hnews h1 h63 hb hB
    refine ⟨V', w', hr, ho, hg, hn, fun bb hbb => ?_⟩
    rcases hown.2 with ⟨rfl, hn0⟩ | ⟨g, cap, cur, rfl, hBg, hgc, hcc, hm, hcs, htk⟩
    · obtain ⟨V2, w2, hr2, ho2, _⟩ := run_append_own_wide (P := Try.prog) w w.heap.size t ty e i0 z 1 bts ht hi hz0 hz1 hz2 hzc (by decide) (.slice none 0 0) n xs ⟨hown.1, .inl ⟨rfl, hn0⟩⟩ ⟨b, off, none⟩ ys.length c ys (by simp) hnews h1 h63 hb (Nat.le_refl _)
      rw [hr] at hr2
      cases hr2
      rcases ho2.2 with ⟨rfl, _⟩ | ⟨g2, cap2, cur2, rfl, hBg2, _⟩
      · simp [Value.ownBlock] at hbb
      · simp [Value.ownBlock] at hbb
        subst hbb
        exact .inr hBg2
    · by_cases hroom : n + ys.length ≤ cap
      · have hr2 := run_append_room (P := Try.prog) w t ty e i0 ht hi g n cap cur hgc ⟨b, off, none⟩ ys.length c ys (by rw [hz1]; simp) hnews h1 hroom (by rw [hz1, hcs]; omega)
        rw [hr] at hr2
        cases hr2
        exact .inl hbb
      · have holds : ∀ j u, xs[j]? = some u → w.cell? ((⟨g, 0, none⟩ : Addr).add j) = some u := hown.cells (g := g) rfl
        have hr2 := run_append_grow (P := Try.prog) w t ty e i0 z ht hi hz0 ⟨g, 0, none⟩ n cap xs (by rw [hz1]; exact hown.1) holds ⟨b, off, none⟩ ys.length c ys (by rw [hz1]; simp) hnews (by omega) (by simp only [maxLen] at h63; omega) (growslice_fits_wide (by omega) (by rw [hz2]; exact hb))
        rw [hr] at hr2
        cases hr2
        simp [Value.ownBlock] at hbb
        subst hbb
        exact .inr (Nat.le_refl _)
theorem wpList_append_lat {w : World} {ops : Array Oper} {rest : List Oper} {o : Oper} {a : Act} {Q : Exit → Act → World → Prop} (hgd : o.guard = none) (s x : Operand) {t e : TypeId}
    (ho : o.op = .call { callee := .builtin .append, args := #[s, x], argTypes := #[t, t] }) (z : Value) (bts : Nat) (ht : Try.prog.underlying t = some (.slice e)) (hin : (Try.prog.info? e).map (fun i => (i.zero, i.size, i.bytes)) = some (some z, 1, bts)) (hzc : z.cells.size = 1)
    (B : Nat) (V : Value) (n : Nat) (xs : List Value) (hs : a.eval s = V) (hown : w.ownsRow B e 1 V n xs) (Y : Value) (ys : List Value) (hx : a.eval x = Y) (hY : LAt w Y ys) (h1 : ∀ u ∈ ys, u.oneCell' = true)
    (h63 : n + ys.length ≤ maxLen) (hb : ((n + ys.length) + (n + ys.length) / 4 + 192) * bts ≤ 281474976710656) (hB : B ≤ w.heap.size)
    (h : ∀ V' w', w'.ownsRow B e 1 V' (n + ys.length) (xs ++ ys) → w.grownBy w' V.ownBlock → (V' = .slice none 0 0 ↔ V = .slice none 0 0 ∧ ys.length = 0) → Here w V V' → wpList Try.prog ops Q rest (a.put o.dst V') w') : wpList Try.prog ops Q (o :: rest) a w := by
  refine wpList_plain hgd fun K hK => ?_
  obtain ⟨V', w', hr, h2, h3, h4, h5⟩ := run_append_lat w t e o.type z bts ht hin hzc B V n xs hown Y ys hY h1 h63 hb hB
  unfold Oper.wp execOp
  simp only [ho, resolve, invoke, builtin, Sem.run_bind, Sem.run_pure, Result.andThen_ok, List.map_toArray, List.map_cons, List.map_nil, hs, hx, hr]
  exact hK _ _ (h V' w' h2 h3 h4 h5)
/-- a slice that was just built of one thing -/
theorem lat_lit (w : World) (v : Value) (t : TypeId) (fr : Nat × Nat) : LAt (w.alloc (.cells #[v] t fr)) (.slice (some ⟨w.heap.size, 0, none⟩) 1 1) [v] := by
  refine ⟨_, 1, rfl, Nat.le_refl _, by omega, .inr ⟨w.heap.size, 0, rfl, fun k x hx => ?_⟩⟩
  rw [World.cell?_alloc_mark]
  simpa using hx
/-- what is owned is read so -/
theorem owns_lat {w : World} {B : Nat} {e : TypeId} {V : Value} {n : Nat} {xs : List Value} (h : w.ownsRow B e 1 V n xs): LAt w V xs := by
  have hl : xs.length = n := by have := h.1; omega
  rcases h.2 with ⟨rfl, h0⟩ | ⟨g, cap, cur, rfl, hBg, hg, h1, h2, h3, h4⟩
  · exact ⟨none, 0, by rw [hl, h0], by omega, by omega, .inl (List.eq_nil_of_length_eq_zero (by omega))⟩
  · refine ⟨some ⟨g, 0, none⟩, cap, by rw [hl], by omega, by simp only [maxLen] at h2; omega, .inr ⟨g, 0, rfl, fun k v hv => ?_⟩⟩
    have hk : k < n := by have := (List.getElem?_eq_some_iff.1 hv).1; omega
    have := h.cellAt k (by omega)
    rw [Nat.zero_add, this]
    exact hv
/-- an element reads as itself -/
def rawR (v : Value) : Option (DataW Value × List MemPlace) := some (.held v, [])
section
variable {K : Type} (kt : TypeId) (kv : K → Value) (good : K → Prop)
noncomputable def klit (k : K) : Lit := (keyOf Try.prog kt (kv k)).getD (.bool false)
/-- BLOCK B IS A MAP of at most n entries: F tells what lies at a key. -/
def MapB (z : Value) (w : World) (B n : Nat) (F : K → Option Value) : Prop :=
  ∃ D : DataW Value, w.ownsMap Try.prog kt rawR B n D ∧ IsMap D ∧ ∀ k, good k → Maps.has D (klit kt kv k) = (F k).isSome ∧ D.atKey (klit kt kv k) (.held z) = .held ((F k).getD z)
variable {kt kv good} {z : Value} {w : World} {B n : Nat} {F : K → Option Value}
theorem MapB.lt (h : MapB kt kv good z w B n F) : B < w.heap.size := by obtain ⟨D, h1, _⟩ := h; exact h1.lt
theorem MapB.same {w' : World} (h : MapB kt kv good z w B n F) (e : w'.heap[B]? = w.heap[B]?) : MapB kt kv good z w' B n F := by
  obtain ⟨D, ⟨es, clock, hb, rest⟩, h2⟩ := h
  exact ⟨D, ⟨es, clock, e.trans hb, rest⟩, h2⟩
theorem MapB.isMap (h : MapB kt kv good z w B n F) : ∃ es c, w.heap[B]? = some (.map es c) := by
  obtain ⟨D, ⟨es, clock, hb, rest⟩, h2⟩ := h
  exact ⟨es, clock, hb⟩
theorem mapB_made (w : World) (kt : TypeId) (kv : K → Value) (good : K → Prop) (z : Value) : MapB kt kv good z (w.alloc (.map #[] 0)) w.heap.size 0 (fun _ => none) :=
  ⟨.map [], World.ownsMap_made w Try.prog kt rawR, isMap_empty, fun _ _ => ⟨rfl, rfl⟩⟩
theorem MapB.get {mt e : TypeId} (h : MapB kt kv good z w B n F) (KD : Keyed Try.prog kt) (ht : Try.prog.underlying mt = some (.map kt e)) (hz : (zeroValue e).run Try.prog w = .ok z w) {k : K} (hg : good k) (hk : keyOf Try.prog kt (kv k) = some (klit kt kv k)) :
    (Instr.lookup mt (.map (some B)) (kv k) false).run Try.prog w = .ok ((F k).getD z) w := by
  obtain ⟨D, hD, _, hF⟩ := h
  obtain ⟨v, ps, hrun, hv⟩ := hD.lookup KD ht hz (zd := .held z) (zp := []) rfl hk
  obtain ⟨h1, h2⟩ := hF k hg
  rw [h2] at hv
  unfold rawR at hv
  cases hv
  exact hrun
set_option maxRecDepth 20000 in
theorem MapB.put [DecidableEq K] {mt e : TypeId} (h : MapB kt kv good z w B n F) (KD : Keyed Try.prog kt) (ht : Try.prog.underlying mt = some (.map kt e)) (hn : n < maxLen) {k : K} (hg : good k) (hkl : ∀ k, good k → keyOf Try.prog kt (kv k) = some (klit kt kv k)) (hinj : ∀ a b, kv a = kv b → a = b) (v : Value) :
    ∃ w', (Instr.mapUpdate mt (.map (some B)) (kv k) v).run Try.prog w = .ok () w' ∧ MapB kt kv good z w' B (n + 1) (fun y => if y = k then some v else F y) ∧ w.grownBy w' (some B) ∧ w'.heap.size = w.heap.size := by
  obtain ⟨D, hD, hm, hF⟩ := h
  obtain ⟨w', hrun, ho, hg2⟩ := hD.store KD ht hn (d := .held v) (ps := []) (hkl k hg) rfl
  have hsz : w'.heap.size = w.heap.size := by
    obtain ⟨es, clock, es', clock', hb, rfl⟩ := hg2
    simp [Go.ChangeMaps.setBlock]
  refine ⟨w', hrun, ⟨_, ho, hm.put _ _, fun y hy => ?_⟩, hg2.grown, hsz⟩
  by_cases e : y = k
  · subst e
    simp only [if_pos]
    exact ⟨has_put_same hm (KD.key (hkl y hg)) _, atKey_put_same hm (KD.key (hkl y hg)) _ _⟩
  · have hne : klit kt kv y ≠ klit kt kv k := fun h => e (hinj _ _ (KD.inj (hkl y hy) (by rw [h]; exact hkl k hg)))
    simp only [if_neg e]
    rw [has_put_other hne, atKey_put_other hne]
    exact hF y hy
set_option maxRecDepth 20000 in
theorem MapB.del [DecidableEq K] {mt e : TypeId} (h : MapB kt kv good z w B n F) (KD : Keyed Try.prog kt) (ht : Try.prog.underlying mt = some (.map kt e)) {k : K} (hg : good k) (hkl : ∀ k, good k → keyOf Try.prog kt (kv k) = some (klit kt kv k)) (hinj : ∀ a b, kv a = kv b → a = b) (ty : TypeId) :
    ∃ w', (Builtin.delete_ #[mt, kt] ty #[.map (some B), kv k]).run Try.prog w = .ok (.tuple #[]) w' ∧ MapB kt kv good z w' B n (fun y => if y = k then none else F y) ∧ w.grownBy w' (some B) ∧ w'.heap.size = w.heap.size := by
  obtain ⟨D, hD, hm, hF⟩ := h
  obtain ⟨w', hrun, ho, hg2⟩ := hD.drop KD ht (hkl k hg) ty
  have hsz : w'.heap.size = w.heap.size := by
    obtain ⟨es, clock, es', clock', hb, rfl⟩ := hg2
    simp [Go.ChangeMaps.setBlock]
  refine ⟨w', hrun, ⟨_, ho, hm.del _, fun y hy => ?_⟩, hg2.grown, hsz⟩
  by_cases e : y = k
  · subst e
    simp only [if_pos]
    exact ⟨has_del_same, atKey_del_same _⟩
  · have hne : klit kt kv y ≠ klit kt kv k := fun h => e (hinj _ _ (KD.inj (hkl y hy) (by rw [h]; exact hkl k hg)))
    simp only [if_neg e]
    rw [has_del_other hne, atKey_del_other hne]
    exact hF y hy
end
def kvS (s : ByteArray) : Value := .string s
def goodS (s : ByteArray) : Prop := s.size ≤ maxLen
theorem kvS_inj (a b : ByteArray) (h : kvS a = kvS b) : a = b := by unfold kvS at h; exact Value.string.inj h
set_option maxRecDepth 20000 in
theorem lawS : Keyed Try.prog 9 := string_keyed Try.underlying9
set_option maxRecDepth 20000 in
theorem keyS (s : ByteArray) (h : goodS s) : keyOf Try.prog 9 (kvS s) = some (klit 9 kvS s) := by
  have hs : (keyOf Try.prog 9 (kvS s)).isSome = true := by
    unfold goodS at h
    simp [keyOf, mapKey, Try.underlying9, kvS, h]
  unfold klit
  cases e : keyOf Try.prog 9 (kvS s) with
  | none => rw [e] at hs; cases hs
  | some l => rfl
/-! ### maps whose keys are numbers -/
def kvI (n : Int) : Value := .int .i64 n
def goodI (n : Int) : Prop := -9223372036854775808 ≤ n ∧ n ≤ 9223372036854775807
theorem kvI_inj (a b : Int) (h : kvI a = kvI b) : a = b := by unfold kvI at h; exact (Value.int.inj h).2
set_option maxRecDepth 20000 in
theorem lawI : Keyed Try.prog 3 := int_keyed Try.underlying3
set_option maxRecDepth 20000 in
theorem keyI (n : Int) (h : goodI n) : keyOf Try.prog 3 (kvI n) = some (klit 3 kvI n) := by
  have hs : (keyOf Try.prog 3 (kvI n)).isSome = true := by
    have hw : (Lit.int .i64 n).wf = true := by
      unfold goodI at h
      simp [Lit.wf, IntKind.min, IntKind.max, IntKind.signed, IntKind.bits]
      omega
    simp [keyOf, mapKey, Try.underlying3, kvI, hw]
  unfold klit
  cases e : keyOf Try.prog 3 (kvI n) with
  | none => rw [e] at hs; cases hs
  | some l => rfl
end Go.Proofs.Ytmdhlaccioaomaa
