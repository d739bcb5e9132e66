/- heronref12.number and Decode. -/
import Derived.Test.YtdngileimmgdnaaDoorG29
namespace Go.Proofs.YtdngileimmgdnaaDoor
open Go Go.RowKit
attribute [local go_sem ↓] Go.wp_at_zero Go.wp_at_succ

theorem vl_zero (zs : List Int) (p : Nat) : vl zs p 0 = 0 := by simp [vl, Rec.val]
theorem vl_cons {zs : List Int} {p : Nat} (m : Nat) (h : p < zs.length) : vl zs p (m + 1) = (zs.getD p 0).toNat + 256 * vl zs (p + 1) m := by
  unfold vl
  rw [List.drop_eq_getElem_cons h, List.take_succ_cons, Rec.val, List.getD_eq_getElem?_getD, List.getElem?_eq_getElem h]
  rfl
set_option maxHeartbeats 1000000 in
theorem rnumber_any (a : Option Addr) (n cap p k : Nat) (zs : List Int) (w : World) (hn : n = zs.length) (hl : n ≤ 4000000) (hc : BytesAt w a zs) (hb : Rec.Bs zs) (hk1 : 1 ≤ k) (hk : k ≤ 4) (hp : p + k ≤ n) :
    Calls Tryd.prog 32 #[.slice a n cap, .int .i64 (p : Nat), .int .i64 (k : Nat)] w fun e w' => e = .returned (.int .i64 (vl zs p k : Nat)) ∧ w' = w := by
  obtain ⟨b, off, rfl, hcell⟩ : ∃ b off, a = some ⟨b, off, none⟩ ∧ ∀ j, j < zs.length → w.cell? ⟨b, off + j, none⟩ = some (.int .u8 (zs.getD j 0)) := by
    rcases hc with h | h
    · rw [h] at hn; simp at hn; omega
    · exact h
  have HC : Hid (∀ j, j < zs.length → w.cell? ⟨b, off + j, none⟩ = some (.int .u8 (zs.getD j 0))) := hcell
  have HB : Hid (Rec.Bs zs) := hb
  have HN : Hid (n = zs.length) := hn
  clear hcell hb hn hc
  go_enter Tryd.func32, Tryd.ntmps32
  go_wp2
  go_loop [7, 8] (fun v i => ∃ j : Nat, j ≤ k ∧ i = .int .i64 ((j : Int) - 1) ∧ v = .int .i64 (vl zs (p + j) (k - j) : Nat)) (fun _ i => (intOf i + 1).toNat)
  case atStart => exact ⟨k, Nat.le_refl _, rfl, by rw [Nat.sub_self, vl_zero]; rfl⟩
  case round =>
    obtain ⟨j, hj, rfl, rfl⟩ := hrel
    by_cases hj0 : j = 0
    · subst hj0
      have HV : Hid (vl zs (p + 0) (k - 0) = vl zs p k) := rfl
      obtain ⟨V, hV⟩ : ∃ V, vl zs (p + 0) (k - 0) = V := ⟨_, rfl⟩
      rw [hV] at HV ⊢
      clear hV
      go_wp2
      go_ret
      exact ⟨ret_int (by rw [HV.out]), rfl⟩
    · obtain ⟨i, rfl⟩ : ∃ i, j = i + 1 := ⟨j - 1, by omega⟩
      have hpi : p + i < zs.length := by have := HN.out; omega
      have hcl := HC.out (p + i) hpi
      have hbd := Rec.bs_at HB.out hpi
      have hlt := vl_lt HB.out (p + (i + 1)) (k - (i + 1))
      have hpow : 256 ^ (k - (i + 1)) ≤ 256 ^ 3 := Nat.pow_le_pow_right (by decide) (by omega)
      have hstep : vl zs (p + i) (k - i) = (zs.getD (p + i) 0).toNat + 256 * vl zs (p + (i + 1)) (k - (i + 1)) := by
        have := vl_cons (k - (i + 1)) hpi
        rw [show k - (i + 1) + 1 = k - i by omega] at this
        exact this
      obtain ⟨z, hz⟩ : ∃ z : Nat, zs.getD (p + i) 0 = (z : Int) := ⟨(zs.getD (p + i) 0).toNat, by omega⟩
      rw [hz] at hcl hbd hstep
      obtain ⟨V, hV⟩ : ∃ V, vl zs (p + (i + 1)) (k - (i + 1)) = V := ⟨_, rfl⟩
      rw [hV] at hlt hstep ⊢
      have HST : Hid (vl zs (p + i) (k - i) = z + 256 * V) := by show _ = _; rw [hstep]; simp
      have hV2 : V < 16777216 := Nat.lt_of_lt_of_le hlt (by simpa using hpow)
      have hidx : ((p : Int) + ((i : Int) + 1 - 1)) = ((p + i : Nat) : Int) := by omega
      have hsum : ((i : Int) + 1 - 1) = (i : Int) := by omega
      have hi1 : (((i + 1 : Nat) : Int) - 1) = (i : Int) := by omega
      rw [hi1]
      obtain ⟨q, hq⟩ : ∃ q, p + i = q := ⟨_, rfl⟩
      have hpq : (p : Int) + (i : Int) = (q : Int) := by omega
      have hqn : (q : Int) < (n : Int) := by have := HN.out; omega
      rw [show off + (p + i) = off + q by omega] at hcl
      clear hz hV hlt hpow hstep hidx hsum hi1 hq hj0 hpi
      go_wp2
      go_round
      case rel => exact ⟨i, by omega, by go_num, by rw [HST.out]; go_num⟩
      case measure => simp [intOf]
theorem dv_setlo (f : Nat → Int) (V1 V2 V3 : Value) {i : Nat} (h : i < 256) (z : Int) : (dv f V1 V2 V3).setIfInBounds i (.int .i64 z) = dv (fun j => if j = i then z else f j) V1 V2 V3 := by
  apply Array.ext_getElem?
  intro k
  rw [Array.getElem?_setIfInBounds]
  by_cases e : i = k
  · subst e
    rw [if_pos rfl, if_pos (by rw [dv_size]; omega), dv_lo _ _ _ _ h]
    simp
  · rw [if_neg e]
    by_cases hk : k < 256
    · rw [dv_lo _ _ _ _ hk, dv_lo _ _ _ _ hk]
      have : ¬ k = i := fun x => e x.symm
      simp [this]
    · obtain ⟨j, rfl⟩ : ∃ j, k = 256 + j := ⟨k - 256, by omega⟩
      rw [dv_hi, dv_hi]
theorem DB.clsP {w : World} {D : Nat} {f : Nat → Int} {V1 V2 V3 : Value} (h : DB w D f V1 V2 V3) {i : Nat} (hi : i < 256) (z : Int) : DB (w.setCell ⟨D, i, none⟩ (.int .i64 z)) D (fun j => if j = i then z else f j) V1 V2 V3 := by
  unfold DB
  rw [heap_set h, dv_setlo f V1 V2 V3 hi z]
/-- append to row i, and what stands -/
theorem wpList_append_famg {w : World} {ops : Array Oper} {rest : List Oper} {o : Oper} {a : Act} {Q : Exit → Act → World → Prop} (hgd : o.guard = none) (s x : Operand) {t e : TypeId}
    (ho : o.op = .call { callee := .builtin .append, args := #[s, x], argTypes := #[t, t] }) (z : Value) (bts : Nat) (ht : Tryd.prog.underlying t = some (.slice e)) (hin : (Tryd.prog.info? e).map (fun i => (i.zero, i.size, i.bytes)) = some (some z, 1, bts)) (hzc : z.cells.size = 1)
    (A : Nat) (F : Nat → Option Rw) (hF : Fam A w F) (hA : A ≤ w.heap.size) (i : Nat) (V : Value) (xs : List Value) (hi : F i = some (e, V, xs)) (hs : a.eval s = V) (Y : Value) (ys : List Value) (hx : a.eval x = Y) (hY : LAt w Y ys) (h1 : ∀ u ∈ ys, u.oneCell' = true)
    (hb : xs.length + ys.length ≤ 4000000) (hbt : bts ≤ 24)
    (h : ∀ V' w', Fam A w' (upd F i (e, V', xs ++ ys)) → w.grownBy w' V.ownBlock → (V' = .slice none 0 0 ↔ V = .slice none 0 0 ∧ ys.length = 0) → wpList Tryd.prog ops Q rest (a.put o.dst V') w') : wpList Tryd.prog ops Q (o :: rest) a w := by
  refine wpList_append_lat hgd s x ho z bts ht hin hzc A V xs.length xs hs (hF.own i _ _ _ hi) Y ys hx hY h1 (by simp only [maxLen]; omega) ?_ hA ?_
  · have : ((xs.length + ys.length) + (xs.length + ys.length) / 4 + 192) * bts ≤ 6000000 * 24 := Nat.mul_le_mul (by omega) hbt
    omega
  · intro V' w' h2 h3 h4 h5
    exact h V' w' (hF.grown hi (by rw [List.length_append]; exact h2) h3 h5) h3 h4
/-- a table that is being made: its rows, and its block -/
structure Dd (w u : World) (T Z : Nat) (f : Nat → Int) (rows : List (Value × List Int)) (Xs : List Value) (V1 V2 V3 : Value) (fo en : List Nat) : Prop where
  fam : Fam w.heap.size u (fm [] rows (V1, Xs) (V2, fo) (V3, en))
  db : DB u T f V1 V2 V3
  res : DB u Z (fun _ => 0) nilV nilV nilV
  low : Below w.heap.size w u
  hT : w.heap.size ≤ T
section
variable {w u v : World} {T Z : Nat} {f : Nat → Int} {rows : List (Value × List Int)} {Xs : List Value} {V1 V2 V3 : Value} {fo en : List Nat}
theorem fm_types {i : Nat} {t : TypeId} {x : Value} {xs : List Value} (h : fm [] rows (V1, Xs) (V2, fo) (V3, en) i = some (t, x, xs)) : t ≠ 26 := by
  unfold fm at h
  split at h
  · simp at h
  · split at h
    · simp at h; rw [← h.1]; decide
    · split at h
      · simp at h; rw [← h.1]; decide
      · split at h
        · simp at h; rw [← h.1]; decide
        · cases hr : rows[i - 7]? with
          | none => rw [hr] at h; simp at h
          | some p => rw [hr] at h; simp at h; rw [← h.1]; decide
theorem Dd.later (h : Dd w u T Z f rows Xs V1 V2 V3 fo en) (hb : Below u.heap.size u v) : Dd w v T Z f rows Xs V1 V2 V3 fo en := ⟨h.fam.later hb, h.db.later hb, h.res.later hb, below_step h.low hb, h.hT⟩
/-- a cell of the table's block -/
theorem Dd.famT (h : Dd w u T Z f rows Xs V1 V2 V3 fo en) (j : Nat) (x : Value) : Fam w.heap.size (u.setCell ⟨T, j, none⟩ x) (fm [] rows (V1, Xs) (V2, fo) (V3, en)) :=
  h.fam.keep (fun i t y ys b hi hb => Below.heap_setCell u ⟨T, j, none⟩ x b (fun e => by
    have e' : b = T := e
    have h1 := (own_at (h.fam.own i t y ys hi) b hb).2.2
    rw [e'] at h1
    exact fm_types hi (TyB.ne h1 h.db.ty)))
theorem Dd.cls (h : Dd w u T Z f rows Xs V1 V2 V3 fo en) (hZ : Z ≠ T) {i : Nat} (hi : i < 256) (z : Int) : Dd w (u.setCell ⟨T, i, none⟩ (.int .i64 z)) T Z (fun j => if j = i then z else f j) rows Xs V1 V2 V3 fo en :=
  ⟨h.famT i _, h.db.clsP hi z, h.res.same (Below.heap_setCell u ⟨T, i, none⟩ _ Z hZ), h.low.setCell (p := ⟨T, i, none⟩) h.hT _, h.hT⟩
/-- what an append leaves -/
theorem Dd.side (h : Dd w u T Z f rows Xs V1 V2 V3 fo en) {i : Nat} {t : TypeId} {x : Value} {xs : List Value} (hi : fm [] rows (V1, Xs) (V2, fo) (V3, en) i = some (t, x, xs)) (hg : u.grownBy v x.ownBlock) : DB v T f V1 V2 V3 ∧ DB v Z (fun _ => 0) nilV nilV nilV ∧ Below w.heap.size w v := by
  have ho := h.fam.own i _ _ _ hi
  have ht := fm_types hi
  refine ⟨h.db.same (hg.block T h.db.lt (fun e => ht (TyB.ne (own_at ho T e.symm).2.2 h.db.ty))), h.res.same (hg.block Z h.res.lt (fun e => ht (TyB.ne (own_at ho Z e.symm).2.2 h.res.ty))), h.low.grown hg h.low.size (fun k hk => (own_at ho k hk).1)⟩
end
end Go.Proofs.YtdngileimmgdnaaDoor
