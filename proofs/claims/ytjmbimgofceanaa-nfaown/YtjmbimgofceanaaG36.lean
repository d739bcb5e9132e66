/- NfaOwn: small laws ahead of its walk. -/
import Derived.Test.YtjmbimgofceanaaG20
import Derived.Test.YtjmbimgofceanaaG22
import Derived.Test.YtjmbimgofceanaaG27
import Derived.Test.YtjmbimgofceanaaG30
import Derived.Test.YtjmbimgofceanaaG35
namespace Go.Proofs.Ytjmbimgofceanaa
open Go.RowKit
attribute [local go_sem ↓] Go.wp_at_zero Go.wp_at_succ

/-- where a machine's lists lie -/
def Rng (lo hi : Nat) (y : Nf) : Prop := ∀ b, (Value.slice y.ea y.en y.ec).ownBlock = some b ∨ (Value.slice y.ra y.rn y.rc).ownBlock = some b → lo ≤ b ∧ b < hi
theorem Own.rng {w : World} {base : Nat} {M : Ma} {y : Nf} (h : Own w base M y) : Rng base w.heap.size y := by
  rintro b (e | e)
  · obtain ⟨h1, c, z, h2⟩ := h.2.1.ty b e
    exact ⟨h1, (Array.getElem?_eq_some_iff.1 h2).1⟩
  · obtain ⟨h1, c, z, h2⟩ := h.2.2.ty b e
    exact ⟨h1, (Array.getElem?_eq_some_iff.1 h2).1⟩
theorem Own.ma {w : World} {base : Nat} {M : Ma} {y : Nf} (h : Own w base M y) : MaAt (fun _ => True) w M y :=
  ⟨h.1, h.2.1.at.1, h.2.2.at.1, h.2.1.at.2.keep (fun _ _ _ => trivial) (fun _ _ _ => rfl), h.2.2.at.2.keep (fun _ _ _ => trivial) (fun _ _ _ => rfl)⟩
theorem two_list {w : World} {S : Nat} {M N : Ma} {x y : Nf} (hx : MaAt (fun _ => True) w M x) (hy : MaAt (fun _ => True) w N y) (hS : w.heap[S]? = some (.cells #[.int .i64 x.S, .slice x.ea x.en x.ec, .slice x.ra x.rn x.rc, .int .i64 y.S, .slice y.ea y.en y.ec, .slice y.ra y.rn y.rc] 38 (0, 0))) : ListAt w (some ⟨S, 0, none⟩) [M, N] [x, y] := by
  refine ⟨Or.inr ⟨S, 0, rfl, fun j v hj => ?_⟩, rfl, fun i M' x' hM hx' => ?_⟩
  · have e : flatM [x, y] = [.int .i64 x.S, .slice x.ea x.en x.ec, .slice x.ra x.rn x.rc, .int .i64 y.S, .slice y.ea y.en y.ec, .slice y.ra y.rn y.rc] := rfl
    rw [e] at hj
    simp [World.cell?, hS]
    simpa using hj
  · match i, hM, hx' with
    | 0, hM, hx' => cases hM; cases hx'; exact hx
    | 1, hM, hx' => cases hM; cases hx'; exact hy
theorem two_bounds {M N : Ma} (h1 : M.es.length ≤ 4096) (h2 : M.rs.length ≤ 4096) (h3 : N.es.length ≤ 4096) (h4 : N.rs.length ≤ 4096) : (unions [M, N] ⟨1, [], [0]⟩).es.length ≤ 10000 ∧ (unions [M, N] ⟨1, [], [0]⟩).rs.length ≤ 10000 := by
  simp only [unions, addM, List.length_append, List.length_map, List.length_cons, List.length_nil]
  omega
theorem union_two {M N : Ma} (h1 : M.es.length ≤ 4096) (h2 : M.rs.length ≤ 4096) (h3 : N.es.length ≤ 4096) (h4 : N.rs.length ≤ 4096) : (unionOf [M, N]).1.es.length ≤ 10000 ∧ (unionOf [M, N]).1.rs.length ≤ 10000 := by
  have h := two_bounds h1 h2 h3 h4
  unfold unionOf
  split
  · exact h
  · exact ⟨Nat.zero_le _, Nat.zero_le _⟩
theorem uni_any {M N : Ma} (h1 : M.es.length ≤ 4096) (h2 : M.rs.length ≤ 4096) (h3 : N.es.length ≤ 4096) (h4 : N.rs.length ≤ 4096) {w : World} {S : Nat} {x y : Nf} (hx : MaAt (fun _ => True) w M x) (hy : MaAt (fun _ => True) w N y) (hS : w.heap[S]? = some (.cells #[.int .i64 x.S, .slice x.ea x.en x.ec, .slice x.ra x.rn x.rc, .int .i64 y.S, .slice y.ea y.en y.ec, .slice y.ra y.rn y.rc] 38 (0, 0))) : Calls Try.prog 21 #[.slice (some ⟨S, 0, none⟩) 2 2] w fun e w' => Below w.heap.size w w' ∧ ∃ (y : Nf) (k : Int), e = .returned (.tuple #[y.val, .int .i64 k]) ∧ Own w' w.heap.size (unionOf [M, N]).1 y := by
  have hb := two_bounds h1 h2 h3 h4
  have h := punion_own (c := 2) w (two_list hx hy hS) (by show 2 ≤ _; omega) (by omega) (by omega)
  exact h.mono (fun _ _ ⟨g1, y, g2, g3⟩ => ⟨g1, y, _, g2, g3⟩)
theorem bui_any {t : Tn} {x : Nd} {w : World} (h : InAt w t x) (rule : Int) : Calls Try.prog 11 #[x.val, .int .i64 rule] w fun e w' => Below w.heap.size w w' ∧ ∃ (y : Nf) (k : Int), e = .returned (.tuple #[y.val, .int .i64 k]) ∧ Own w' w.heap.size (buildOf t rule).1 y :=
  (pbuild_own w h rule).mono (fun _ _ ⟨g1, y, g2, g3⟩ => ⟨g1, y, _, g2, g3⟩)
theorem fr10_put {act a : Act} (h : Fr10 act a) (hs : act.tmps.size = 322) {P Y : Value} (h17 : T a 17 = P) (h18 : T a 18 = Y) : ∃ v1 v2 v3 v4 : Value, a = ((((((act.put (some 17) P).put (some 18) Y).put (some 84) v1).put (some 85) v2).put (some 86) v3).put (some 87) v4) := by
  refine ⟨T a 84, T a 85, T a 86, T a 87, ?_⟩
  rw [← h17, ← h18]
  exact fr10_lit h hs
theorem NFB.cells_other {u : World} {P g o : Nat} {y : Nf} {vs : List Value} {T : TypeId} (h : NFB u P y) (hg : TyB u T g) (hT : T ≠ 38) : NFB (u.setCells g o vs) P y :=
  (World.heap_setCells_other u g o vs h.lt (fun e => hT (TyB.ne hg (e ▸ h.ty)))).trans h
theorem NFB.grown {u u' : World} {P : Nat} {y : Nf} (h : NFB u P y) {r : Option Nat} (hg : u.grownBy u' r) {T : TypeId} (hr : ∀ k, r = some k → TyB u T k) (hT : T ≠ 38) : NFB u' P y :=
  (hg.block P h.lt (fun e => hT (TyB.ne (hr P e.symm) h.ty))).trans h
theorem Alk.room {T : TypeId} {z : Nat} {u : World} {c : List Value} {m : Nat} {g n cap : Nat} (h : Alk T z u c m (.slice (some ⟨g, 0, none⟩) n cap)) {t q : Nat} (ht : t < n) (hq : q < z) : (∃ v, u.cell? ⟨g, t * z + q, none⟩ = some v) ∧ u.frozen? ⟨g, t * z + q, none⟩ = false := by
  rcases h with ⟨h, _⟩ | ⟨g', n', cap', cur, hv, hg, h1, h2, h3, h4, h5⟩
  · cases h
  · cases hv
    have hlt : t * z + q < cur.size := by
      have e : (t + 1) * z ≤ cap * z := Nat.mul_le_mul_right _ (by omega)
      rw [Nat.add_mul, Nat.one_mul] at e
      omega
    exact ⟨⟨cur[t * z + q], by simp [World.cell?, hg, hlt]⟩, by simp [World.frozen?, hg]⟩
/-- the list of the five, read -/
theorem Stay.lat {K : Kc} {u : World} (h : Stay K u) : LAt u (some ⟨K.LB, 0, none⟩) K.xs :=
  Or.inr ⟨K.LB, 0, rfl, fun j v hj => by
    rw [Nat.zero_add]
    simp [World.cell?, h.la]
    simpa using hj⟩
def eV (y : Nf) : Value := .slice y.ea y.en y.ec
def uV (y : Nf) : Value := .slice y.ra y.rn y.rc
def Ran (R : Nat → Nat × Nat) (xs : List Nf) : Prop := (∀ j j', j < j' → j' < xs.length → (R j).2 ≤ (R j').1) ∧ ∀ (j : Nat) (y : Nf), xs[j]? = some y → Rng (R j).1 (R j).2 y
theorem ran_sep {R : Nat → Nat × Nat} {xs : List Nf} (h : Ran R xs) {j j' : Nat} {y y' : Nf} {b : Nat} (hj : xs[j]? = some y) (hj' : xs[j']? = some y') (e : (eV y).ownBlock = some b ∨ (uV y).ownBlock = some b) (e' : (eV y').ownBlock = some b ∨ (uV y').ownBlock = some b) : j = j' := by
  have h1 := h.2 j y hj b e
  have h2 := h.2 j' y' hj' b e'
  have l1 := (List.getElem?_eq_some_iff.1 hj).1
  have l2 := (List.getElem?_eq_some_iff.1 hj').1
  rcases Nat.lt_trichotomy j j' with q | q | q
  · have := h.1 j j' q l2; omega
  · exact q
  · have := h.1 j' j q l1; omega
def R5 (a0 b0 a1 b1 a2 b2 a3 b3 a4 b4 : Nat) : Nat → Nat × Nat
  | 0 => (a0, b0)
  | 1 => (a1, b1)
  | 2 => (a2, b2)
  | 3 => (a3, b3)
  | _ => (a4, b4)
theorem r5_mono {a0 b0 a1 b1 a2 b2 a3 b3 a4 b4 : Nat} (h0 : b0 ≤ a1) (h1 : a1 ≤ b1) (h2 : b1 ≤ a2) (h3 : a2 ≤ b2) (h4 : b2 ≤ a3) (h5 : a3 ≤ b3) (h6 : b3 ≤ a4) (j j' : Nat) (hj : j < j') (hj' : j' < 5) : (R5 a0 b0 a1 b1 a2 b2 a3 b3 a4 b4 j).2 ≤ (R5 a0 b0 a1 b1 a2 b2 a3 b3 a4 b4 j').1 := by
  have h : (j = 0 ∧ j' = 1) ∨ (j = 0 ∧ j' = 2) ∨ (j = 0 ∧ j' = 3) ∨ (j = 0 ∧ j' = 4) ∨ (j = 1 ∧ j' = 2) ∨ (j = 1 ∧ j' = 3) ∨ (j = 1 ∧ j' = 4) ∨ (j = 2 ∧ j' = 3) ∨ (j = 2 ∧ j' = 4) ∨ (j = 3 ∧ j' = 4) := by omega
  rcases h with ⟨rfl, rfl⟩ | ⟨rfl, rfl⟩ | ⟨rfl, rfl⟩ | ⟨rfl, rfl⟩ | ⟨rfl, rfl⟩ | ⟨rfl, rfl⟩ | ⟨rfl, rfl⟩ | ⟨rfl, rfl⟩ | ⟨rfl, rfl⟩ | ⟨rfl, rfl⟩ <;> simp only [R5] <;> omega
def F0 (xs : List Nf) (V : Nf → Value) : Nat → Nat → Value → Prop := fun j m W => m = 0 ∧ ∃ y, xs[j]? = some y ∧ W = V y
theorem sf_begin {K : Kc} {u : World} (h : Stay K u) (R : Nat → Nat × Nat) (hR : Ran R K.xs) (ho : ∀ (j : Nat) (y : Nf), K.xs[j]? = some y → ∃ base M, Own u base M y) (hd : ∀ (j : Nat) (y : Nf) (b : Nat), K.xs[j]? = some y → (eV y).ownBlock = some b ∨ (uV y).ownBlock = some b → K.D b) : Sf K u (F0 K.xs eV) (F0 K.xs uV) := by
  refine ⟨h, ⟨?_, ?_, ?_⟩, ⟨?_, ?_, ?_⟩⟩
  · rintro j m V ⟨rfl, y, hy, rfl⟩
    obtain ⟨_, _, hO⟩ := ho j y hy
    exact hO.2.1.alk _
  · rintro j m V j' m' V' b ⟨_, y, hy, rfl⟩ ⟨_, y', hy', rfl⟩ e e'
    exact ran_sep hR hy hy' (Or.inl e) (Or.inl e')
  · rintro j m V b ⟨_, y, hy, rfl⟩ e
    exact hd j y b hy (Or.inl e)
  · rintro j m V ⟨rfl, y, hy, rfl⟩
    obtain ⟨_, _, hO⟩ := ho j y hy
    exact hO.2.2.alk _
  · rintro j m V j' m' V' b ⟨_, y, hy, rfl⟩ ⟨_, y', hy', rfl⟩ e e'
    exact ran_sep hR hy hy' (Or.inr e) (Or.inr e')
  · rintro j m V b ⟨_, y, hy, rfl⟩ e
    exact hd j y b hy (Or.inr e)
theorem five {j : Nat} {a b c d e : Nf} {P : Nat → Nf → Prop} (h0 : P 0 a) (h1 : P 1 b) (h2 : P 2 c) (h3 : P 3 d) (h4 : P 4 e) {y : Nf} (h : [a, b, c, d, e][j]? = some y) : P j y := by
  match j, h with
  | 0, h => cases h; exact h0
  | 1, h => cases h; exact h1
  | 2, h => cases h; exact h2
  | 3, h => cases h; exact h3
  | 4, h => cases h; exact h4
theorem fg_step {xs : List Nf} {F F' : Nat → Nat → Value → Prop} {k : Nat} {y : Nf} {V : Nf → Value} {f : Nf → Nat} (h : ∀ (j : Nat) (y : Nf), xs[j]? = some y → F j (if j < k then f y else 0) (V y)) (hs : ∀ j n W, F j n W → F' j n W) (hy : xs[k]? = some y) (hF : F' k (f y) (V y)) : ∀ (j : Nat) (y : Nf), xs[j]? = some y → F' j (if j < k + 1 then f y else 0) (V y) := by
  intro j y' hj
  by_cases e : j = k
  · subst e
    rw [hy] at hj
    cases hj
    rw [if_pos (by omega)]
    exact hF
  · have h1 := hs _ _ _ (h j y' hj)
    by_cases e2 : j < k
    · rw [if_pos e2] at h1
      rw [if_pos (by omega)]
      exact h1
    · rw [if_neg e2] at h1
      rw [if_neg (by omega)]
      exact h1
def put7 (w : World) (g o c : Nat) : World := ((((((w.setCell ⟨g, o, none⟩ (.int .i64 (c : Nat))).setCell ⟨g, o + 1, none⟩ (.int .i64 0)).setCell ⟨g, o + 2, none⟩ (.int .i64 0)).setCell ⟨g, o + 3, none⟩ (.int .u64 0)).setCell ⟨g, o + 4, none⟩ (.int .u64 0)).setCell ⟨g, o + 5, none⟩ (.int .u64 0)).setCell ⟨g, o + 6, none⟩ (.int .u64 0)
theorem put7_eq (w : World) (g o k c : Nat) (h : 50 + k = c) : w.setCells g o (egs k) = put7 w g o c := by subst h; rfl
theorem put1_eq (w : World) (g o k c : Nat) (h : 50 + k = c) : w.setCells g (o * 1) (wgs k) = w.setCell ⟨g, o, none⟩ (.int .u32 (c : Nat)) := by subst h; rw [Nat.mul_one]; rfl
theorem cells_newl (w : World) (cs : List Value) (T : TypeId) : ∀ (j : Nat) (v : Value), cs[j]? = some v → (w.alloc (.cells cs.toArray T)).cell? ((⟨w.heap.size, 0, none⟩ : Addr).add j) = some v := by
  intro j v hj
  rw [Go.WideShapes.add_plain, Nat.zero_add]
  have h := heap_alloc_new w (.cells cs.toArray T)
  unfold World.cell?
  rw [h]
  simpa using hj
theorem egs_eq {k c : Nat} (h : 50 + k = c) : egs k = [.int .i64 (c : Nat), .int .i64 0, .int .i64 0, .int .u64 0, .int .u64 0, .int .u64 0, .int .u64 0] := by subst h; rfl
theorem wgs_eq {k c : Nat} (h : 50 + k = c) : wgs k = [.int .u32 (c : Nat)] := by subst h; rfl
/-- the grown lists so far -/
def Grown (xs : List Nf) (f : Nf → Nat) (F : Nat → Nat → Value → Prop) (k : Nat) (ls : List Value) : Prop := ∀ (j : Nat) (y : Nf), xs[j]? = some y → j < k → ∃ a c, ls[j]? = some (.slice a (f y + 40) c) ∧ F j (f y + 40) (.slice a (f y + 40) c)
theorem grown_step {xs : List Nf} {f : Nf → Nat} {F F' : Nat → Nat → Value → Prop} {k : Nat} {ls : List Value} (h : Grown xs f F k ls) (hs : ∀ j n W, F j n W → F' j n W) (hl : ls.length = k) {y : Nf} (hy : xs[k]? = some y) {a : Option Addr} {c : Nat} (hF : F' k (f y + 40) (.slice a (f y + 40) c)) : Grown xs f F' (k + 1) (ls ++ [.slice a (f y + 40) c]) := by
  intro j y' hj hlt
  by_cases e : j = k
  · subst e
    rw [hy] at hj
    cases hj
    exact ⟨a, c, by rw [List.getElem?_append_right (by omega), hl, Nat.sub_self]; rfl, hF⟩
  · obtain ⟨a', c', h1, h2⟩ := h j y' hj (by omega)
    exact ⟨a', c', by rw [List.getElem?_append_left (by omega)]; exact h1, hs _ _ _ h2⟩
theorem more_all {xs : List Nf} {F F' : Nat → Nat → Value → Prop} {V : Nf → Value} {f : Nf → Nat} (h : ∀ (j : Nat) (y : Nf), xs[j]? = some y → F j (f y) (V y)) (hs : ∀ j n W, F j n W → F' j n W) : ∀ (j : Nat) (y : Nf), xs[j]? = some y → F' j (f y) (V y) := fun j y hj => hs _ _ _ (h j y hj)
end Go.Proofs.Ytjmbimgofceanaa

/- NfaOwn: copy of a list into a list of the call's own, elements of any width. -/
namespace Go.Proofs.Ytjmbimgofceanaa
open Go.RowKit
attribute [local go_sem ↓] Go.wp_at_zero Go.wp_at_succ

theorem cell_newc (w : World) (cs : Array Value) (T : TypeId) {v : Value} (h : cs[0]? = some v) : (w.alloc (.cells cs T)).cell? ⟨w.heap.size, 0, none⟩ = some v := by
  have hn := heap_alloc_new w (.cells cs T)
  unfold World.cell?
  rw [hn]
  exact h
theorem cell_new1 (w : World) (v : Value) (T : TypeId) : (w.alloc (.cells #[v] T)).cell? ⟨w.heap.size, 0, none⟩ = some v := cell_newc w _ _ rfl
theorem run_copy_wide {T : TypeId} {z : Nat} (w : World) (t ty : TypeId) (hu : Try.prog.underlying t = some (.slice T)) (hs : (Try.prog.info? T).map (·.size) = some z) (ad sa : Option Addr) (n c c2 : Nat) (cc : List Value) (m : Nat) (hA : Alk T z w cc m (.slice ad n c)) (cs : List Value) (hl : cs.length = n * z)
    (h1 : ∀ v ∈ cs, v.oneCell' = true) (hsrc : 0 < n → ∃ a, sa = some a ∧ ∀ j v, cs[j]? = some v → w.cell? (a.add j) = some v) :
    ∃ w', (Builtin.copy_ #[t, t] ty #[.slice ad n c, .slice sa n c2]).run Try.prog w = .ok (goInt n) w' ∧ w.grownBy w' (Value.slice ad n c).ownBlock ∧ (n = 0 ∨ ∃ g, ad = some ⟨g, 0, none⟩ ∧ ∀ j v, cs[j]? = some v → w'.cell? ⟨g, j, none⟩ = some v) := by
  obtain ⟨i, hi, hz⟩ : ∃ i, Try.prog.info? T = some i ∧ i.size = z := by
    cases hq : Try.prog.info? T with
    | none => simp [hq] at hs
    | some i => exact ⟨i, rfl, by simpa [hq] using hs⟩
  by_cases h0 : n = 0
  · subst h0
    refine ⟨w, ?_, ⟨rfl, rfl, rfl, Nat.le_refl _, fun _ _ _ => rfl⟩, Or.inl rfl⟩
    have hcs : cs = [] := List.eq_nil_of_length_eq_zero (by omega)
    cases ad <;> cases sa <;> simp [Builtin.copy_, run_underlying hu, Builtin.lenOf, Builtin.firstCells, sizeOf, typeInfo, hi, storeCells, loadCells, loadCellsFrom]
  · obtain ⟨a, rfl, hc⟩ := hsrc (by omega)
    obtain ⟨g, cur, rfl, hg, h2, h3⟩ := hA.lies (by omega)
    have hfit : cs.length ≤ cur.size := by rw [hl, h3]; exact Nat.mul_le_mul_right _ h2
    have hld := run_loadCells_list (P := Try.prog) w a cs hc
    have hst := run_storeCells_at Try.prog g 0 T cs 0 cur w hg (by simpa using hfit) h1
    refine ⟨w.setRow g (cur.toList.take 0 ++ cs ++ cur.toList.drop cs.length).toArray, ?_, ?_, Or.inr ⟨g, rfl, ?_⟩⟩
    · rw [hl] at hld
      simp [Builtin.copy_, run_underlying hu, Builtin.lenOf, Builtin.firstCells, sizeOf, typeInfo, hi, hz, hld]
      simp at hst
      simp [hst]
    · refine ⟨rfl, rfl, rfl, by simp [World.setRow], fun k hk hne => ?_⟩
      have hkg : k ≠ g := fun e => hne (by rw [e]; rfl)
      simp [World.setRow, Array.getElem?_modify, Ne.symm hkg]
    · intro j v hj
      have hg' := setRow_heap w g cur (cur.toList.take 0 ++ cs ++ cur.toList.drop cs.length).toArray T (0, 0) hg
      have hjl := (List.getElem?_eq_some_iff.1 hj).1
      unfold World.cell?
      rw [hg']
      simp only [List.take_zero, List.nil_append]
      rw [List.getElem?_toArray, List.getElem?_append_left hjl]
      exact hj
theorem sizeE7 : (Try.prog.info? 57).map (·.size) = some 7 := by kernel_rfl
theorem sizeU1 : (Try.prog.info? 44).map (·.size) = some 1 := by kernel_rfl
theorem flatE_one1 : ∀ (es : List Eg), ∀ v ∈ flatE es, v.oneCell' = true := by
  intro es v hv
  unfold flatE at hv
  rw [List.mem_flatMap] at hv
  obtain ⟨e, _, hv⟩ := hv
  simp only [Eg.cells, List.mem_cons, List.not_mem_nil, or_false] at hv
  rcases hv with rfl | rfl | rfl | rfl | rfl | rfl | rfl <;> rfl
theorem wpList_copy_edges {w : World} {ops : Array Oper} {rest : List Oper} {o : Oper} {a : Act} {Q : Exit → Act → World → Prop} (hgd : o.guard = none) (d s : Operand) (ho : o.op = .call { callee := .builtin .copy, args := #[d, s], argTypes := #[35, 35] })
    (ad sa : Option Addr) (n n2 c c2 : Nat) (hd : a.eval d = .slice ad n c) (hs : a.eval s = .slice sa n2 c2) (h2 : n2 = n) (es : List Eg) (hn : n = es.length) {cc : List Value} {m : Nat} (hA : Alk 57 7 w cc m (.slice ad n c)) {X : Nat → Prop} (hE : EAt X w sa es)
    (hk : ∀ w', w.grownBy w' (Value.slice ad n c).ownBlock → EAt (fun b => (Value.slice ad n c).ownBlock = some b) w' ad es → wpList Try.prog ops Q rest (a.put o.dst (goInt n)) w') : wpList Try.prog ops Q (o :: rest) a w := by
  rw [h2] at hs
  refine wpList_plain hgd fun K hK => ?_
  have hfl : (flatE es).length = n * 7 := by rw [flatE_length, hn, Nat.mul_comm]
  obtain ⟨w', hr, hg, hc⟩ := run_copy_wide w 35 o.type Try.underlying35 sizeE7 ad sa n c c2 cc m hA (flatE es) hfl (flatE_one1 es) (fun h0 => by
    rcases hE with h | ⟨b, off, rfl, _, hc⟩
    · rw [h] at hn; simp at hn; omega
    · exact ⟨_, rfl, fun j v hj => by rw [Go.WideShapes.add_plain]; exact hc j v hj⟩)
  unfold Oper.wp execOp
  simp only [ho, resolve, invoke, builtin, Sem.run_bind, Sem.run_pure, Result.andThen_ok, List.map_toArray, List.map_cons, List.map_nil, hs, hd, hr]
  refine hK _ _ (hk w' hg ?_)
  rcases hc with h | ⟨g, rfl, hc⟩
  · exact Or.inl (List.eq_nil_of_length_eq_zero (by omega))
  · exact Or.inr ⟨g, 0, rfl, rfl, fun j v hj => by rw [Nat.zero_add]; exact hc j v hj⟩
theorem wpList_copy_words {w : World} {ops : Array Oper} {rest : List Oper} {o : Oper} {a : Act} {Q : Exit → Act → World → Prop} (hgd : o.guard = none) (d s : Operand) (ho : o.op = .call { callee := .builtin .copy, args := #[d, s], argTypes := #[36, 36] })
    (ad sa : Option Addr) (n n2 c c2 : Nat) (hd : a.eval d = .slice ad n c) (hs : a.eval s = .slice sa n2 c2) (h2 : n2 = n) (rs : List Nat) (hn : n = rs.length) {cc : List Value} {m : Nat} (hA : Alk 44 1 w cc m (.slice ad n c)) {X : Nat → Prop} (hU : UAt X w sa rs)
    (hk : ∀ w', w.grownBy w' (Value.slice ad n c).ownBlock → UAt (fun b => (Value.slice ad n c).ownBlock = some b) w' ad rs → wpList Try.prog ops Q rest (a.put o.dst (goInt n)) w') : wpList Try.prog ops Q (o :: rest) a w := by
  rw [h2] at hs
  refine wpList_plain hgd fun K hK => ?_
  obtain ⟨w', hr, hg, hc⟩ := run_copy_wide w 36 o.type Try.underlying36 sizeU1 ad sa n c c2 cc m hA (rs.map fun x => Value.int .u32 (x : Nat)) (by rw [List.length_map]; omega) (fun v hv => by obtain ⟨x, _, rfl⟩ := List.mem_map.1 hv; rfl) (fun h0 => by
    rcases hU with h | ⟨b, off, rfl, _, hc⟩
    · rw [h] at hn; simp at hn; omega
    · refine ⟨_, rfl, fun j v hj => ?_⟩
      rw [Go.WideShapes.add_plain]
      rw [List.getElem?_map, Option.map_eq_some_iff] at hj
      obtain ⟨x, hx, rfl⟩ := hj
      exact hc j x hx)
  unfold Oper.wp execOp
  simp only [ho, resolve, invoke, builtin, Sem.run_bind, Sem.run_pure, Result.andThen_ok, List.map_toArray, List.map_cons, List.map_nil, hs, hd, hr]
  refine hK _ _ (hk w' hg ?_)
  rcases hc with h | ⟨g, rfl, hc⟩
  · exact Or.inl (List.eq_nil_of_length_eq_zero (by omega))
  · exact Or.inr ⟨g, 0, rfl, rfl, fun j x hj => by rw [Nat.zero_add]; exact hc j _ (by rw [List.getElem?_map, hj]; rfl)⟩
theorem Alk.later {T : TypeId} {z : Nat} {u u' : World} {c : List Value} {m : Nat} {V : Value} (h : Alk T z u c m V) (hb : Below u.heap.size u u') : Alk T z u' c m V := h.keep (fun b e => hb.block b (h.blk b e).1)
theorem Alk.past {T : TypeId} {z : Nat} {u u' : World} {c : List Value} {m : Nat} {V V' : Value} (h : Alk T z u c m V) (hg : u.grownBy u' V'.ownBlock) (hne : ∀ b, V.ownBlock = some b → V'.ownBlock ≠ some b) : Alk T z u' c m V := h.keep (fun b e => hg.block b (h.blk b e).1 (fun e2 => hne b e e2.symm))
theorem EAt.past {u u' : World} {V V' : Value} {a : Option Addr} {es : List Eg} (h : EAt (fun b => V.ownBlock = some b) u a es) (hg : u.grownBy u' V'.ownBlock) (hne : ∀ b, V.ownBlock = some b → V'.ownBlock ≠ some b) : EAt (fun b => V.ownBlock = some b) u' a es := h.keep (fun _ h _ => h) (fun b e hl => hg.block b hl (fun e2 => hne b e e2.symm))
theorem UAt.past {u u' : World} {V V' : Value} {a : Option Addr} {rs : List Nat} (h : UAt (fun b => V.ownBlock = some b) u a rs) (hg : u.grownBy u' V'.ownBlock) (hne : ∀ b, V.ownBlock = some b → V'.ownBlock ≠ some b) : UAt (fun b => V.ownBlock = some b) u' a rs := h.keep (fun _ h _ => h) (fun b e hl => hg.block b hl (fun e2 => hne b e e2.symm))
theorem Own.past {u u' : World} {base : Nat} {M : Ma} {y : Nf} {V' : Value} (h : Own u base M y) (hg : u.grownBy u' V'.ownBlock) (hlt : ∀ b, V'.ownBlock = some b → b < base) : Own u' base M y :=
  ⟨h.1, h.2.1.keep (fun b hb hl _ => hg.block b hl (fun e => by have := hlt b e.symm; omega)), h.2.2.keep (fun b hb hl _ => hg.block b hl (fun e => by have := hlt b e.symm; omega))⟩
theorem Cop.past {D : Nat → Prop} {u u' : World} {M : Ma} {x : Nf} {V' : Value} (h : Cop (fun b => ¬ D b) u M x) (hg : u.grownBy u' V'.ownBlock) (hd : ∀ b, V'.ownBlock = some b → D b) : Cop (fun b => ¬ D b) u' M x := h.keep (fun _ h _ => h) (fun b hb hl => hg.block b hl (fun e => hb (hd b e.symm)))
theorem ownsRow_lowN {w : World} {b b' : Nat} {T : TypeId} {z : Nat} {V : Value} {n : Nat} {xs : List Value} (h : w.ownsRow b T z V n xs) (hb : b' ≤ b) : w.ownsRow b' T z V n xs := by
  refine ⟨h.1, ?_⟩
  rcases h.2 with h6 | ⟨g, cap, cur, hv, hB, rest⟩
  · exact Or.inl h6
  · exact Or.inr ⟨g, cap, cur, hv, Nat.le_trans hb hB, rest⟩
theorem Own.low {w : World} {b b' : Nat} {M : Ma} {y : Nf} (h : Own w b M y) (hb : b' ≤ b) : Own w b' M y := ⟨h.1, ownsRow_lowN h.2.1 hb, ownsRow_lowN h.2.2 hb⟩
end Go.Proofs.Ytjmbimgofceanaa

