/- heronlaw04.known: its region that draws. -/
import Derived.Test.YtlcnmfgmgiijpaaG25
import Derived.Test.YtlcnmfgmgiijpaaG24
namespace Go.Proofs.Ytlcnmfgmgiijpaa
open Go.RowKit

def FrK (act a : Act) : Prop := a.tmps.size = 57 ∧ a.defers = act.defers ∧ ∀ k, k ≠ 5 ∧ (k < 18 ∨ 22 ≤ k) → a.tmps[k]? = act.tmps[k]?
theorem FrK.put {act a : Act} (h : FrK act a) {k : Nat} (hd : k = 5 ∨ (18 ≤ k ∧ k < 22)) (v : Value) : FrK act (a.put (some k) v) := by
  obtain ⟨h1, h2, h3⟩ := h
  refine ⟨by simp [Act.put, h1], by simp [Act.put, h2], fun j hj => ?_⟩
  simp only [Act.put]
  rw [Array.getElem?_setIfInBounds_ne (by omega)]
  exact h3 j hj
theorem frK_lit {act a : Act} (h : FrK act a) (hs : act.tmps.size = 57) : a = (((((act.put (some 5) (T a 5)).put (some 18) (T a 18)).put (some 19) (T a 19)).put (some 20) (T a 20)).put (some 21) (T a 21)) := by
  obtain ⟨h1, h2, h3⟩ := h
  obtain ⟨tmps, defers⟩ := a
  simp only at h1 h2 h3
  simp only [Act.put, Act.mk.injEq]
  refine ⟨?_, h2⟩
  apply Array.ext_getElem?
  intro k
  have hT : ∀ j, j < 57 → tmps[j]? = some (T ⟨tmps, defers⟩ j) := fun j hj => by
    have : j < tmps.size := by omega
    simp [T, this]
  by_cases hk : k ≠ 5 ∧ (k < 18 ∨ 22 ≤ k)
  · rw [h3 k hk, Array.getElem?_setIfInBounds_ne (by omega), Array.getElem?_setIfInBounds_ne (by omega), Array.getElem?_setIfInBounds_ne (by omega), Array.getElem?_setIfInBounds_ne (by omega), Array.getElem?_setIfInBounds_ne (by omega)]
  · have hk' : k = 5 ∨ k = 18 ∨ k = 19 ∨ k = 20 ∨ k = 21 := by omega
    rcases hk' with rfl | rfl | rfl | rfl | rfl <;> rw [hT _ (by decide)] <;> simp [hs]
def nset (X : Oct.S) : Nd := ⟨(2 : Nat), X, none, 0, 0, 0, 0⟩
def nseq (g : Nat) : Nd := ⟨3, Oct.none, some ⟨g, 0, none⟩, 2, 2, 0, 0⟩
def RK (W : World) (X : Oct.S) (y : Nd) : Nat → Value → World → Prop
  | 0, v, _ => v = (nset X).val
  | 1, v, _ => v = y.val
  | 2, v, w => ∃ g, v = .slice (some ⟨g, 0, none⟩) 2 2 ∧ RowAt (fun b => b = g) w (some ⟨g, 0, none⟩) [nset X, y]
  | 3, v, w => ∃ g, v = .agg #[.int .i64 3, .int .u64 0, .int .u64 0, .int .u64 0, .int .u64 0, .slice (some ⟨g, 0, none⟩) 2 2, .int .i64 0, .int .i64 0] ∧ RowAt (fun b => b = g) w (some ⟨g, 0, none⟩) [nset X, y]
  | 4, v, w => ∃ A, v = .pointer (some ⟨A, 0, none⟩) ∧ NB w A zeroNd ∧ W.heap.size ≤ A
  | _, _, _ => True
theorem row_two {u : World} (x y : Nd) : RowAt (fun b => b = u.heap.size) (u.alloc (.cells #[.int .i64 x.k, .int .u64 (Oct.word x.s 0 : Nat), .int .u64 (Oct.word x.s 1 : Nat), .int .u64 (Oct.word x.s 2 : Nat), .int .u64 (Oct.word x.s 3 : Nat), .slice x.a x.n x.c, .int .i64 x.mn, .int .i64 x.mx, .int .i64 y.k, .int .u64 (Oct.word y.s 0 : Nat), .int .u64 (Oct.word y.s 1 : Nat), .int .u64 (Oct.word y.s 2 : Nat), .int .u64 (Oct.word y.s 3 : Nat), .slice y.a y.n y.c, .int .i64 y.mn, .int .i64 y.mx] 28)) (some ⟨u.heap.size, 0, none⟩) [x, y] := by
  refine Or.inr ⟨u.heap.size, 0, rfl, rfl, fun j v hj => ?_⟩
  rw [Nat.zero_add, World.cell?_alloc_mark]
  have e : flatN [x, y] = x.cells ++ y.cells := by simp [flatN]
  rw [e] at hj
  simpa [Nd.cells] using hj
theorem enters22 : Enters 22 := fun args w => by simp [go_sem]
set_option maxRecDepth 100000 in
set_option maxHeartbeats 2000000 in
theorem regK {act : Act} {W : World} {A4 : Nat} {y : Nd} {X : Oct.S} {Q : Exit → Act → World → Prop} (hT4 : T act 4 = .pointer (some ⟨A4, 0, none⟩)) (hsz : act.tmps.size = 57) (hN : NB W A4 y)
    (hc : ∀ u, Calls Try.prog 22 #[.string ⟨#[97]⟩] u fun e w' => e = .returned (nset X).val ∧ Below u.heap.size u w')
    (K : ∀ a' u A g, FrK act a' → T a' 5 = .pointer (some ⟨A, 0, none⟩) → NB u A (nseq g) → RowAt (fun b => b ≠ A) u (some ⟨g, 0, none⟩) [nset X, y] → Below W.heap.size W u → W.heap.size ≤ A → Q .normal a' u) : (Code.region 3 (opsOf Try.f8 3) true).wp Try.prog Q act W := by
  refine wp_region_last (by kernel_rfl) 5 (by kernel_rfl) (fun i => if i = 4 then 5 else 18 + i) (RK W X y) (FrK act) ?up ?f0 ?sz ?inj (by kernel_rfl) ?duty ⟨hsz, rfl, fun _ _ => rfl⟩
  case up =>
    intro i v w w' h hb
    match i, h with
    | 0, h => exact h
    | 1, h => exact h
    | 2, ⟨g, h1, h2⟩ => exact ⟨g, h1, h2.keep (fun _ h _ => h) (fun b _ hlt => hb.block b hlt)⟩
    | 3, ⟨g, h1, h2⟩ => exact ⟨g, h1, h2.keep (fun _ h _ => h) (fun b _ hlt => hb.block b hlt)⟩
    | 4, ⟨A, h1, h2, h3⟩ => exact ⟨A, h1, h2.later hb, h3⟩
    | _ + 5, _ => trivial
  case f0 =>
    intro a i v hi h
    refine h.put ?_ v
    by_cases e : i = 4
    · simp [e]
    · simp [e]; omega
  case sz =>
    intro a i hi h
    rw [h.1]
    show (if i = 4 then 5 else 18 + i) < 57
    split <;> omega
  case inj =>
    intro i j hi hj h
    have h : (if i = 4 then 5 else 18 + i) = (if j = 4 then 5 else 18 + j) := h
    split at h <;> split at h <;> omega
  case duty =>
    refine ⟨⟨fun _ => ⟨rfl, duty_free rfl (by simp) rfl fun a u hF hB hE Q => ?s0⟩, fun h => absurd h (by decide)⟩, ⟨fun _ => ⟨rfl, duty_free rfl (by simp) rfl fun a u hF hB hE Q => ?s1⟩, fun h => absurd h (by decide)⟩, ⟨fun _ => ⟨rfl, duty_free rfl (by simp) rfl fun a u hF hB hE Q => ?s2⟩, fun h => absurd h (by decide)⟩, ⟨fun _ => ⟨rfl, duty_free rfl (by simp) rfl fun a u hF hB hE Q => ?s3⟩, fun h => absurd h (by decide)⟩, ⟨fun _ => ⟨rfl, duty_free rfl (by simp) rfl fun a u hF hB hE Q => ?s4⟩, fun h => absurd h (by decide)⟩, ⟨fun h => absurd h (by decide), fun _ => ⟨rfl, by simp, fun a u hF hB hR => ?last⟩⟩, trivial⟩
    case s0 => exact ob_call1c rfl enters22 ((hc u).mono (fun _ w' h => ⟨_, h.1, h.2, rfl⟩))
    case s1 =>
      have hx : T a 4 = .pointer (some ⟨A4, 0, none⟩) := by unfold T; rw [hF.2.2 4 (by decide)]; exact hT4
      obtain ⟨t0, t1, t2, t3, t4, t5, t6, t7⟩ := (hN.later hB).cells
      refine ob_value (v := y.val) (w' := u) ?_ (Below.refl _ _) rfl
      unfold T at hx
      unfold Nd.val
      simp [execOp, Act.eval, hx, go_sem, t0, t1, t2, t3, t4, t5, t6, t7]
    case s2 =>
      have hx : T a 18 = (nset X).val := hE ⟨0, .data⟩ (by simp) rfl
      have hy : T a 19 = y.val := hE ⟨1, .data⟩ (by simp) rfl
      have hrow := row_two (u := u) (nset X) y
      refine ob_value (v := .slice (some ⟨u.heap.size, 0, none⟩) 2 2) (w' := u.alloc _) ?_ ((Below.refl _ _).alloc (Nat.le_refl _) _) ⟨u.heap.size, rfl, hrow⟩
      unfold T at hx hy
      unfold Nd.val at hx hy
      simp [execOp, Act.eval, hx, hy, go_sem]
    case s3 =>
      obtain ⟨g, h1, h2⟩ := hE ⟨2, .data⟩ (by simp) rfl
      have hx : T a 20 = .slice (some ⟨g, 0, none⟩) 2 2 := h1
      refine ob_value (v := .agg #[.int .i64 3, .int .u64 0, .int .u64 0, .int .u64 0, .int .u64 0, .slice (some ⟨g, 0, none⟩) 2 2, .int .i64 0, .int .i64 0]) (w' := u) ?_ (Below.refl _ _) ⟨g, rfl, h2⟩
      unfold T at hx
      simp [execOp, Act.eval, hx, go_sem]
    case s4 =>
      refine ob_value (v := .pointer (some ⟨u.heap.size, 0, none⟩)) (w' := u.alloc (.cells #[.int .i64 0, .int .u64 0, .int .u64 0, .int .u64 0, .int .u64 0, .slice none 0 0, .int .i64 0, .int .i64 0] 28)) ?_ ((Below.refl _ _).alloc (Nat.le_refl _) _) ⟨u.heap.size, rfl, nb_zero u, hB.size⟩
      simp [execOp, go_sem]
    case last =>
      obtain ⟨g, hv, hrow⟩ := hR 3 (by decide)
      obtain ⟨A, hp, hz, hA⟩ := hR 4 (by decide)
      have hv : T a 21 = _ := hv
      have hp : T a 5 = _ := hp
      have hne : g ≠ A := by
        intro e
        subst e
        have h1 := (hrow.one (x := nset X) rfl).1
        have h2 := hz.cells.1
        rw [h1] at h2
        simp [nset, zeroNd] at h2
      obtain ⟨t0, t1, t2, t3, t4, t5, t6, t7⟩ := hz.cells
      have y0 := hz.frozen 0
      have y1 := hz.frozen 1
      have y2 := hz.frozen 2
      have y3 := hz.frozen 3
      have y4 := hz.frozen 4
      have y5 := hz.frozen 5
      have y6 := hz.frozen 6
      have y7 := hz.frozen 7
      refine ob_skip (w' := put8z u A 3 (some ⟨g, 0, none⟩) 2 2 0 0) ?_ ?_
      · unfold T at hv hp
        simp [execOp, Act.eval, hv, hp, go_sem, t0, t1, t2, t3, t4, t5, t6, t7, y0, y1, y2, y3, y4, y5, y6, y7, put8z]
      · rw [put8z_eq]
        exact K _ _ A g hF hp (hz.put8 _) (hrow.keep (fun b hb _ => by omega) (fun b hb _ => heap_put8 u A _ b (by omega))) (below_put8 hB hA _) hA
end Go.Proofs.Ytlcnmfgmgiijpaa

/- heronlaw04.known. -/
namespace Go.Proofs.Ytlcnmfgmgiijpaa
open Go.RowKit
attribute [local go_sem ↓] Go.wp_at_zero Go.wp_at_succ

theorem node_two {X : Nat → Prop} {w : World} {t1 t2 : Tr} {x1 x2 : Nd} {g : Nat} (k : Nat) (h1 : NodeAt X w t1 x1) (h2 : NodeAt X w t2 x2) (hr : RowAt X w (some ⟨g, 0, none⟩) [x1, x2]) : NodeAt X w (.mk k Oct.none [t1, t2] 0 0) ⟨k, Oct.none, some ⟨g, 0, none⟩, 2, 2, 0, 0⟩ :=
  .mk k Oct.none [t1, t2] 0 0 _ 2 2 [x1, x2] rfl rfl hr (fun i t v ht hv => by
    match i with
    | 0 => simp at ht hv; subst ht hv; exact h1
    | 1 => simp at ht hv; subst ht hv; exact h2
    | i + 2 => simp at ht)
def WANT (X1 X2 : Oct.S) : Tr := .mk 4 Oct.none [.mk 3 Oct.none [.mk 2 X1 [] 0 0, .mk 5 Oct.none [.mk 2 X2 [] 0 0] 0 (-1)] 0 0, .mk 1 Oct.none [] 0 0] 0 0
theorem want_good {X1 X2 : Oct.S} (h1 : X1 10 = false) (h2 : X2 10 = false) : Good 5 (WANT X1 X2) := by
  refine .many 5 4 (.inr rfl) _ (by simp) (by simp) (fun t ht => ?_)
  simp at ht
  rcases ht with rfl | rfl
  · refine .many 5 3 (.inl rfl) _ (by simp) (by simp) (fun t ht => ?_)
    simp at ht
    rcases ht with rfl | rfl
    · exact .set 5 _ h1
    · exact .times 5 _ _ _ (by decide) (.set 5 _ h2)
  · exact .leaf 5 1 (.inl rfl)
theorem t1_good : Good 5 T1 := by
  refine .many 5 4 (.inr rfl) _ (by simp) (by simp) (fun t ht => ?_)
  simp at ht
  rcases ht with rfl | rfl
  · refine .many 5 3 (.inl rfl) _ (by simp) (by simp) (fun t ht => ?_)
    simp at ht
    rcases ht with rfl | rfl
    · exact .set 5 _ rfl
    · exact .times 5 _ _ _ (by decide) (.set 5 _ rfl)
  · exact .leaf 5 1 (.inl rfl)
def XA : Oct.S := insTo ⟨#[97]⟩ 1
def XB : Oct.S := insTo ⟨#[98, 99, 100]⟩ 3
theorem known_same : sameT (up T1) (up (WANT XA XB)) = true := by kernel_rfl
theorem known_places : placesOf (up (WANT XA XB)) = 8 := by kernel_rfl
theorem nb_lit {w : World} {A : Nat} {k : Int} {a : Option Addr} {n c : Nat} {mn mx : Int} (h : w.heap[A]? = some (.cells #[.int .i64 k, .int .u64 0, .int .u64 0, .int .u64 0, .int .u64 0, .slice a n c, .int .i64 mn, .int .i64 mx] 28 (0, 0))) : NB w A ⟨k, Oct.none, a, n, c, mn, mx⟩ := by
  unfold NB
  simp only [word0]
  exact h
set_option maxRecDepth 4000 in
set_option maxHeartbeats 4000000 in
theorem known_any (w : World) (gm : GM w) : Calls Try.prog 8 #[] w fun e w' => e = .returned (.bool true) ∧ Below w.heap.size w w' := by
  have HP1 : Hid (∀ u, GM u → Calls Try.prog 9 #[.string ⟨#[97, 91, 98, 45, 100, 93, 42, 124]⟩] u fun e w' => Below u.heap.size u w' ∧ ∃ x : Nd, e = .returned (.tuple #[x.val, .int .i64 0, .int .i64 0]) ∧ NodeAt (fun b => u.heap.size ≤ b) w' T1 x) := fun u hu => (Parse_any _ u hu).mono (fun e w' h => by
    unfold ParsePost at h
    rw [known1] at h
    exact h)
  have HP2 : Hid (∀ u, GM u → Calls Try.prog 9 #[.string ⟨#[40, 97, 40, 98]⟩] u fun e w' => Below u.heap.size u w' ∧ e = .returned (.tuple #[zeroNd.val, .int .i64 2, .int .i64 42])) := fun u hu => (Parse_any _ u hu).mono (fun e w' h => by
    unfold ParsePost at h
    rw [known2] at h
    exact h)
  have HSA : Hid (∀ u, Calls Try.prog 22 #[.string ⟨#[97]⟩] u fun e w' => e = .returned (nset XA).val ∧ Below u.heap.size u w') := fun u => set_law ⟨#[97]⟩ u (by decide) (by decide)
  have HSB : Hid (∀ u, Calls Try.prog 22 #[.string ⟨#[98, 99, 100]⟩] u fun e w' => e = .returned (nset XB).val ∧ Below u.heap.size u w') := fun u => set_law ⟨#[98, 99, 100]⟩ u (by decide) (by decide)
  have HGW : Hid (Good 5 (WANT XA XB)) := want_good (by decide) (by decide)
  have HSM : Hid (sameT (up T1) (up (WANT XA XB)) = true) := known_same
  have HPL : Hid (placesOf (up (WANT XA XB)) = 8) := known_places
  have HGT : Hid (Good 5 T1) := t1_good
  obtain ⟨X1, hX1⟩ : ∃ X, X = XA := ⟨_, rfl⟩
  obtain ⟨X2, hX2⟩ : ∃ X, X = XB := ⟨_, rfl⟩
  rw [← hX1] at HSA
  rw [← hX2] at HSB
  rw [← hX1, ← hX2] at HGW HSM HPL
  obtain ⟨TT, hTT⟩ : ∃ TT, TT = T1 := ⟨_, rfl⟩
  rw [← hTT] at HP1 HSM HGT
  clear hX1 hX2 hTT
  have HGM : Hid (GM w) := gm
  clear gm
  go_enter Try.func8, Try.ntmps8
  go_wp2_with fail
  refine (HP1.out w HGM.out).mono ?_
  rintro e u1 ⟨k1, x, rfl, hx⟩
  have k2 : Below u1.heap.size u1 (u1.alloc (.cells #[.int .i64 x.k, .int .u64 (Oct.word x.s 0 : Nat), .int .u64 (Oct.word x.s 1 : Nat), .int .u64 (Oct.word x.s 2 : Nat), .int .u64 (Oct.word x.s 3 : Nat), .slice x.a x.n x.c, .int .i64 x.mn, .int .i64 x.mx] 28)) := (Below.refl _ _).alloc (Nat.le_refl _) _
  have HB2 : Hid (Below w.heap.size w (u1.alloc (.cells #[.int .i64 x.k, .int .u64 (Oct.word x.s 0 : Nat), .int .u64 (Oct.word x.s 1 : Nat), .int .u64 (Oct.word x.s 2 : Nat), .int .u64 (Oct.word x.s 3 : Nat), .slice x.a x.n x.c, .int .i64 x.mn, .int .i64 x.mx] 28))) := below_step k1 k2
  have HN2 : Hid (NB (u1.alloc (.cells #[.int .i64 x.k, .int .u64 (Oct.word x.s 0 : Nat), .int .u64 (Oct.word x.s 1 : Nat), .int .u64 (Oct.word x.s 2 : Nat), .int .u64 (Oct.word x.s 3 : Nat), .slice x.a x.n x.c, .int .i64 x.mn, .int .i64 x.mx] 28)) u1.heap.size x) := nb_new u1 x
  have HX2 : Hid (NodeAt (fun _ => True) (u1.alloc (.cells #[.int .i64 x.k, .int .u64 (Oct.word x.s 0 : Nat), .int .u64 (Oct.word x.s 1 : Nat), .int .u64 (Oct.word x.s 2 : Nat), .int .u64 (Oct.word x.s 3 : Nat), .slice x.a x.n x.c, .int .i64 x.mn, .int .i64 x.mx] 28)) TT x) := (hx.keep (Y := fun _ => True) (fun _ _ _ => trivial) (fun _ _ _ => rfl)).later k2
  obtain ⟨A1, hA1⟩ : ∃ A, u1.heap.size = A := ⟨_, rfl⟩
  obtain ⟨u2, hu2⟩ : ∃ u2, u1.alloc (.cells #[.int .i64 x.k, .int .u64 (Oct.word x.s 0 : Nat), .int .u64 (Oct.word x.s 1 : Nat), .int .u64 (Oct.word x.s 2 : Nat), .int .u64 (Oct.word x.s 3 : Nat), .slice x.a x.n x.c, .int .i64 x.mn, .int .i64 x.mx] 28) = u2 := ⟨_, rfl⟩
  rw [hu2] at HB2 HN2 HX2
  rw [hA1] at HN2
  have HU2 : Hid (_ = u2) := hu2
  have HA1 : Hid (u1.heap.size = A1) := hA1
  clear k1 k2 hx hA1 hu2 HP1
  unfold Nd.val
  go_upto_region 2 with fail
  rw [HU2.out, HA1.out]
  clear HU2 HA1
  go_wp2_with fail
  refine (HSB.out u2).mono ?_
  rintro e u3 ⟨rfl, k3⟩
  have HB3 : Hid (Below w.heap.size w u3) := below_step HB2.out k3
  have HN3 : Hid (NB u3 A1 x) := HN2.out.later k3
  have HX3 : Hid (NodeAt (fun _ => True) u3 TT x) := HX2.out.later k3
  clear k3 HB2 HN2 HX2 HSB
  unfold nset Nd.val
  go_upto_region 3 with fail
  have k4 : Below u3.heap.size u3 (u3.alloc (.cells #[.int .i64 2, .int .u64 (Oct.word X2 0 : Nat), .int .u64 (Oct.word X2 1 : Nat), .int .u64 (Oct.word X2 2 : Nat), .int .u64 (Oct.word X2 3 : Nat), .slice none 0 0, .int .i64 0, .int .i64 0] 28)) := (Below.refl _ _).alloc (Nat.le_refl _) _
  have hrow4 : RowAt (fun _ => True) (u3.alloc (.cells #[.int .i64 2, .int .u64 (Oct.word X2 0 : Nat), .int .u64 (Oct.word X2 1 : Nat), .int .u64 (Oct.word X2 2 : Nat), .int .u64 (Oct.word X2 3 : Nat), .slice none 0 0, .int .i64 0, .int .i64 0] 28)) (some ⟨u3.heap.size, 0, none⟩) [nset X2] := row_new (nset X2) trivial
  obtain ⟨G1, hG1⟩ : ∃ G, u3.heap.size = G := ⟨_, rfl⟩
  obtain ⟨A4, hA4⟩ : ∃ A, u3.heap.size + 1 = A := ⟨_, rfl⟩
  obtain ⟨u4, hu4⟩ : ∃ u4, u3.alloc (.cells #[.int .i64 2, .int .u64 (Oct.word X2 0 : Nat), .int .u64 (Oct.word X2 1 : Nat), .int .u64 (Oct.word X2 2 : Nat), .int .u64 (Oct.word X2 3 : Nat), .slice none 0 0, .int .i64 0, .int .i64 0] 28) = u4 := ⟨_, rfl⟩
  have z4 : u4.heap.size = u3.heap.size + 1 := by rw [← hu4]; simp
  rw [hu4] at hrow4 k4 ⊢
  rw [hA4, hG1]
  rw [hG1] at hrow4
  have k5 : Below u4.heap.size u4 (u4.alloc (.cells #[.int .i64 5, .int .u64 0, .int .u64 0, .int .u64 0, .int .u64 0, .slice (some ⟨G1, 0, none⟩) 1 1, .int .i64 0, .int .i64 (-1)] 28)) := (Below.refl _ _).alloc (Nat.le_refl _) _
  have hn5 : NB (u4.alloc (.cells #[.int .i64 5, .int .u64 0, .int .u64 0, .int .u64 0, .int .u64 0, .slice (some ⟨G1, 0, none⟩) 1 1, .int .i64 0, .int .i64 (-1)] 28)) u4.heap.size ⟨5, Oct.none, some ⟨G1, 0, none⟩, 1, 1, 0, -1⟩ := nb_lit (heap_alloc_new u4 _)
  rw [z4, hA4] at hn5
  obtain ⟨u5, hu5⟩ : ∃ u5, u4.alloc (.cells #[.int .i64 5, .int .u64 0, .int .u64 0, .int .u64 0, .int .u64 0, .slice (some ⟨G1, 0, none⟩) 1 1, .int .i64 0, .int .i64 (-1)] 28) = u5 := ⟨_, rfl⟩
  rw [hu5] at k5 hn5 ⊢
  have HB5 : Hid (Below w.heap.size w u5) := below_step (below_step HB3.out k4) k5
  have HN5 : Hid (NB u5 A1 x) := (HN3.out.later k4).later k5
  have HX5 : Hid (NodeAt (fun _ => True) u5 TT x) := (HX3.out.later k4).later k5
  have HT5 : Hid (NodeAt (fun _ => True) u5 (.mk 5 Oct.none [.mk 2 X2 [] 0 0] 0 (-1)) ⟨5, Oct.none, some ⟨G1, 0, none⟩, 1, 1, 0, -1⟩) := node_one 5 0 (-1) 1 (hrow4.keep (fun _ h _ => h) (fun b _ hlt => k5.block b hlt)) (NodeAt.leaf _ _ 2 X2 0 0 none 0)
  have HN4 : Hid (NB u5 A4 ⟨5, Oct.none, some ⟨G1, 0, none⟩, 1, 1, 0, -1⟩) := hn5
  clear k4 k5 hrow4 hn5 hG1 hA4 hu4 hu5 z4 HB3 HN3 HX3
  refine regK (A4 := A4) (y := ⟨5, Oct.none, some ⟨G1, 0, none⟩, 1, 1, 0, -1⟩) (X := X1) rfl rfl HN4.out HSA.out ?_
  intro a' u6 A5 g hfr hT5 hNs hRow hBe hA5
  rw [frK_lit hfr rfl, hT5]
  have HB6 : Hid (Below w.heap.size w u6) := below_step HB5.out hBe
  have HN6 : Hid (NB u6 A1 x) := HN5.out.later hBe
  have HX6 : Hid (NodeAt (fun _ => True) u6 TT x) := HX5.out.later hBe
  have HS6 : Hid (NodeAt (fun _ => True) u6 (.mk 3 Oct.none [.mk 2 X1 [] 0 0, .mk 5 Oct.none [.mk 2 X2 [] 0 0] 0 (-1)] 0 0) (nseq g)) := node_two 3 (NodeAt.leaf _ _ 2 X1 0 0 none 0) (HT5.out.later hBe) (hRow.keep (fun _ _ _ => trivial) (fun _ _ _ => rfl))
  have hcs := hNs.cells
  simp only [nseq, word0] at hcs
  obtain ⟨c0, c1, c2, c3, c4, c5, c6, c7⟩ := hcs
  obtain ⟨v18, e18⟩ : ∃ v, v = T a' 18 := ⟨_, rfl⟩
  obtain ⟨v19, e19⟩ : ∃ v, v = T a' 19 := ⟨_, rfl⟩
  obtain ⟨v20, e20⟩ : ∃ v, v = T a' 20 := ⟨_, rfl⟩
  obtain ⟨v21, e21⟩ : ∃ v, v = T a' 21 := ⟨_, rfl⟩
  rw [← e18, ← e19, ← e20, ← e21]
  clear e18 e19 e20 e21 hfr hT5 hRow hBe hA5 hNs HB5 HN5 HX5 HT5 HN4
  have hrow7 := row_two (u := u6) (nseq g) ⟨1, Oct.none, none, 0, 0, 0, 0⟩
  simp only [nseq, word0] at hrow7
  have k7 : Below u6.heap.size u6 (u6.alloc (.cells #[.int .i64 3, .int .u64 0, .int .u64 0, .int .u64 0, .int .u64 0, .slice (some ⟨g, 0, none⟩) 2 2, .int .i64 0, .int .i64 0, .int .i64 1, .int .u64 0, .int .u64 0, .int .u64 0, .int .u64 0, .slice none 0 0, .int .i64 0, .int .i64 0] 28)) := (Below.refl _ _).alloc (Nat.le_refl _) _
  have HR7 : Hid (RowAt (fun b => b = u6.heap.size) (u6.alloc (.cells #[.int .i64 3, .int .u64 0, .int .u64 0, .int .u64 0, .int .u64 0, .slice (some ⟨g, 0, none⟩) 2 2, .int .i64 0, .int .i64 0, .int .i64 1, .int .u64 0, .int .u64 0, .int .u64 0, .int .u64 0, .slice none 0 0, .int .i64 0, .int .i64 0] 28)) (some ⟨u6.heap.size, 0, none⟩) [nseq g, ⟨1, Oct.none, none, 0, 0, 0, 0⟩]) := hrow7
  clear hrow7
  go_upto_region 5 with fail
  obtain ⟨G2, hG2⟩ : ∃ G, u6.heap.size = G := ⟨_, rfl⟩
  obtain ⟨A6, hA6⟩ : ∃ A, u6.heap.size + 1 = A := ⟨_, rfl⟩
  obtain ⟨u7, hu7⟩ : ∃ u7, u6.alloc (.cells #[.int .i64 3, .int .u64 0, .int .u64 0, .int .u64 0, .int .u64 0, .slice (some ⟨g, 0, none⟩) 2 2, .int .i64 0, .int .i64 0, .int .i64 1, .int .u64 0, .int .u64 0, .int .u64 0, .int .u64 0, .slice none 0 0, .int .i64 0, .int .i64 0] 28) = u7 := ⟨_, rfl⟩
  have z7 : u7.heap.size = u6.heap.size + 1 := by rw [← hu7]; simp
  have hr7 := HR7.out
  rw [hu7] at hr7 k7 ⊢
  rw [hA6, hG2]
  rw [hG2] at hr7
  have k8 : Below u7.heap.size u7 (u7.alloc (.cells #[.int .i64 4, .int .u64 0, .int .u64 0, .int .u64 0, .int .u64 0, .slice (some ⟨G2, 0, none⟩) 2 2, .int .i64 0, .int .i64 0] 28)) := (Below.refl _ _).alloc (Nat.le_refl _) _
  have hn8 : NB (u7.alloc (.cells #[.int .i64 4, .int .u64 0, .int .u64 0, .int .u64 0, .int .u64 0, .slice (some ⟨G2, 0, none⟩) 2 2, .int .i64 0, .int .i64 0] 28)) u7.heap.size ⟨4, Oct.none, some ⟨G2, 0, none⟩, 2, 2, 0, 0⟩ := nb_lit (heap_alloc_new u7 _)
  rw [z7, hA6] at hn8
  obtain ⟨u8, hu8⟩ : ∃ u8, u7.alloc (.cells #[.int .i64 4, .int .u64 0, .int .u64 0, .int .u64 0, .int .u64 0, .slice (some ⟨G2, 0, none⟩) 2 2, .int .i64 0, .int .i64 0] 28) = u8 := ⟨_, rfl⟩
  rw [hu8] at k8 hn8 ⊢
  have HB8 : Hid (Below w.heap.size w u8) := below_step (below_step HB6.out k7) k8
  have HN8 : Hid (NB u8 A1 x) := (HN6.out.later k7).later k8
  have HX8 : Hid (NodeAt (fun _ => True) u8 TT x) := (HX6.out.later k7).later k8
  have HW8 : Hid (NodeAt (fun _ => True) u8 (WANT X1 X2) ⟨4, Oct.none, some ⟨G2, 0, none⟩, 2, 2, 0, 0⟩) := node_two 4 ((HS6.out.later k7).later k8) (NodeAt.leaf _ _ 1 Oct.none 0 0 none 0) (hr7.keep (fun _ _ _ => trivial) (fun b _ hlt => k8.block b hlt))
  have HNW8 : Hid (NB u8 A6 ⟨4, Oct.none, some ⟨G2, 0, none⟩, 2, 2, 0, 0⟩) := hn8
  clear k7 k8 hr7 hn8 hG2 hA6 hu7 hu8 z7 HB6 HN6 HX6 HS6 HR7 c0 c1 c2 c3 c4 c5 c6 c7
  go_wp2_with fail
  refine (HP2.out u8 (HGM.out.later HB8.out)).mono ?_
  rintro e u9 ⟨k9, rfl⟩
  have k10 : Below u9.heap.size u9 (u9.alloc (.cells #[.int .i64 zeroNd.k, .int .u64 (Oct.word zeroNd.s 0 : Nat), .int .u64 (Oct.word zeroNd.s 1 : Nat), .int .u64 (Oct.word zeroNd.s 2 : Nat), .int .u64 (Oct.word zeroNd.s 3 : Nat), .slice zeroNd.a zeroNd.n zeroNd.c, .int .i64 zeroNd.mn, .int .i64 zeroNd.mx] 28)) := (Below.refl _ _).alloc (Nat.le_refl _) _
  have k11 := below_step k9 k10
  have HB9 : Hid (Below w.heap.size w (u9.alloc (.cells #[.int .i64 zeroNd.k, .int .u64 (Oct.word zeroNd.s 0 : Nat), .int .u64 (Oct.word zeroNd.s 1 : Nat), .int .u64 (Oct.word zeroNd.s 2 : Nat), .int .u64 (Oct.word zeroNd.s 3 : Nat), .slice zeroNd.a zeroNd.n zeroNd.c, .int .i64 zeroNd.mn, .int .i64 zeroNd.mx] 28))) := below_step HB8.out k11
  have HN9 : Hid (NB (u9.alloc (.cells #[.int .i64 zeroNd.k, .int .u64 (Oct.word zeroNd.s 0 : Nat), .int .u64 (Oct.word zeroNd.s 1 : Nat), .int .u64 (Oct.word zeroNd.s 2 : Nat), .int .u64 (Oct.word zeroNd.s 3 : Nat), .slice zeroNd.a zeroNd.n zeroNd.c, .int .i64 zeroNd.mn, .int .i64 zeroNd.mx] 28)) A1 x) := HN8.out.later k11
  have HX9 : Hid (NodeAt (fun _ => True) (u9.alloc (.cells #[.int .i64 zeroNd.k, .int .u64 (Oct.word zeroNd.s 0 : Nat), .int .u64 (Oct.word zeroNd.s 1 : Nat), .int .u64 (Oct.word zeroNd.s 2 : Nat), .int .u64 (Oct.word zeroNd.s 3 : Nat), .slice zeroNd.a zeroNd.n zeroNd.c, .int .i64 zeroNd.mn, .int .i64 zeroNd.mx] 28)) TT x) := HX8.out.later k11
  have HW9 : Hid (NodeAt (fun _ => True) (u9.alloc (.cells #[.int .i64 zeroNd.k, .int .u64 (Oct.word zeroNd.s 0 : Nat), .int .u64 (Oct.word zeroNd.s 1 : Nat), .int .u64 (Oct.word zeroNd.s 2 : Nat), .int .u64 (Oct.word zeroNd.s 3 : Nat), .slice zeroNd.a zeroNd.n zeroNd.c, .int .i64 zeroNd.mn, .int .i64 zeroNd.mx] 28)) (WANT X1 X2) ⟨4, Oct.none, some ⟨G2, 0, none⟩, 2, 2, 0, 0⟩) := HW8.out.later k11
  have HNW9 : Hid (NB (u9.alloc (.cells #[.int .i64 zeroNd.k, .int .u64 (Oct.word zeroNd.s 0 : Nat), .int .u64 (Oct.word zeroNd.s 1 : Nat), .int .u64 (Oct.word zeroNd.s 2 : Nat), .int .u64 (Oct.word zeroNd.s 3 : Nat), .slice zeroNd.a zeroNd.n zeroNd.c, .int .i64 zeroNd.mn, .int .i64 zeroNd.mx] 28)) A6 ⟨4, Oct.none, some ⟨G2, 0, none⟩, 2, 2, 0, 0⟩) := HNW8.out.later k11
  obtain ⟨u10, hu10⟩ : ∃ u10, u9.alloc (.cells #[.int .i64 zeroNd.k, .int .u64 (Oct.word zeroNd.s 0 : Nat), .int .u64 (Oct.word zeroNd.s 1 : Nat), .int .u64 (Oct.word zeroNd.s 2 : Nat), .int .u64 (Oct.word zeroNd.s 3 : Nat), .slice zeroNd.a zeroNd.n zeroNd.c, .int .i64 zeroNd.mn, .int .i64 zeroNd.mx] 28) = u10 := ⟨_, rfl⟩
  rw [hu10] at HB9 HN9 HX9 HW9 HNW9
  have HU10 : Hid (_ = u10) := hu10
  clear k9 k10 k11 hu10 HB8 HN8 HX8 HW8 HNW8 HP2
  unfold Nd.val
  go_upto_region 6 with fail
  rw [HU10.out]
  clear HU10
  have hcw := HNW9.out.cells
  simp only [word0] at hcw
  obtain ⟨c0, c1, c2, c3, c4, c5, c6, c7⟩ := hcw
  obtain ⟨b0, b1, b2, b3, b4, b5, b6, b7⟩ := HN9.out.cells
  have HSAME : Hid (∀ u, Below u10.heap.size u10 u → Calls Try.prog 12 #[x.val, Nd.val ⟨4, Oct.none, some ⟨G2, 0, none⟩, 2, 2, 0, 0⟩] u fun e w' => e = .returned (.bool true) ∧ Below u.heap.size u w') := fun u hu => (same_any (HX9.out.inAt (N := 5) (by decide) (by decide) HGT.out) _ _ (HW9.out.inAt (N := 5) (by decide) (by decide) HGW.out) u hu).mono (fun _ _ h => ⟨by rw [h.1, HSM.out], h.2⟩)
  have HPLA : Hid (∀ u, Below u10.heap.size u10 u → Calls Try.prog 14 #[Nd.val ⟨4, Oct.none, some ⟨G2, 0, none⟩, 2, 2, 0, 0⟩] u fun e w' => e = .returned (.int .i64 8) ∧ Below u.heap.size u w') := fun u hu => (Places_any u ((HW9.out.later hu).inAt (N := 5) (by decide) (by decide) HGW.out)).mono (fun _ _ h => ⟨by rw [h.1, HPL.out]; rfl, h.2⟩)
  simp only [Nd.val, word0] at HSAME HPLA
  have HCW : Hid (∀ u, Below u10.heap.size u10 u → _) := fun u hu => (HNW9.out.later hu).cells
  clear HX9 HW9 HSM HPL HGT HGW HNW9
  go_wp2_with fail
  refine (num_any 0 _).mono ?_
  rintro e w' ⟨rfl, hw'⟩
  have hw' := hw'.symm
  subst hw'
  go_wp2_with fail
  refine (HSAME.out _ (Below.refl _ _)).mono ?_
  rintro e u11 ⟨rfl, k11⟩
  have HK11 : Hid (Below _ _ u11) := k11
  have HB11 : Hid (Below w.heap.size w u11) := below_step HB9.out k11
  clear k11 b0 b1 b2 b3 b4 b5 b6 b7 c0 c1 c2 c3 c4 c5 c6 c7 HN9 HSAME
  go_wp2_with fail
  refine (num_any 42 _).mono ?_
  rintro e w' ⟨rfl, hw'⟩
  have hw' := hw'.symm
  subst hw'
  have hcw := HCW.out _ HK11.out
  simp only [word0] at hcw
  obtain ⟨c0, c1, c2, c3, c4, c5, c6, c7⟩ := hcw
  go_wp2_with fail
  refine (HPLA.out _ HK11.out).mono ?_
  rintro e u12 ⟨rfl, k12⟩
  clear c0 c1 c2 c3 c4 c5 c6 c7
  have HB12 : Hid (Below w.heap.size w u12) := below_step HB11.out k12
  clear k12
  go_wp2
  go_ret
  exact ⟨rfl, HB12.out⟩
end Go.Proofs.Ytlcnmfgmgiijpaa
