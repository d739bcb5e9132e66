/- SimfsCrash: the region that holds one file against the others (typed by gen/sfreg35.py). -/
import Derived.Test.YtjlfhaehdllmcaaG40
namespace Go.Proofs.Ytjlfhaehdllmcaa
open Go.RowKit Go.Maps Sf

def Fr35 (act a : Act) : Prop := a.tmps.size = 218 ∧ a.defers = act.defers ∧ ∀ k, (k < 120 ∨ 179 ≤ k) → a.tmps[k]? = act.tmps[k]?
theorem Fr35.put {act a : Act} (h : Fr35 act a) {k : Nat} (hk : 120 ≤ k ∧ k < 179) (v : Value) : Fr35 act (a.put (some k) v) := by
  obtain ⟨h1, h2, h3⟩ := h
  refine ⟨by simp [Act.put, h1], by simp [Act.put, h2], fun j hj => ?_⟩
  simp only [Act.put]
  rw [Array.getElem?_setIfInBounds_ne (by omega)]
  exact h3 j hj
theorem Fr35.slot {act a : Act} (h : Fr35 act a) {k : Nat} (hk : k < 120) {v : Value} (hv : T act k = v) : T a k = v := by unfold T at hv ⊢; rw [h.2.2 k (.inl hk)]; exact hv
/-- the frame with the region's own slots laid anew -/
def laid35 (t : Array Value) (l : List Value) : Array Value := (t.toList.take 120 ++ (l ++ t.toList.drop 179)).toArray
set_option maxRecDepth 20000 in
theorem laid35_all {act a : Act} (h : Fr35 act a) (hs : act.tmps.size = 218) (l : List Value) (hl : l.length = 59) (hv : ∀ i v, l[i]? = some v → T a (120 + i) = v) : a = ⟨laid35 act.tmps l, act.defers⟩ := by
  have hs' : act.tmps.toList.length = 218 := by simpa using hs
  have ht : a.tmps = laid35 act.tmps l := by
    apply Array.ext_getElem?
    intro j
    unfold laid35
    show a.tmps[j]? = (act.tmps.toList.take 120 ++ (l ++ act.tmps.toList.drop 179)).toArray[j]?
    rw [show (act.tmps.toList.take 120 ++ (l ++ act.tmps.toList.drop 179)).toArray[j]? = (act.tmps.toList.take 120 ++ (l ++ act.tmps.toList.drop 179))[j]? from List.getElem?_toArray]
    by_cases h1 : j < 120
    · rw [List.getElem?_append_left (by rw [List.length_take]; omega), List.getElem?_take_of_lt h1, h.2.2 j (.inl h1)]
      simp
    · rw [List.getElem?_append_right (by rw [List.length_take]; omega), List.length_take, show min 120 act.tmps.toList.length = 120 by omega]
      by_cases h2 : j < 179
      · rw [List.getElem?_append_left (by omega)]
        have e := hv (j - 120) l[j - 120] (List.getElem?_eq_getElem (by omega))
        rw [List.getElem?_eq_getElem (by omega), ← e]
        unfold T
        rw [show 120 + (j - 120) = j by omega, Array.getElem?_eq_getElem (by rw [h.1]; omega)]
        rfl
      · rw [List.getElem?_append_right (by omega), List.getElem?_drop, hl, show 179 + (j - 120 - 59) = j by omega, h.2.2 j (.inr (by omega))]
        simp
  cases a
  simp only at ht
  have := h.2.1
  simp only at this
  rw [ht, this]
def R35 (n m bw cw bl cl bi ci ba ca bs cs bt ct : Nat) (i1 s1 g1 z1 i2 s2 g2 z2 : Nat) (y1 y2 y3 : ByteArray) : Nat → Value → World → Prop
  | 0, v, _ => v = .slice (some ⟨bi, 0, none⟩) m ci
  | 1, v, _ => v = .int .i64 (n : Nat)
  | 2, v, _ => v = .pointer (some ⟨bi, n * 5, none⟩)
  | 3, v, _ => v = .pointer (some ⟨bi, n * 5 + 4, none⟩)
  | 4, v, _ => v = .string y2
  | 5, v, _ => v = .slice (some ⟨bw, 0, none⟩) m cw
  | 6, v, _ => v = .int .i64 (n : Nat)
  | 7, v, _ => v = .pointer (some ⟨bw, n * 5, none⟩)
  | 8, v, _ => v = .pointer (some ⟨bw, n * 5 + 4, none⟩)
  | 9, v, _ => v = .string y1
  | 10, v, _ => v = .bool true
  | 11, v, _ => v = .bool false
  | 12, v, _ => v = .bool false
  | 13, v, _ => v = .slice (some ⟨bl, 0, none⟩) m cl
  | 14, v, _ => v = .int .i64 (n : Nat)
  | 15, v, _ => v = .pointer (some ⟨bl, n * 5, none⟩)
  | 16, v, _ => v = .pointer (some ⟨bl, n * 5 + 4, none⟩)
  | 17, v, _ => v = .string y3
  | 18, v, _ => v = .slice (some ⟨bi, 0, none⟩) m ci
  | 19, v, _ => v = .int .i64 (n : Nat)
  | 20, v, _ => v = .pointer (some ⟨bi, n * 5, none⟩)
  | 21, v, _ => v = .pointer (some ⟨bi, n * 5 + 4, none⟩)
  | 22, v, _ => v = .string y2
  | 23, v, _ => v = .bool true
  | 24, v, _ => v = .bool false
  | 25, v, _ => v = .bool false
  | 26, v, _ => v = .bool false
  | 27, v, _ => v = .slice (some ⟨ba, 0, none⟩) m ca
  | 28, v, _ => v = .int .i64 (n : Nat)
  | 29, v, _ => v = .pointer (some ⟨ba, n * 5, none⟩)
  | 30, v, _ => v = .agg #[.int .i64 (i2 : Nat), .int .i64 (s2 : Nat), .int .i64 (g2 : Nat), .int .i64 (z2 : Nat), .string y2]
  | 31, v, _ => v = .slice (some ⟨bi, 0, none⟩) m ci
  | 32, v, _ => v = .int .i64 (n : Nat)
  | 33, v, _ => v = .pointer (some ⟨bi, n * 5, none⟩)
  | 34, v, _ => v = .agg #[.int .i64 (i2 : Nat), .int .i64 (s2 : Nat), .int .i64 (g2 : Nat), .int .i64 (z2 : Nat), .string y2]
  | 35, v, _ => v = .bool false
  | 36, v, _ => v = .bool false
  | 37, v, _ => v = .bool false
  | 38, v, _ => v = .slice (some ⟨bs, 0, none⟩) m cs
  | 39, v, _ => v = .int .i64 (n : Nat)
  | 40, v, _ => v = .pointer (some ⟨bs, n * 5, none⟩)
  | 41, v, _ => v = .agg #[.int .i64 (i1 : Nat), .int .i64 (s1 : Nat), .int .i64 (g1 : Nat), .int .i64 (z1 : Nat), .string y1]
  | 42, v, _ => v = .slice (some ⟨bw, 0, none⟩) m cw
  | 43, v, _ => v = .int .i64 (n : Nat)
  | 44, v, _ => v = .pointer (some ⟨bw, n * 5, none⟩)
  | 45, v, _ => v = .agg #[.int .i64 (i1 : Nat), .int .i64 (s1 : Nat), .int .i64 (g1 : Nat), .int .i64 (z1 : Nat), .string y1]
  | 46, v, _ => v = .bool false
  | 47, v, _ => v = .bool false
  | 48, v, _ => v = .bool false
  | 49, v, _ => v = .slice (some ⟨bt, 0, none⟩) m ct
  | 50, v, _ => v = .int .i64 (n : Nat)
  | 51, v, _ => v = .pointer (some ⟨bt, n * 5, none⟩)
  | 52, v, _ => v = .agg #[.int .i64 (i1 : Nat), .int .i64 (s1 : Nat), .int .i64 (g1 : Nat), .int .i64 (z1 : Nat), .string y1]
  | 53, v, _ => v = .slice (some ⟨bw, 0, none⟩) m cw
  | 54, v, _ => v = .int .i64 (n : Nat)
  | 55, v, _ => v = .pointer (some ⟨bw, n * 5, none⟩)
  | 56, v, _ => v = .agg #[.int .i64 (i1 : Nat), .int .i64 (s1 : Nat), .int .i64 (g1 : Nat), .int .i64 (z1 : Nat), .string y1]
  | 57, v, _ => v = .bool false
  | 58, v, _ => v = .bool false
  | _, _, _ => True
set_option linter.unusedVariables false in
set_option maxRecDepth 100000 in
set_option maxHeartbeats 8000000 in
theorem reg35 (n m bw cw bl cl bi ci ba ca bs cs bt ct : Nat) (i1 s1 g1 z1 i2 s2 g2 z2 : Nat) (y1 y2 y3 : ByteArray) {act : Act} {w0 : World} {Q : Exit → Act → World → Prop} {ops : Array Oper} {new : Array Value} (hops : ops = opsOf Try.f4 35) (hsz : act.tmps.size = 218) (q10 : T act 10 = .slice (some ⟨bw, 0, none⟩) m cw) (q14 : T act 14 = .slice (some ⟨bl, 0, none⟩) m cl) (q17 : T act 17 = .slice (some ⟨bi, 0, none⟩) m ci) (q18 : T act 18 = .slice (some ⟨ba, 0, none⟩) m ca) (q19 : T act 19 = .slice (some ⟨bs, 0, none⟩) m cs) (q20 : T act 20 = .slice (some ⟨bt, 0, none⟩) m ct) (q21 : T act 21 = .int .i64 (n : Nat)) (l1 : (n : Int) < (m : Int)) (bw_0 : w0.cell? ⟨bw, n * 5, none⟩ = some (.int .i64 (i1 : Nat))) (bw_1 : w0.cell? ⟨bw, n * 5 + 1, none⟩ = some (.int .i64 (s1 : Nat))) (bw_2 : w0.cell? ⟨bw, n * 5 + 2, none⟩ = some (.int .i64 (g1 : Nat))) (bw_3 : w0.cell? ⟨bw, n * 5 + 3, none⟩ = some (.int .i64 (z1 : Nat))) (bw_4 : w0.cell? ⟨bw, n * 5 + 4, none⟩ = some (.string y1)) (bl_4 : w0.cell? ⟨bl, n * 5 + 4, none⟩ = some (.string y3)) (bi_0 : w0.cell? ⟨bi, n * 5, none⟩ = some (.int .i64 (i2 : Nat))) (bi_1 : w0.cell? ⟨bi, n * 5 + 1, none⟩ = some (.int .i64 (s2 : Nat))) (bi_2 : w0.cell? ⟨bi, n * 5 + 2, none⟩ = some (.int .i64 (g2 : Nat))) (bi_3 : w0.cell? ⟨bi, n * 5 + 3, none⟩ = some (.int .i64 (z2 : Nat))) (bi_4 : w0.cell? ⟨bi, n * 5 + 4, none⟩ = some (.string y2)) (ba_0 : w0.cell? ⟨ba, n * 5, none⟩ = some (.int .i64 (i2 : Nat))) (ba_1 : w0.cell? ⟨ba, n * 5 + 1, none⟩ = some (.int .i64 (s2 : Nat))) (ba_2 : w0.cell? ⟨ba, n * 5 + 2, none⟩ = some (.int .i64 (g2 : Nat))) (ba_3 : w0.cell? ⟨ba, n * 5 + 3, none⟩ = some (.int .i64 (z2 : Nat))) (ba_4 : w0.cell? ⟨ba, n * 5 + 4, none⟩ = some (.string y2)) (bs_0 : w0.cell? ⟨bs, n * 5, none⟩ = some (.int .i64 (i1 : Nat))) (bs_1 : w0.cell? ⟨bs, n * 5 + 1, none⟩ = some (.int .i64 (s1 : Nat))) (bs_2 : w0.cell? ⟨bs, n * 5 + 2, none⟩ = some (.int .i64 (g1 : Nat))) (bs_3 : w0.cell? ⟨bs, n * 5 + 3, none⟩ = some (.int .i64 (z1 : Nat))) (bs_4 : w0.cell? ⟨bs, n * 5 + 4, none⟩ = some (.string y1)) (bt_0 : w0.cell? ⟨bt, n * 5, none⟩ = some (.int .i64 (i1 : Nat))) (bt_1 : w0.cell? ⟨bt, n * 5 + 1, none⟩ = some (.int .i64 (s1 : Nat))) (bt_2 : w0.cell? ⟨bt, n * 5 + 2, none⟩ = some (.int .i64 (g1 : Nat))) (bt_3 : w0.cell? ⟨bt, n * 5 + 3, none⟩ = some (.int .i64 (z1 : Nat))) (bt_4 : w0.cell? ⟨bt, n * 5 + 4, none⟩ = some (.string y1)) (HB1 : ∀ u, Calls Try.prog 14 #[.string y2, .string y1] u fun e u' => e = .returned (.bool true) ∧ u' = u) (HB2 : ∀ u, Calls Try.prog 14 #[.string y3, .string y2] u fun e u' => e = .returned (.bool true) ∧ u' = u)
    (hnew : laid35 act.tmps [.slice (some ⟨bi, 0, none⟩) m ci, .int .i64 (n : Nat), .pointer (some ⟨bi, n * 5, none⟩), .pointer (some ⟨bi, n * 5 + 4, none⟩), .string y2, .slice (some ⟨bw, 0, none⟩) m cw, .int .i64 (n : Nat), .pointer (some ⟨bw, n * 5, none⟩), .pointer (some ⟨bw, n * 5 + 4, none⟩), .string y1, .bool true, .bool false, .bool false, .slice (some ⟨bl, 0, none⟩) m cl, .int .i64 (n : Nat), .pointer (some ⟨bl, n * 5, none⟩), .pointer (some ⟨bl, n * 5 + 4, none⟩), .string y3, .slice (some ⟨bi, 0, none⟩) m ci, .int .i64 (n : Nat), .pointer (some ⟨bi, n * 5, none⟩), .pointer (some ⟨bi, n * 5 + 4, none⟩), .string y2, .bool true, .bool false, .bool false, .bool false, .slice (some ⟨ba, 0, none⟩) m ca, .int .i64 (n : Nat), .pointer (some ⟨ba, n * 5, none⟩), .agg #[.int .i64 (i2 : Nat), .int .i64 (s2 : Nat), .int .i64 (g2 : Nat), .int .i64 (z2 : Nat), .string y2], .slice (some ⟨bi, 0, none⟩) m ci, .int .i64 (n : Nat), .pointer (some ⟨bi, n * 5, none⟩), .agg #[.int .i64 (i2 : Nat), .int .i64 (s2 : Nat), .int .i64 (g2 : Nat), .int .i64 (z2 : Nat), .string y2], .bool false, .bool false, .bool false, .slice (some ⟨bs, 0, none⟩) m cs, .int .i64 (n : Nat), .pointer (some ⟨bs, n * 5, none⟩), .agg #[.int .i64 (i1 : Nat), .int .i64 (s1 : Nat), .int .i64 (g1 : Nat), .int .i64 (z1 : Nat), .string y1], .slice (some ⟨bw, 0, none⟩) m cw, .int .i64 (n : Nat), .pointer (some ⟨bw, n * 5, none⟩), .agg #[.int .i64 (i1 : Nat), .int .i64 (s1 : Nat), .int .i64 (g1 : Nat), .int .i64 (z1 : Nat), .string y1], .bool false, .bool false, .bool false, .slice (some ⟨bt, 0, none⟩) m ct, .int .i64 (n : Nat), .pointer (some ⟨bt, n * 5, none⟩), .agg #[.int .i64 (i1 : Nat), .int .i64 (s1 : Nat), .int .i64 (g1 : Nat), .int .i64 (z1 : Nat), .string y1], .slice (some ⟨bw, 0, none⟩) m cw, .int .i64 (n : Nat), .pointer (some ⟨bw, n * 5, none⟩), .agg #[.int .i64 (i1 : Nat), .int .i64 (s1 : Nat), .int .i64 (g1 : Nat), .int .i64 (z1 : Nat), .string y1], .bool false, .bool false] = new) (K : ∀ w', Below w0.heap.size w0 w' → Q .normal ⟨new, act.defers⟩ w') : (Code.region 35 ops true).wp Try.prog Q act w0 := by
  subst hops
  subst hnew
  have hnn : (opsOf Try.f4 35).size = 59 := by kernel_rfl
  refine wp_region_slots (by kernel_rfl) (fun i => 120 + i) (R35 n m bw cw bl cl bi ci ba ca bs cs bt ct i1 s1 g1 z1 i2 s2 g2 z2 y1 y2 y3) (Fr35 act) (fun i v w w' h _ => ?_) (fun _ i v hi h => h.put (by omega) v) (fun _ i hi h => by rw [h.1]; show 120 + i < 218; omega) (fun i j _ _ h => by have h : 120 + i = 120 + j := h; omega) ?_ (fun y w h1 h2 h3 => ?_) ⟨hsz, rfl, fun _ _ => rfl⟩
  · unfold R35 at h ⊢
    split at h <;> exact h
  rotate_left
  · have e := laid35_all h1 hsz [.slice (some ⟨bi, 0, none⟩) m ci, .int .i64 (n : Nat), .pointer (some ⟨bi, n * 5, none⟩), .pointer (some ⟨bi, n * 5 + 4, none⟩), .string y2, .slice (some ⟨bw, 0, none⟩) m cw, .int .i64 (n : Nat), .pointer (some ⟨bw, n * 5, none⟩), .pointer (some ⟨bw, n * 5 + 4, none⟩), .string y1, .bool true, .bool false, .bool false, .slice (some ⟨bl, 0, none⟩) m cl, .int .i64 (n : Nat), .pointer (some ⟨bl, n * 5, none⟩), .pointer (some ⟨bl, n * 5 + 4, none⟩), .string y3, .slice (some ⟨bi, 0, none⟩) m ci, .int .i64 (n : Nat), .pointer (some ⟨bi, n * 5, none⟩), .pointer (some ⟨bi, n * 5 + 4, none⟩), .string y2, .bool true, .bool false, .bool false, .bool false, .slice (some ⟨ba, 0, none⟩) m ca, .int .i64 (n : Nat), .pointer (some ⟨ba, n * 5, none⟩), .agg #[.int .i64 (i2 : Nat), .int .i64 (s2 : Nat), .int .i64 (g2 : Nat), .int .i64 (z2 : Nat), .string y2], .slice (some ⟨bi, 0, none⟩) m ci, .int .i64 (n : Nat), .pointer (some ⟨bi, n * 5, none⟩), .agg #[.int .i64 (i2 : Nat), .int .i64 (s2 : Nat), .int .i64 (g2 : Nat), .int .i64 (z2 : Nat), .string y2], .bool false, .bool false, .bool false, .slice (some ⟨bs, 0, none⟩) m cs, .int .i64 (n : Nat), .pointer (some ⟨bs, n * 5, none⟩), .agg #[.int .i64 (i1 : Nat), .int .i64 (s1 : Nat), .int .i64 (g1 : Nat), .int .i64 (z1 : Nat), .string y1], .slice (some ⟨bw, 0, none⟩) m cw, .int .i64 (n : Nat), .pointer (some ⟨bw, n * 5, none⟩), .agg #[.int .i64 (i1 : Nat), .int .i64 (s1 : Nat), .int .i64 (g1 : Nat), .int .i64 (z1 : Nat), .string y1], .bool false, .bool false, .bool false, .slice (some ⟨bt, 0, none⟩) m ct, .int .i64 (n : Nat), .pointer (some ⟨bt, n * 5, none⟩), .agg #[.int .i64 (i1 : Nat), .int .i64 (s1 : Nat), .int .i64 (g1 : Nat), .int .i64 (z1 : Nat), .string y1], .slice (some ⟨bw, 0, none⟩) m cw, .int .i64 (n : Nat), .pointer (some ⟨bw, n * 5, none⟩), .agg #[.int .i64 (i1 : Nat), .int .i64 (s1 : Nat), .int .i64 (g1 : Nat), .int .i64 (z1 : Nat), .string y1], .bool false, .bool false] rfl (fun i v hv => ?_)
    · rw [e]; exact K w h2
    · have hi : i < 59 := (List.getElem?_eq_some_iff.1 hv).1
      have h := h3 i (by omega)
      match i, hi, hv, h with
      | 0, _, hv, h => exact (show T y (120 + 0) = _ from h).trans (Option.some.inj hv)
      | 1, _, hv, h => exact (show T y (120 + 1) = _ from h).trans (Option.some.inj hv)
      | 2, _, hv, h => exact (show T y (120 + 2) = _ from h).trans (Option.some.inj hv)
      | 3, _, hv, h => exact (show T y (120 + 3) = _ from h).trans (Option.some.inj hv)
      | 4, _, hv, h => exact (show T y (120 + 4) = _ from h).trans (Option.some.inj hv)
      | 5, _, hv, h => exact (show T y (120 + 5) = _ from h).trans (Option.some.inj hv)
      | 6, _, hv, h => exact (show T y (120 + 6) = _ from h).trans (Option.some.inj hv)
      | 7, _, hv, h => exact (show T y (120 + 7) = _ from h).trans (Option.some.inj hv)
      | 8, _, hv, h => exact (show T y (120 + 8) = _ from h).trans (Option.some.inj hv)
      | 9, _, hv, h => exact (show T y (120 + 9) = _ from h).trans (Option.some.inj hv)
      | 10, _, hv, h => exact (show T y (120 + 10) = _ from h).trans (Option.some.inj hv)
      | 11, _, hv, h => exact (show T y (120 + 11) = _ from h).trans (Option.some.inj hv)
      | 12, _, hv, h => exact (show T y (120 + 12) = _ from h).trans (Option.some.inj hv)
      | 13, _, hv, h => exact (show T y (120 + 13) = _ from h).trans (Option.some.inj hv)
      | 14, _, hv, h => exact (show T y (120 + 14) = _ from h).trans (Option.some.inj hv)
      | 15, _, hv, h => exact (show T y (120 + 15) = _ from h).trans (Option.some.inj hv)
      | 16, _, hv, h => exact (show T y (120 + 16) = _ from h).trans (Option.some.inj hv)
      | 17, _, hv, h => exact (show T y (120 + 17) = _ from h).trans (Option.some.inj hv)
      | 18, _, hv, h => exact (show T y (120 + 18) = _ from h).trans (Option.some.inj hv)
      | 19, _, hv, h => exact (show T y (120 + 19) = _ from h).trans (Option.some.inj hv)
      | 20, _, hv, h => exact (show T y (120 + 20) = _ from h).trans (Option.some.inj hv)
      | 21, _, hv, h => exact (show T y (120 + 21) = _ from h).trans (Option.some.inj hv)
      | 22, _, hv, h => exact (show T y (120 + 22) = _ from h).trans (Option.some.inj hv)
      | 23, _, hv, h => exact (show T y (120 + 23) = _ from h).trans (Option.some.inj hv)
      | 24, _, hv, h => exact (show T y (120 + 24) = _ from h).trans (Option.some.inj hv)
      | 25, _, hv, h => exact (show T y (120 + 25) = _ from h).trans (Option.some.inj hv)
      | 26, _, hv, h => exact (show T y (120 + 26) = _ from h).trans (Option.some.inj hv)
      | 27, _, hv, h => exact (show T y (120 + 27) = _ from h).trans (Option.some.inj hv)
      | 28, _, hv, h => exact (show T y (120 + 28) = _ from h).trans (Option.some.inj hv)
      | 29, _, hv, h => exact (show T y (120 + 29) = _ from h).trans (Option.some.inj hv)
      | 30, _, hv, h => exact (show T y (120 + 30) = _ from h).trans (Option.some.inj hv)
      | 31, _, hv, h => exact (show T y (120 + 31) = _ from h).trans (Option.some.inj hv)
      | 32, _, hv, h => exact (show T y (120 + 32) = _ from h).trans (Option.some.inj hv)
      | 33, _, hv, h => exact (show T y (120 + 33) = _ from h).trans (Option.some.inj hv)
      | 34, _, hv, h => exact (show T y (120 + 34) = _ from h).trans (Option.some.inj hv)
      | 35, _, hv, h => exact (show T y (120 + 35) = _ from h).trans (Option.some.inj hv)
      | 36, _, hv, h => exact (show T y (120 + 36) = _ from h).trans (Option.some.inj hv)
      | 37, _, hv, h => exact (show T y (120 + 37) = _ from h).trans (Option.some.inj hv)
      | 38, _, hv, h => exact (show T y (120 + 38) = _ from h).trans (Option.some.inj hv)
      | 39, _, hv, h => exact (show T y (120 + 39) = _ from h).trans (Option.some.inj hv)
      | 40, _, hv, h => exact (show T y (120 + 40) = _ from h).trans (Option.some.inj hv)
      | 41, _, hv, h => exact (show T y (120 + 41) = _ from h).trans (Option.some.inj hv)
      | 42, _, hv, h => exact (show T y (120 + 42) = _ from h).trans (Option.some.inj hv)
      | 43, _, hv, h => exact (show T y (120 + 43) = _ from h).trans (Option.some.inj hv)
      | 44, _, hv, h => exact (show T y (120 + 44) = _ from h).trans (Option.some.inj hv)
      | 45, _, hv, h => exact (show T y (120 + 45) = _ from h).trans (Option.some.inj hv)
      | 46, _, hv, h => exact (show T y (120 + 46) = _ from h).trans (Option.some.inj hv)
      | 47, _, hv, h => exact (show T y (120 + 47) = _ from h).trans (Option.some.inj hv)
      | 48, _, hv, h => exact (show T y (120 + 48) = _ from h).trans (Option.some.inj hv)
      | 49, _, hv, h => exact (show T y (120 + 49) = _ from h).trans (Option.some.inj hv)
      | 50, _, hv, h => exact (show T y (120 + 50) = _ from h).trans (Option.some.inj hv)
      | 51, _, hv, h => exact (show T y (120 + 51) = _ from h).trans (Option.some.inj hv)
      | 52, _, hv, h => exact (show T y (120 + 52) = _ from h).trans (Option.some.inj hv)
      | 53, _, hv, h => exact (show T y (120 + 53) = _ from h).trans (Option.some.inj hv)
      | 54, _, hv, h => exact (show T y (120 + 54) = _ from h).trans (Option.some.inj hv)
      | 55, _, hv, h => exact (show T y (120 + 55) = _ from h).trans (Option.some.inj hv)
      | 56, _, hv, h => exact (show T y (120 + 56) = _ from h).trans (Option.some.inj hv)
      | 57, _, hv, h => exact (show T y (120 + 57) = _ from h).trans (Option.some.inj hv)
      | 58, _, hv, h => exact (show T y (120 + 58) = _ from h).trans (Option.some.inj hv)
  refine ⟨duty_free rfl (by simp) rfl (fun act' w hF hB hE Q => by have f17 := hF.slot (k := 17) (by omega) q17; exact ob_value (v := .slice (some ⟨bi, 0, none⟩) m ci) (w' := w) (by simp [execOp, Act.eval, go_sem, f17]) (Below.refl _ _) rfl), ?_⟩
  refine ⟨duty_free rfl (by simp) rfl (fun act' w hF hB hE Q => by have f21 := hF.slot (k := 21) (by omega) q21; exact ob_value (v := .int .i64 (n : Nat)) (w' := w) (by simp [execOp, Act.eval, go_sem, f21]) (Below.refl _ _) rfl), ?_⟩
  refine ⟨duty_free rfl (by simp) rfl (fun act' w hF hB hE Q => by have h0 : T act' 120 = .slice (some ⟨bi, 0, none⟩) m ci := hE ⟨0, .data⟩ (by simp) rfl; have h1 : T act' 121 = .int .i64 (n : Nat) := hE ⟨1, .data⟩ (by simp) rfl; exact ob_value (v := .pointer (some ⟨bi, n * 5, none⟩)) (w' := w) (by simp [execOp, Act.eval, go_sem, h0, h1, l1]) (Below.refl _ _) rfl), ?_⟩
  refine ⟨duty_free rfl (by simp) rfl (fun act' w hF hB hE Q => by have h2 : T act' 122 = .pointer (some ⟨bi, n * 5, none⟩) := hE ⟨2, .data⟩ (by simp) rfl; exact ob_value (v := .pointer (some ⟨bi, n * 5 + 4, none⟩)) (w' := w) (by simp [execOp, Act.eval, go_sem, h2]) (Below.refl _ _) rfl), ?_⟩
  refine ⟨duty_free rfl (by simp) rfl (fun act' w hF hB hE Q => by have h3 : T act' 123 = .pointer (some ⟨bi, n * 5 + 4, none⟩) := hE ⟨3, .data⟩ (by simp) rfl; have x4 := cell_later hB _ _ _ bi_4; exact ob_value (v := .string y2) (w' := w) (by simp [execOp, Act.eval, go_sem, h3, x4]) (Below.refl _ _) rfl), ?_⟩
  refine ⟨duty_free rfl (by simp) rfl (fun act' w hF hB hE Q => by have f10 := hF.slot (k := 10) (by omega) q10; exact ob_value (v := .slice (some ⟨bw, 0, none⟩) m cw) (w' := w) (by simp [execOp, Act.eval, go_sem, f10]) (Below.refl _ _) rfl), ?_⟩
  refine ⟨duty_free rfl (by simp) rfl (fun act' w hF hB hE Q => by have f21 := hF.slot (k := 21) (by omega) q21; exact ob_value (v := .int .i64 (n : Nat)) (w' := w) (by simp [execOp, Act.eval, go_sem, f21]) (Below.refl _ _) rfl), ?_⟩
  refine ⟨duty_free rfl (by simp) rfl (fun act' w hF hB hE Q => by have h5 : T act' 125 = .slice (some ⟨bw, 0, none⟩) m cw := hE ⟨5, .data⟩ (by simp) rfl; have h6 : T act' 126 = .int .i64 (n : Nat) := hE ⟨6, .data⟩ (by simp) rfl; exact ob_value (v := .pointer (some ⟨bw, n * 5, none⟩)) (w' := w) (by simp [execOp, Act.eval, go_sem, h5, h6, l1]) (Below.refl _ _) rfl), ?_⟩
  refine ⟨duty_free rfl (by simp) rfl (fun act' w hF hB hE Q => by have h7 : T act' 127 = .pointer (some ⟨bw, n * 5, none⟩) := hE ⟨7, .data⟩ (by simp) rfl; exact ob_value (v := .pointer (some ⟨bw, n * 5 + 4, none⟩)) (w' := w) (by simp [execOp, Act.eval, go_sem, h7]) (Below.refl _ _) rfl), ?_⟩
  refine ⟨duty_free rfl (by simp) rfl (fun act' w hF hB hE Q => by have h8 : T act' 128 = .pointer (some ⟨bw, n * 5 + 4, none⟩) := hE ⟨8, .data⟩ (by simp) rfl; have x4 := cell_later hB _ _ _ bw_4; exact ob_value (v := .string y1) (w' := w) (by simp [execOp, Act.eval, go_sem, h8, x4]) (Below.refl _ _) rfl), ?_⟩
  refine ⟨duty_free rfl (by simp) rfl (fun act' w hF hB hE Q => by have h4 : T act' 124 = .string y2 := hE ⟨4, .data⟩ (by simp) rfl; have h9 : T act' 129 = .string y1 := hE ⟨9, .data⟩ (by simp) rfl; exact ob_call2 rfl (fun args w => by simp [go_sem]) h4 h9 ((HB1 w).mono (fun e w' h => ⟨.bool true, h.1, by rw [h.2]; exact Below.refl _ _, rfl⟩))), ?_⟩
  refine ⟨duty_free rfl (by simp) rfl (fun act' w hF hB hE Q => by have h10 : T act' 130 = .bool true := hE ⟨10, .data⟩ (by simp) rfl; exact ob_value (v := .bool false) (w' := w) (by simp [execOp, Act.eval, go_sem, h10]) (Below.refl _ _) rfl), ?_⟩
  refine ⟨duty_free rfl (by simp) rfl (fun act' w hF hB hE Q => by have h11 : T act' 131 = .bool false := hE ⟨11, .data⟩ (by simp) rfl; exact ob_value (v := .bool false) (w' := w) (by simp [execOp, Act.eval, go_sem, h11]) (Below.refl _ _) rfl), ?_⟩
  refine ⟨duty_met (j := 12) (b := false) rfl (by simp) rfl rfl (by simp) (fun _ _ h => h) (fun act' w hF hB hE Q => by have f14 := hF.slot (k := 14) (by omega) q14; exact ob_value (v := .slice (some ⟨bl, 0, none⟩) m cl) (w' := w) (by simp [execOp, Act.eval, go_sem, f14]) (Below.refl _ _) rfl), ?_⟩
  refine ⟨duty_met (j := 12) (b := false) rfl (by simp) rfl rfl (by simp) (fun _ _ h => h) (fun act' w hF hB hE Q => by have f21 := hF.slot (k := 21) (by omega) q21; exact ob_value (v := .int .i64 (n : Nat)) (w' := w) (by simp [execOp, Act.eval, go_sem, f21]) (Below.refl _ _) rfl), ?_⟩
  refine ⟨duty_met (j := 12) (b := false) rfl (by simp) rfl rfl (by simp) (fun _ _ h => h) (fun act' w hF hB hE Q => by have h13 : T act' 133 = .slice (some ⟨bl, 0, none⟩) m cl := hE ⟨13, .data⟩ (by simp) rfl; have h14 : T act' 134 = .int .i64 (n : Nat) := hE ⟨14, .data⟩ (by simp) rfl; exact ob_value (v := .pointer (some ⟨bl, n * 5, none⟩)) (w' := w) (by simp [execOp, Act.eval, go_sem, h13, h14, l1]) (Below.refl _ _) rfl), ?_⟩
  refine ⟨duty_met (j := 12) (b := false) rfl (by simp) rfl rfl (by simp) (fun _ _ h => h) (fun act' w hF hB hE Q => by have h15 : T act' 135 = .pointer (some ⟨bl, n * 5, none⟩) := hE ⟨15, .data⟩ (by simp) rfl; exact ob_value (v := .pointer (some ⟨bl, n * 5 + 4, none⟩)) (w' := w) (by simp [execOp, Act.eval, go_sem, h15]) (Below.refl _ _) rfl), ?_⟩
  refine ⟨duty_met (j := 12) (b := false) rfl (by simp) rfl rfl (by simp) (fun _ _ h => h) (fun act' w hF hB hE Q => by have h16 : T act' 136 = .pointer (some ⟨bl, n * 5 + 4, none⟩) := hE ⟨16, .data⟩ (by simp) rfl; have x4 := cell_later hB _ _ _ bl_4; exact ob_value (v := .string y3) (w' := w) (by simp [execOp, Act.eval, go_sem, h16, x4]) (Below.refl _ _) rfl), ?_⟩
  refine ⟨duty_met (j := 12) (b := false) rfl (by simp) rfl rfl (by simp) (fun _ _ h => h) (fun act' w hF hB hE Q => by have f17 := hF.slot (k := 17) (by omega) q17; exact ob_value (v := .slice (some ⟨bi, 0, none⟩) m ci) (w' := w) (by simp [execOp, Act.eval, go_sem, f17]) (Below.refl _ _) rfl), ?_⟩
  refine ⟨duty_met (j := 12) (b := false) rfl (by simp) rfl rfl (by simp) (fun _ _ h => h) (fun act' w hF hB hE Q => by have f21 := hF.slot (k := 21) (by omega) q21; exact ob_value (v := .int .i64 (n : Nat)) (w' := w) (by simp [execOp, Act.eval, go_sem, f21]) (Below.refl _ _) rfl), ?_⟩
  refine ⟨duty_met (j := 12) (b := false) rfl (by simp) rfl rfl (by simp) (fun _ _ h => h) (fun act' w hF hB hE Q => by have h18 : T act' 138 = .slice (some ⟨bi, 0, none⟩) m ci := hE ⟨18, .data⟩ (by simp) rfl; have h19 : T act' 139 = .int .i64 (n : Nat) := hE ⟨19, .data⟩ (by simp) rfl; exact ob_value (v := .pointer (some ⟨bi, n * 5, none⟩)) (w' := w) (by simp [execOp, Act.eval, go_sem, h18, h19, l1]) (Below.refl _ _) rfl), ?_⟩
  refine ⟨duty_met (j := 12) (b := false) rfl (by simp) rfl rfl (by simp) (fun _ _ h => h) (fun act' w hF hB hE Q => by have h20 : T act' 140 = .pointer (some ⟨bi, n * 5, none⟩) := hE ⟨20, .data⟩ (by simp) rfl; exact ob_value (v := .pointer (some ⟨bi, n * 5 + 4, none⟩)) (w' := w) (by simp [execOp, Act.eval, go_sem, h20]) (Below.refl _ _) rfl), ?_⟩
  refine ⟨duty_met (j := 12) (b := false) rfl (by simp) rfl rfl (by simp) (fun _ _ h => h) (fun act' w hF hB hE Q => by have h21 : T act' 141 = .pointer (some ⟨bi, n * 5 + 4, none⟩) := hE ⟨21, .data⟩ (by simp) rfl; have x4 := cell_later hB _ _ _ bi_4; exact ob_value (v := .string y2) (w' := w) (by simp [execOp, Act.eval, go_sem, h21, x4]) (Below.refl _ _) rfl), ?_⟩
  refine ⟨duty_met (j := 12) (b := false) rfl (by simp) rfl rfl (by simp) (fun _ _ h => h) (fun act' w hF hB hE Q => by have h17 : T act' 137 = .string y3 := hE ⟨17, .data⟩ (by simp) rfl; have h22 : T act' 142 = .string y2 := hE ⟨22, .data⟩ (by simp) rfl; exact ob_call2 rfl (fun args w => by simp [go_sem]) h17 h22 ((HB2 w).mono (fun e w' h => ⟨.bool true, h.1, by rw [h.2]; exact Below.refl _ _, rfl⟩))), ?_⟩
  refine ⟨duty_met (j := 12) (b := false) rfl (by simp) rfl rfl (by simp) (fun _ _ h => h) (fun act' w hF hB hE Q => by have h23 : T act' 143 = .bool true := hE ⟨23, .data⟩ (by simp) rfl; exact ob_value (v := .bool false) (w' := w) (by simp [execOp, Act.eval, go_sem, h23]) (Below.refl _ _) rfl), ?_⟩
  refine ⟨duty_free rfl (by simp) rfl (fun act' w hF hB hE Q => by have h12 : T act' 132 = .bool false := hE ⟨12, .data⟩ (by simp) rfl; have h24 : T act' 144 = .bool false := hE ⟨24, .data⟩ (by simp) rfl; exact ob_value (v := .bool false) (w' := w) (by simp [execOp, Act.eval, go_sem, h12, h24]) (Below.refl _ _) rfl), ?_⟩
  refine ⟨duty_free rfl (by simp) rfl (fun act' w hF hB hE Q => by have h25 : T act' 145 = .bool false := hE ⟨25, .data⟩ (by simp) rfl; exact ob_value (v := .bool false) (w' := w) (by simp [execOp, Act.eval, go_sem, h25]) (Below.refl _ _) rfl), ?_⟩
  refine ⟨duty_met (j := 26) (b := false) rfl (by simp) rfl rfl (by simp) (fun _ _ h => h) (fun act' w hF hB hE Q => by have f18 := hF.slot (k := 18) (by omega) q18; exact ob_value (v := .slice (some ⟨ba, 0, none⟩) m ca) (w' := w) (by simp [execOp, Act.eval, go_sem, f18]) (Below.refl _ _) rfl), ?_⟩
  refine ⟨duty_met (j := 26) (b := false) rfl (by simp) rfl rfl (by simp) (fun _ _ h => h) (fun act' w hF hB hE Q => by have f21 := hF.slot (k := 21) (by omega) q21; exact ob_value (v := .int .i64 (n : Nat)) (w' := w) (by simp [execOp, Act.eval, go_sem, f21]) (Below.refl _ _) rfl), ?_⟩
  refine ⟨duty_met (j := 26) (b := false) rfl (by simp) rfl rfl (by simp) (fun _ _ h => h) (fun act' w hF hB hE Q => by have h27 : T act' 147 = .slice (some ⟨ba, 0, none⟩) m ca := hE ⟨27, .data⟩ (by simp) rfl; have h28 : T act' 148 = .int .i64 (n : Nat) := hE ⟨28, .data⟩ (by simp) rfl; exact ob_value (v := .pointer (some ⟨ba, n * 5, none⟩)) (w' := w) (by simp [execOp, Act.eval, go_sem, h27, h28, l1]) (Below.refl _ _) rfl), ?_⟩
  refine ⟨duty_met (j := 26) (b := false) rfl (by simp) rfl rfl (by simp) (fun _ _ h => h) (fun act' w hF hB hE Q => by have h29 : T act' 149 = .pointer (some ⟨ba, n * 5, none⟩) := hE ⟨29, .data⟩ (by simp) rfl; have x0 := cell_later hB _ _ _ ba_0; have x1 := cell_later hB _ _ _ ba_1; have x2 := cell_later hB _ _ _ ba_2; have x3 := cell_later hB _ _ _ ba_3; have x4 := cell_later hB _ _ _ ba_4; exact ob_value (v := .agg #[.int .i64 (i2 : Nat), .int .i64 (s2 : Nat), .int .i64 (g2 : Nat), .int .i64 (z2 : Nat), .string y2]) (w' := w) (by simp [execOp, Act.eval, go_sem, h29, x0, x1, x2, x3, x4]) (Below.refl _ _) rfl), ?_⟩
  refine ⟨duty_met (j := 26) (b := false) rfl (by simp) rfl rfl (by simp) (fun _ _ h => h) (fun act' w hF hB hE Q => by have f17 := hF.slot (k := 17) (by omega) q17; exact ob_value (v := .slice (some ⟨bi, 0, none⟩) m ci) (w' := w) (by simp [execOp, Act.eval, go_sem, f17]) (Below.refl _ _) rfl), ?_⟩
  refine ⟨duty_met (j := 26) (b := false) rfl (by simp) rfl rfl (by simp) (fun _ _ h => h) (fun act' w hF hB hE Q => by have f21 := hF.slot (k := 21) (by omega) q21; exact ob_value (v := .int .i64 (n : Nat)) (w' := w) (by simp [execOp, Act.eval, go_sem, f21]) (Below.refl _ _) rfl), ?_⟩
  refine ⟨duty_met (j := 26) (b := false) rfl (by simp) rfl rfl (by simp) (fun _ _ h => h) (fun act' w hF hB hE Q => by have h31 : T act' 151 = .slice (some ⟨bi, 0, none⟩) m ci := hE ⟨31, .data⟩ (by simp) rfl; have h32 : T act' 152 = .int .i64 (n : Nat) := hE ⟨32, .data⟩ (by simp) rfl; exact ob_value (v := .pointer (some ⟨bi, n * 5, none⟩)) (w' := w) (by simp [execOp, Act.eval, go_sem, h31, h32, l1]) (Below.refl _ _) rfl), ?_⟩
  refine ⟨duty_met (j := 26) (b := false) rfl (by simp) rfl rfl (by simp) (fun _ _ h => h) (fun act' w hF hB hE Q => by have h33 : T act' 153 = .pointer (some ⟨bi, n * 5, none⟩) := hE ⟨33, .data⟩ (by simp) rfl; have x0 := cell_later hB _ _ _ bi_0; have x1 := cell_later hB _ _ _ bi_1; have x2 := cell_later hB _ _ _ bi_2; have x3 := cell_later hB _ _ _ bi_3; have x4 := cell_later hB _ _ _ bi_4; exact ob_value (v := .agg #[.int .i64 (i2 : Nat), .int .i64 (s2 : Nat), .int .i64 (g2 : Nat), .int .i64 (z2 : Nat), .string y2]) (w' := w) (by simp [execOp, Act.eval, go_sem, h33, x0, x1, x2, x3, x4]) (Below.refl _ _) rfl), ?_⟩
  refine ⟨duty_met (j := 26) (b := false) rfl (by simp) rfl rfl (by simp) (fun _ _ h => h) (fun act' w hF hB hE Q => by have h30 : T act' 150 = .agg #[.int .i64 (i2 : Nat), .int .i64 (s2 : Nat), .int .i64 (g2 : Nat), .int .i64 (z2 : Nat), .string y2] := hE ⟨30, .data⟩ (by simp) rfl; have h34 : T act' 154 = .agg #[.int .i64 (i2 : Nat), .int .i64 (s2 : Nat), .int .i64 (g2 : Nat), .int .i64 (z2 : Nat), .string y2] := hE ⟨34, .data⟩ (by simp) rfl; exact ob_value (v := .bool false) (w' := w) (by simp [execOp, Act.eval, go_sem, h30, h34]) (Below.refl _ _) rfl), ?_⟩
  refine ⟨duty_free rfl (by simp) rfl (fun act' w hF hB hE Q => by have h26 : T act' 146 = .bool false := hE ⟨26, .data⟩ (by simp) rfl; have h35 : T act' 155 = .bool false := hE ⟨35, .data⟩ (by simp) rfl; exact ob_value (v := .bool false) (w' := w) (by simp [execOp, Act.eval, go_sem, h26, h35]) (Below.refl _ _) rfl), ?_⟩
  refine ⟨duty_free rfl (by simp) rfl (fun act' w hF hB hE Q => by have h36 : T act' 156 = .bool false := hE ⟨36, .data⟩ (by simp) rfl; exact ob_value (v := .bool false) (w' := w) (by simp [execOp, Act.eval, go_sem, h36]) (Below.refl _ _) rfl), ?_⟩
  refine ⟨duty_met (j := 37) (b := false) rfl (by simp) rfl rfl (by simp) (fun _ _ h => h) (fun act' w hF hB hE Q => by have f19 := hF.slot (k := 19) (by omega) q19; exact ob_value (v := .slice (some ⟨bs, 0, none⟩) m cs) (w' := w) (by simp [execOp, Act.eval, go_sem, f19]) (Below.refl _ _) rfl), ?_⟩
  refine ⟨duty_met (j := 37) (b := false) rfl (by simp) rfl rfl (by simp) (fun _ _ h => h) (fun act' w hF hB hE Q => by have f21 := hF.slot (k := 21) (by omega) q21; exact ob_value (v := .int .i64 (n : Nat)) (w' := w) (by simp [execOp, Act.eval, go_sem, f21]) (Below.refl _ _) rfl), ?_⟩
  refine ⟨duty_met (j := 37) (b := false) rfl (by simp) rfl rfl (by simp) (fun _ _ h => h) (fun act' w hF hB hE Q => by have h38 : T act' 158 = .slice (some ⟨bs, 0, none⟩) m cs := hE ⟨38, .data⟩ (by simp) rfl; have h39 : T act' 159 = .int .i64 (n : Nat) := hE ⟨39, .data⟩ (by simp) rfl; exact ob_value (v := .pointer (some ⟨bs, n * 5, none⟩)) (w' := w) (by simp [execOp, Act.eval, go_sem, h38, h39, l1]) (Below.refl _ _) rfl), ?_⟩
  refine ⟨duty_met (j := 37) (b := false) rfl (by simp) rfl rfl (by simp) (fun _ _ h => h) (fun act' w hF hB hE Q => by have h40 : T act' 160 = .pointer (some ⟨bs, n * 5, none⟩) := hE ⟨40, .data⟩ (by simp) rfl; have x0 := cell_later hB _ _ _ bs_0; have x1 := cell_later hB _ _ _ bs_1; have x2 := cell_later hB _ _ _ bs_2; have x3 := cell_later hB _ _ _ bs_3; have x4 := cell_later hB _ _ _ bs_4; exact ob_value (v := .agg #[.int .i64 (i1 : Nat), .int .i64 (s1 : Nat), .int .i64 (g1 : Nat), .int .i64 (z1 : Nat), .string y1]) (w' := w) (by simp [execOp, Act.eval, go_sem, h40, x0, x1, x2, x3, x4]) (Below.refl _ _) rfl), ?_⟩
  refine ⟨duty_met (j := 37) (b := false) rfl (by simp) rfl rfl (by simp) (fun _ _ h => h) (fun act' w hF hB hE Q => by have f10 := hF.slot (k := 10) (by omega) q10; exact ob_value (v := .slice (some ⟨bw, 0, none⟩) m cw) (w' := w) (by simp [execOp, Act.eval, go_sem, f10]) (Below.refl _ _) rfl), ?_⟩
  refine ⟨duty_met (j := 37) (b := false) rfl (by simp) rfl rfl (by simp) (fun _ _ h => h) (fun act' w hF hB hE Q => by have f21 := hF.slot (k := 21) (by omega) q21; exact ob_value (v := .int .i64 (n : Nat)) (w' := w) (by simp [execOp, Act.eval, go_sem, f21]) (Below.refl _ _) rfl), ?_⟩
  refine ⟨duty_met (j := 37) (b := false) rfl (by simp) rfl rfl (by simp) (fun _ _ h => h) (fun act' w hF hB hE Q => by have h42 : T act' 162 = .slice (some ⟨bw, 0, none⟩) m cw := hE ⟨42, .data⟩ (by simp) rfl; have h43 : T act' 163 = .int .i64 (n : Nat) := hE ⟨43, .data⟩ (by simp) rfl; exact ob_value (v := .pointer (some ⟨bw, n * 5, none⟩)) (w' := w) (by simp [execOp, Act.eval, go_sem, h42, h43, l1]) (Below.refl _ _) rfl), ?_⟩
  refine ⟨duty_met (j := 37) (b := false) rfl (by simp) rfl rfl (by simp) (fun _ _ h => h) (fun act' w hF hB hE Q => by have h44 : T act' 164 = .pointer (some ⟨bw, n * 5, none⟩) := hE ⟨44, .data⟩ (by simp) rfl; have x0 := cell_later hB _ _ _ bw_0; have x1 := cell_later hB _ _ _ bw_1; have x2 := cell_later hB _ _ _ bw_2; have x3 := cell_later hB _ _ _ bw_3; have x4 := cell_later hB _ _ _ bw_4; exact ob_value (v := .agg #[.int .i64 (i1 : Nat), .int .i64 (s1 : Nat), .int .i64 (g1 : Nat), .int .i64 (z1 : Nat), .string y1]) (w' := w) (by simp [execOp, Act.eval, go_sem, h44, x0, x1, x2, x3, x4]) (Below.refl _ _) rfl), ?_⟩
  refine ⟨duty_met (j := 37) (b := false) rfl (by simp) rfl rfl (by simp) (fun _ _ h => h) (fun act' w hF hB hE Q => by have h41 : T act' 161 = .agg #[.int .i64 (i1 : Nat), .int .i64 (s1 : Nat), .int .i64 (g1 : Nat), .int .i64 (z1 : Nat), .string y1] := hE ⟨41, .data⟩ (by simp) rfl; have h45 : T act' 165 = .agg #[.int .i64 (i1 : Nat), .int .i64 (s1 : Nat), .int .i64 (g1 : Nat), .int .i64 (z1 : Nat), .string y1] := hE ⟨45, .data⟩ (by simp) rfl; exact ob_value (v := .bool false) (w' := w) (by simp [execOp, Act.eval, go_sem, h41, h45]) (Below.refl _ _) rfl), ?_⟩
  refine ⟨duty_free rfl (by simp) rfl (fun act' w hF hB hE Q => by have h37 : T act' 157 = .bool false := hE ⟨37, .data⟩ (by simp) rfl; have h46 : T act' 166 = .bool false := hE ⟨46, .data⟩ (by simp) rfl; exact ob_value (v := .bool false) (w' := w) (by simp [execOp, Act.eval, go_sem, h37, h46]) (Below.refl _ _) rfl), ?_⟩
  refine ⟨duty_free rfl (by simp) rfl (fun act' w hF hB hE Q => by have h47 : T act' 167 = .bool false := hE ⟨47, .data⟩ (by simp) rfl; exact ob_value (v := .bool false) (w' := w) (by simp [execOp, Act.eval, go_sem, h47]) (Below.refl _ _) rfl), ?_⟩
  refine ⟨duty_met (j := 48) (b := false) rfl (by simp) rfl rfl (by simp) (fun _ _ h => h) (fun act' w hF hB hE Q => by have f20 := hF.slot (k := 20) (by omega) q20; exact ob_value (v := .slice (some ⟨bt, 0, none⟩) m ct) (w' := w) (by simp [execOp, Act.eval, go_sem, f20]) (Below.refl _ _) rfl), ?_⟩
  refine ⟨duty_met (j := 48) (b := false) rfl (by simp) rfl rfl (by simp) (fun _ _ h => h) (fun act' w hF hB hE Q => by have f21 := hF.slot (k := 21) (by omega) q21; exact ob_value (v := .int .i64 (n : Nat)) (w' := w) (by simp [execOp, Act.eval, go_sem, f21]) (Below.refl _ _) rfl), ?_⟩
  refine ⟨duty_met (j := 48) (b := false) rfl (by simp) rfl rfl (by simp) (fun _ _ h => h) (fun act' w hF hB hE Q => by have h49 : T act' 169 = .slice (some ⟨bt, 0, none⟩) m ct := hE ⟨49, .data⟩ (by simp) rfl; have h50 : T act' 170 = .int .i64 (n : Nat) := hE ⟨50, .data⟩ (by simp) rfl; exact ob_value (v := .pointer (some ⟨bt, n * 5, none⟩)) (w' := w) (by simp [execOp, Act.eval, go_sem, h49, h50, l1]) (Below.refl _ _) rfl), ?_⟩
  refine ⟨duty_met (j := 48) (b := false) rfl (by simp) rfl rfl (by simp) (fun _ _ h => h) (fun act' w hF hB hE Q => by have h51 : T act' 171 = .pointer (some ⟨bt, n * 5, none⟩) := hE ⟨51, .data⟩ (by simp) rfl; have x0 := cell_later hB _ _ _ bt_0; have x1 := cell_later hB _ _ _ bt_1; have x2 := cell_later hB _ _ _ bt_2; have x3 := cell_later hB _ _ _ bt_3; have x4 := cell_later hB _ _ _ bt_4; exact ob_value (v := .agg #[.int .i64 (i1 : Nat), .int .i64 (s1 : Nat), .int .i64 (g1 : Nat), .int .i64 (z1 : Nat), .string y1]) (w' := w) (by simp [execOp, Act.eval, go_sem, h51, x0, x1, x2, x3, x4]) (Below.refl _ _) rfl), ?_⟩
  refine ⟨duty_met (j := 48) (b := false) rfl (by simp) rfl rfl (by simp) (fun _ _ h => h) (fun act' w hF hB hE Q => by have f10 := hF.slot (k := 10) (by omega) q10; exact ob_value (v := .slice (some ⟨bw, 0, none⟩) m cw) (w' := w) (by simp [execOp, Act.eval, go_sem, f10]) (Below.refl _ _) rfl), ?_⟩
  refine ⟨duty_met (j := 48) (b := false) rfl (by simp) rfl rfl (by simp) (fun _ _ h => h) (fun act' w hF hB hE Q => by have f21 := hF.slot (k := 21) (by omega) q21; exact ob_value (v := .int .i64 (n : Nat)) (w' := w) (by simp [execOp, Act.eval, go_sem, f21]) (Below.refl _ _) rfl), ?_⟩
  refine ⟨duty_met (j := 48) (b := false) rfl (by simp) rfl rfl (by simp) (fun _ _ h => h) (fun act' w hF hB hE Q => by have h53 : T act' 173 = .slice (some ⟨bw, 0, none⟩) m cw := hE ⟨53, .data⟩ (by simp) rfl; have h54 : T act' 174 = .int .i64 (n : Nat) := hE ⟨54, .data⟩ (by simp) rfl; exact ob_value (v := .pointer (some ⟨bw, n * 5, none⟩)) (w' := w) (by simp [execOp, Act.eval, go_sem, h53, h54, l1]) (Below.refl _ _) rfl), ?_⟩
  refine ⟨duty_met (j := 48) (b := false) rfl (by simp) rfl rfl (by simp) (fun _ _ h => h) (fun act' w hF hB hE Q => by have h55 : T act' 175 = .pointer (some ⟨bw, n * 5, none⟩) := hE ⟨55, .data⟩ (by simp) rfl; have x0 := cell_later hB _ _ _ bw_0; have x1 := cell_later hB _ _ _ bw_1; have x2 := cell_later hB _ _ _ bw_2; have x3 := cell_later hB _ _ _ bw_3; have x4 := cell_later hB _ _ _ bw_4; exact ob_value (v := .agg #[.int .i64 (i1 : Nat), .int .i64 (s1 : Nat), .int .i64 (g1 : Nat), .int .i64 (z1 : Nat), .string y1]) (w' := w) (by simp [execOp, Act.eval, go_sem, h55, x0, x1, x2, x3, x4]) (Below.refl _ _) rfl), ?_⟩
  refine ⟨duty_met (j := 48) (b := false) rfl (by simp) rfl rfl (by simp) (fun _ _ h => h) (fun act' w hF hB hE Q => by have h52 : T act' 172 = .agg #[.int .i64 (i1 : Nat), .int .i64 (s1 : Nat), .int .i64 (g1 : Nat), .int .i64 (z1 : Nat), .string y1] := hE ⟨52, .data⟩ (by simp) rfl; have h56 : T act' 176 = .agg #[.int .i64 (i1 : Nat), .int .i64 (s1 : Nat), .int .i64 (g1 : Nat), .int .i64 (z1 : Nat), .string y1] := hE ⟨56, .data⟩ (by simp) rfl; exact ob_value (v := .bool false) (w' := w) (by simp [execOp, Act.eval, go_sem, h52, h56]) (Below.refl _ _) rfl), ?_⟩
  refine ⟨duty_free rfl (by simp) rfl (fun act' w hF hB hE Q => by have h48 : T act' 168 = .bool false := hE ⟨48, .data⟩ (by simp) rfl; have h57 : T act' 177 = .bool false := hE ⟨57, .data⟩ (by simp) rfl; exact ob_value (v := .bool false) (w' := w) (by simp [execOp, Act.eval, go_sem, h48, h57]) (Below.refl _ _) rfl), ?_⟩
  exact trivial
end Go.Proofs.Ytjlfhaehdllmcaa
