/- is, walked: what is read is a tree by the chapter's word. -/
import Derived.Test.YtlcnmfgmgiijpaaG21
namespace Go.Proofs.Ytlcnmfgmgiijpaa
open Go.RowKit
attribute [local go_sem ↓] Go.wp_at_zero Go.wp_at_succ

theorem ten_bit {s : Oct.S} (h : s 10 = false) : (bits .and .u64 ((Oct.word s 0 : Nat) / 1024) 1 == 0) = true := by
  have hw := Oct.word_has s 10
  rw [h] at hw
  have e : ((Oct.word s 0 : Nat) : Int) / 1024 = ((Oct.word s (10 / 64) / 2 ^ (10 % 64) : Nat) : Int) := by simp
  have hl : Oct.word s (10 / 64) / 2 ^ (10 % 64) < 18446744073709551616 := Nat.lt_of_le_of_lt (Nat.div_le_self _ _) (Oct.word_lt s _)
  rw [e, show (1 : Int) = ((1 : Nat) : Int) from rfl, u64_and_nat _ _ hl (by decide), nat_mask1, hw]
  rfl
theorem noSet_none : noSet Oct.none = true := by unfold noSet; rw [show Oct.none = fun _ => false from rfl]; simp [Oct.word_none]
set_option maxRecDepth 4000 in
set_option maxHeartbeats 8000000 in
theorem is_any {X : Nat → Prop} {w0 : World} {t : Tr} {x : Nd} (h : NodeAt X w0 t x) {N : Nat} (hN : N ≤ 1000000) : Good N t → ∀ w, Below w0.heap.size w0 w → Calls Try.prog 15 #[x.val] w fun e w' => e = .returned (.bool true) ∧ Below w.heap.size w w' := by
  induction h with
  | mk k s subs mn mx a n c vs hn hl hr hs ih =>
    intro hg w hw
    have HIH : Hid (∀ (i : Nat) (t : Tr) (v : Nd), subs[i]? = some t → vs[i]? = some v → Good N t → ∀ w, Below w0.heap.size w0 w → Calls Try.prog 15 #[v.val] w fun e w' => e = .returned (.bool true) ∧ Below w.heap.size w w') := ih
    have HRO : Hid (RowAt X w0 a vs) := hr
    have HN : Hid (n = subs.length) := hn
    have HL : Hid (vs.length = n) := hl
    have HW : Hid (Below w0.heap.size w0 w) := hw
    have HNB : Hid (NB (w.alloc (.cells #[.int .i64 k, .int .u64 (Oct.word s 0 : Nat), .int .u64 (Oct.word s 1 : Nat), .int .u64 (Oct.word s 2 : Nat), .int .u64 (Oct.word s 3 : Nat), .slice a n c, .int .i64 mn, .int .i64 mx] 28)) w.heap.size ⟨k, s, a, n, c, mn, mx⟩) := nb_new w ⟨k, s, a, n, c, mn, mx⟩
    have HB1 : Hid (Below w.heap.size w (w.alloc (.cells #[.int .i64 k, .int .u64 (Oct.word s 0 : Nat), .int .u64 (Oct.word s 1 : Nat), .int .u64 (Oct.word s 2 : Nat), .int .u64 (Oct.word s 3 : Nat), .slice a n c, .int .i64 mn, .int .i64 mx] 28))) := (Below.refl _ _).alloc (Nat.le_refl _) _
    obtain ⟨w1, hw1⟩ : ∃ w1, w1 = w.alloc (.cells #[.int .i64 k, .int .u64 (Oct.word s 0 : Nat), .int .u64 (Oct.word s 1 : Nat), .int .u64 (Oct.word s 2 : Nat), .int .u64 (Oct.word s 3 : Nat), .slice a n c, .int .i64 mn, .int .i64 mx] 28) := ⟨_, rfl⟩
    rw [← hw1] at HNB HB1
    obtain ⟨A, hA⟩ : ∃ A, A = w.heap.size := ⟨_, rfl⟩
    rw [← hA] at HNB
    have HAA : Hid (A = w.heap.size) := hA
    have HW1 : Hid (w.alloc (.cells #[.int .i64 k, .int .u64 (Oct.word s 0 : Nat), .int .u64 (Oct.word s 1 : Nat), .int .u64 (Oct.word s 2 : Nat), .int .u64 (Oct.word s 3 : Nat), .slice a n c, .int .i64 mn, .int .i64 mx] 28) = w1) := hw1.symm
    have HEQ : Hid (∀ u, (Op.equalIn 10000 25 (.agg #[.int .u64 (Oct.word s 0 : Nat), .int .u64 (Oct.word s 1 : Nat), .int .u64 (Oct.word s 2 : Nat), .int .u64 (Oct.word s 3 : Nat)]) (.agg #[.int .u64 0, .int .u64 0, .int .u64 0, .int .u64 0])).run Try.prog u = .ok (noSet s) u) := fun u => eq4_zero _ _ _ _ u
    have hcase : ((k = 1 ∨ k = 6 ∨ k = 7) ∧ noSet s = true ∧ n = 0 ∧ mn = 0 ∧ mx = 0) ∨ (k = 2 ∧ s 10 = false ∧ n = 0 ∧ mn = 0 ∧ mx = 0) ∨ ((k = 3 ∨ k = 4) ∧ noSet s = true ∧ 2 ≤ n ∧ mn = 0 ∧ mx = 0) ∨ (k = 5 ∧ noSet s = true ∧ n = 1 ∧ counted mn mx = true) := by
      rw [hn]
      cases hg with
      | leaf _ hk => exact Or.inl ⟨hk, noSet_none, rfl, rfl, rfl⟩
      | set _ h => exact Or.inr (Or.inl ⟨rfl, h, rfl, rfl, rfl⟩)
      | many _ hk _ h2 => exact Or.inr (Or.inr (Or.inl ⟨hk, noSet_none, h2, rfl, rfl⟩))
      | times t _ _ hc ht => exact Or.inr (Or.inr (Or.inr ⟨rfl, noSet_none, rfl, hc⟩))
    have hn1 : n ≤ 1000000 ∧ ∀ t ∈ subs, Good N t := by
      rw [hn]
      cases hg with
      | leaf _ hk => exact ⟨by simp, by simp⟩
      | set _ h => exact ⟨by simp, by simp⟩
      | many _ hk _ h2 hNN hss => exact ⟨by omega, hss⟩
      | times t _ _ hc ht => exact ⟨by simp, by simpa using ht⟩
    have HGS : Hid (∀ t ∈ subs, Good N t) := hn1.2
    have hnn := hn1.1
    clear hw hw1 hA hn hl hr hs ih hg hn1
    obtain ⟨b0, b1, b2, b3, b4, b5, b6, b7⟩ := HNB.out.cells
    simp only at b0 b1 b2 b3 b4 b5 b6 b7
    have HE := HEQ.out
    unfold Nd.val
    simp only
    go_enter Try.func15, Try.ntmps15
    go_upto_region 1 with fail
    rw [HW1.out, ← HAA.out]
    clear HW1
    rcases hcase with ⟨hk3, hns, hn0, hm0, hm1⟩ | ⟨hk, h10, hn0, hm0, hm1⟩ | ⟨hk2, hns, hn0, hm0, hm1⟩ | ⟨hk, hns, hn0, hc⟩
    · rw [hns] at HE
      have p0 : (mn == 0) = true := by simp [hm0]
      have p1 : (mx == 0) = true := by simp [hm1]
      have nz : ((n : Int) == 0) = true := by simp [hn0]
      clear hm0 hm1 hns hn0
      rcases hk3 with hk | hk | hk
      · skip
        have q1 : ((k : Int) == 1) = true := by simp [hk]
        have q6 : ((k : Int) == 6) = false := by simp [hk]
        have q7 : ((k : Int) == 7) = false := by simp [hk]
        have q2 : ((k : Int) == 2) = false := by simp [hk]
        have q3 : ((k : Int) == 3) = false := by simp [hk]
        have q4 : ((k : Int) == 4) = false := by simp [hk]
        have q5 : ((k : Int) == 5) = false := by simp [hk]
        clear hk
        go_wp2
        go_ret
        exact ⟨rfl, HB1.out⟩
      · skip
        have q1 : ((k : Int) == 1) = false := by simp [hk]
        have q6 : ((k : Int) == 6) = true := by simp [hk]
        have q7 : ((k : Int) == 7) = false := by simp [hk]
        have q2 : ((k : Int) == 2) = false := by simp [hk]
        have q3 : ((k : Int) == 3) = false := by simp [hk]
        have q4 : ((k : Int) == 4) = false := by simp [hk]
        have q5 : ((k : Int) == 5) = false := by simp [hk]
        clear hk
        go_wp2
        go_ret
        exact ⟨rfl, HB1.out⟩
      · skip
        have q1 : ((k : Int) == 1) = false := by simp [hk]
        have q6 : ((k : Int) == 6) = false := by simp [hk]
        have q7 : ((k : Int) == 7) = true := by simp [hk]
        have q2 : ((k : Int) == 2) = false := by simp [hk]
        have q3 : ((k : Int) == 3) = false := by simp [hk]
        have q4 : ((k : Int) == 4) = false := by simp [hk]
        have q5 : ((k : Int) == 5) = false := by simp [hk]
        clear hk
        go_wp2
        go_ret
        exact ⟨rfl, HB1.out⟩
    · skip
      have p0 : (mn == 0) = true := by simp [hm0]
      have p1 : (mx == 0) = true := by simp [hm1]
      have nz : ((n : Int) == 0) = true := by simp [hn0]
      clear hm0 hm1 hn0
      have q1 : ((k : Int) == 1) = false := by simp [hk]
      have q6 : ((k : Int) == 6) = false := by simp [hk]
      have q7 : ((k : Int) == 7) = false := by simp [hk]
      have q2 : ((k : Int) == 2) = true := by simp [hk]
      have q3 : ((k : Int) == 3) = false := by simp [hk]
      have q4 : ((k : Int) == 4) = false := by simp [hk]
      have q5 : ((k : Int) == 5) = false := by simp [hk]
      clear hk
      go_wp2
      go_ret
      exact ⟨ret_bool (ten_bit h10), HB1.out⟩
    · rw [hns] at HE
      have p0 : (mn == 0) = true := by simp [hm0]
      have p1 : (mx == 0) = true := by simp [hm1]
      have nz : ¬ (n : Int) < 2 := by omega
      clear hm0 hm1 hns hn0
      rcases hk2 with hk | hk
      · skip
        have q1 : ((k : Int) == 1) = false := by simp [hk]
        have q6 : ((k : Int) == 6) = false := by simp [hk]
        have q7 : ((k : Int) == 7) = false := by simp [hk]
        have q2 : ((k : Int) == 2) = false := by simp [hk]
        have q3 : ((k : Int) == 3) = true := by simp [hk]
        have q4 : ((k : Int) == 4) = false := by simp [hk]
        have q5 : ((k : Int) == 5) = false := by simp [hk]
        clear hk
        go_wp2_with fail
        go_loopw [112] (fun i u => ∃ m : Nat, i = .int .i64 (m : Nat) ∧ m ≤ n ∧ Hid (Below w1.heap.size w1 u)) (fun i _ => n - (intOf i).toNat)
        case atStart => exact ⟨0, rfl, Nat.zero_le _, Below.refl _ _⟩
        case round =>
          clear b0 b1 b2 b3 b4 b5 b6 b7
          obtain ⟨m, rfl, hmn, HBU⟩ := hrel
          by_cases hlt : m < n
          · have hlt' : (m : Int) < (n : Int) := by omega
            obtain ⟨t, ht⟩ : ∃ t, subs[m]? = some t := ⟨_, List.getElem?_eq_getElem (by rw [← HN.out]; exact hlt)⟩
            obtain ⟨v, hv⟩ : ∃ v, vs[m]? = some v := ⟨_, List.getElem?_eq_getElem (by rw [HL.out]; exact hlt)⟩
            have HW0 : Hid (Below w0.heap.size w0 wr) := below_step (below_step HW.out HB1.out) HBU.out
            have hrow := (HRO.out.keep (Y := fun _ => True) (fun _ _ _ => trivial) (fun b _ hlt => HW0.out.block b hlt)).nth hv
            obtain ⟨g, off, rfl, e0, e1, e2, e3, e4, e5, e6, e7⟩ := hrow
            have HCALL : Hid (∀ u, Below w0.heap.size w0 u → Calls Try.prog 15 #[v.val] u fun e w' => e = .returned (.bool true) ∧ Below u.heap.size u w') := HIH.out m t v ht hv (HGS.out t (List.mem_of_getElem? ht))
            clear ht hv
            have k3 : Below wr.heap.size wr (wr.alloc (.cells #[.int .i64 v.k, .int .u64 (Oct.word v.s 0 : Nat), .int .u64 (Oct.word v.s 1 : Nat), .int .u64 (Oct.word v.s 2 : Nat), .int .u64 (Oct.word v.s 3 : Nat), .slice v.a v.n v.c, .int .i64 v.mn, .int .i64 v.mx] 28)) := (Below.refl _ _).alloc (Nat.le_refl _) _
            have HB3 : Hid (Below w1.heap.size w1 (wr.alloc (.cells #[.int .i64 v.k, .int .u64 (Oct.word v.s 0 : Nat), .int .u64 (Oct.word v.s 1 : Nat), .int .u64 (Oct.word v.s 2 : Nat), .int .u64 (Oct.word v.s 3 : Nat), .slice v.a v.n v.c, .int .i64 v.mn, .int .i64 v.mx] 28))) := below_step HBU.out k3
            have HW3 : Hid (Below w0.heap.size w0 (wr.alloc (.cells #[.int .i64 v.k, .int .u64 (Oct.word v.s 0 : Nat), .int .u64 (Oct.word v.s 1 : Nat), .int .u64 (Oct.word v.s 2 : Nat), .int .u64 (Oct.word v.s 3 : Nat), .slice v.a v.n v.c, .int .i64 v.mn, .int .i64 v.mx] 28))) := below_step HW0.out k3
            have HN3 : Hid (NB (wr.alloc (.cells #[.int .i64 v.k, .int .u64 (Oct.word v.s 0 : Nat), .int .u64 (Oct.word v.s 1 : Nat), .int .u64 (Oct.word v.s 2 : Nat), .int .u64 (Oct.word v.s 3 : Nat), .slice v.a v.n v.c, .int .i64 v.mn, .int .i64 v.mx] 28)) wr.heap.size v) := nb_new wr v
            clear k3
            obtain ⟨w3, hw3⟩ : ∃ w3, w3 = wr.alloc (.cells #[.int .i64 v.k, .int .u64 (Oct.word v.s 0 : Nat), .int .u64 (Oct.word v.s 1 : Nat), .int .u64 (Oct.word v.s 2 : Nat), .int .u64 (Oct.word v.s 3 : Nat), .slice v.a v.n v.c, .int .i64 v.mn, .int .i64 v.mx] 28) := ⟨_, rfl⟩
            obtain ⟨Y, hY⟩ : ∃ Y, Y = wr.heap.size := ⟨_, rfl⟩
            rw [← hw3] at HB3 HW3 HN3
            rw [← hY] at HN3
            have HWW : Hid (wr.alloc (.cells #[.int .i64 v.k, .int .u64 (Oct.word v.s 0 : Nat), .int .u64 (Oct.word v.s 1 : Nat), .int .u64 (Oct.word v.s 2 : Nat), .int .u64 (Oct.word v.s 3 : Nat), .slice v.a v.n v.c, .int .i64 v.mn, .int .i64 v.mx] 28) = w3) := hw3.symm
            have HYY : Hid (wr.heap.size = Y) := hY.symm
            clear hw3 hY
            go_upto_region 21 with fail
            rw [HWW.out, HYY.out]
            clear HWW HYY e0 e1 e2 e3 e4 e5 e6 e7
            obtain ⟨e0, e1, e2, e3, e4, e5, e6, e7⟩ := HN3.out.cells
            have HC := HCALL.out w3 HW3.out
            unfold Nd.val at HC
            have HCC : Hid (Calls Try.prog 15 _ w3 _) := HC
            clear HC HCALL
            go_wp2_with fail
            refine HCC.out.mono ?_
            rintro e w4 ⟨rfl, k4⟩
            have HB4 : Hid (Below w1.heap.size w1 w4) := below_step HB3.out k4
            clear k4 HCC e0 e1 e2 e3 e4 e5 e6 e7
            go_wp2
            go_roundw
            case rel => exact ⟨m + 1, by go_num, by omega, HB4.out⟩
            case measure => simp [intOf]; omega
          · have hlt' : ¬ (m : Int) < (n : Int) := by omega
            go_wp2
            go_ret
            exact ⟨rfl, below_step HB1.out HBU.out⟩
      · skip
        have q1 : ((k : Int) == 1) = false := by simp [hk]
        have q6 : ((k : Int) == 6) = false := by simp [hk]
        have q7 : ((k : Int) == 7) = false := by simp [hk]
        have q2 : ((k : Int) == 2) = false := by simp [hk]
        have q3 : ((k : Int) == 3) = false := by simp [hk]
        have q4 : ((k : Int) == 4) = true := by simp [hk]
        have q5 : ((k : Int) == 5) = false := by simp [hk]
        clear hk
        go_wp2_with fail
        go_loopw [112] (fun i u => ∃ m : Nat, i = .int .i64 (m : Nat) ∧ m ≤ n ∧ Hid (Below w1.heap.size w1 u)) (fun i _ => n - (intOf i).toNat)
        case atStart => exact ⟨0, rfl, Nat.zero_le _, Below.refl _ _⟩
        case round =>
          clear b0 b1 b2 b3 b4 b5 b6 b7
          obtain ⟨m, rfl, hmn, HBU⟩ := hrel
          by_cases hlt : m < n
          · have hlt' : (m : Int) < (n : Int) := by omega
            obtain ⟨t, ht⟩ : ∃ t, subs[m]? = some t := ⟨_, List.getElem?_eq_getElem (by rw [← HN.out]; exact hlt)⟩
            obtain ⟨v, hv⟩ : ∃ v, vs[m]? = some v := ⟨_, List.getElem?_eq_getElem (by rw [HL.out]; exact hlt)⟩
            have HW0 : Hid (Below w0.heap.size w0 wr) := below_step (below_step HW.out HB1.out) HBU.out
            have hrow := (HRO.out.keep (Y := fun _ => True) (fun _ _ _ => trivial) (fun b _ hlt => HW0.out.block b hlt)).nth hv
            obtain ⟨g, off, rfl, e0, e1, e2, e3, e4, e5, e6, e7⟩ := hrow
            have HCALL : Hid (∀ u, Below w0.heap.size w0 u → Calls Try.prog 15 #[v.val] u fun e w' => e = .returned (.bool true) ∧ Below u.heap.size u w') := HIH.out m t v ht hv (HGS.out t (List.mem_of_getElem? ht))
            clear ht hv
            have k3 : Below wr.heap.size wr (wr.alloc (.cells #[.int .i64 v.k, .int .u64 (Oct.word v.s 0 : Nat), .int .u64 (Oct.word v.s 1 : Nat), .int .u64 (Oct.word v.s 2 : Nat), .int .u64 (Oct.word v.s 3 : Nat), .slice v.a v.n v.c, .int .i64 v.mn, .int .i64 v.mx] 28)) := (Below.refl _ _).alloc (Nat.le_refl _) _
            have HB3 : Hid (Below w1.heap.size w1 (wr.alloc (.cells #[.int .i64 v.k, .int .u64 (Oct.word v.s 0 : Nat), .int .u64 (Oct.word v.s 1 : Nat), .int .u64 (Oct.word v.s 2 : Nat), .int .u64 (Oct.word v.s 3 : Nat), .slice v.a v.n v.c, .int .i64 v.mn, .int .i64 v.mx] 28))) := below_step HBU.out k3
            have HW3 : Hid (Below w0.heap.size w0 (wr.alloc (.cells #[.int .i64 v.k, .int .u64 (Oct.word v.s 0 : Nat), .int .u64 (Oct.word v.s 1 : Nat), .int .u64 (Oct.word v.s 2 : Nat), .int .u64 (Oct.word v.s 3 : Nat), .slice v.a v.n v.c, .int .i64 v.mn, .int .i64 v.mx] 28))) := below_step HW0.out k3
            have HN3 : Hid (NB (wr.alloc (.cells #[.int .i64 v.k, .int .u64 (Oct.word v.s 0 : Nat), .int .u64 (Oct.word v.s 1 : Nat), .int .u64 (Oct.word v.s 2 : Nat), .int .u64 (Oct.word v.s 3 : Nat), .slice v.a v.n v.c, .int .i64 v.mn, .int .i64 v.mx] 28)) wr.heap.size v) := nb_new wr v
            clear k3
            obtain ⟨w3, hw3⟩ : ∃ w3, w3 = wr.alloc (.cells #[.int .i64 v.k, .int .u64 (Oct.word v.s 0 : Nat), .int .u64 (Oct.word v.s 1 : Nat), .int .u64 (Oct.word v.s 2 : Nat), .int .u64 (Oct.word v.s 3 : Nat), .slice v.a v.n v.c, .int .i64 v.mn, .int .i64 v.mx] 28) := ⟨_, rfl⟩
            obtain ⟨Y, hY⟩ : ∃ Y, Y = wr.heap.size := ⟨_, rfl⟩
            rw [← hw3] at HB3 HW3 HN3
            rw [← hY] at HN3
            have HWW : Hid (wr.alloc (.cells #[.int .i64 v.k, .int .u64 (Oct.word v.s 0 : Nat), .int .u64 (Oct.word v.s 1 : Nat), .int .u64 (Oct.word v.s 2 : Nat), .int .u64 (Oct.word v.s 3 : Nat), .slice v.a v.n v.c, .int .i64 v.mn, .int .i64 v.mx] 28) = w3) := hw3.symm
            have HYY : Hid (wr.heap.size = Y) := hY.symm
            clear hw3 hY
            go_upto_region 21 with fail
            rw [HWW.out, HYY.out]
            clear HWW HYY e0 e1 e2 e3 e4 e5 e6 e7
            obtain ⟨e0, e1, e2, e3, e4, e5, e6, e7⟩ := HN3.out.cells
            have HC := HCALL.out w3 HW3.out
            unfold Nd.val at HC
            have HCC : Hid (Calls Try.prog 15 _ w3 _) := HC
            clear HC HCALL
            go_wp2_with fail
            refine HCC.out.mono ?_
            rintro e w4 ⟨rfl, k4⟩
            have HB4 : Hid (Below w1.heap.size w1 w4) := below_step HB3.out k4
            clear k4 HCC e0 e1 e2 e3 e4 e5 e6 e7
            go_wp2
            go_roundw
            case rel => exact ⟨m + 1, by go_num, by omega, HB4.out⟩
            case measure => simp [intOf]; omega
          · have hlt' : ¬ (m : Int) < (n : Int) := by omega
            go_wp2
            go_ret
            exact ⟨rfl, below_step HB1.out HBU.out⟩
    · rw [hns] at HE
      have nz : ((n : Int) == 1) = true := by simp [hn0]
      have nz2 : ((n : Int) != 1) = false := by simp [hn0]
      unfold counted at hc
      simp at hc
      have c1 : ¬ mn < 0 := by omega
      have c2 : ¬ 255 < mn := by omega
      have c3 : ¬ mx < -1 := by omega
      have c4 : ¬ 255 < mx := by omega
      clear hns hn0
      have q1 : ((k : Int) == 1) = false := by simp [hk]
      have q6 : ((k : Int) == 6) = false := by simp [hk]
      have q7 : ((k : Int) == 7) = false := by simp [hk]
      have q2 : ((k : Int) == 2) = false := by simp [hk]
      have q3 : ((k : Int) == 3) = false := by simp [hk]
      have q4 : ((k : Int) == 4) = false := by simp [hk]
      have q5 : ((k : Int) == 5) = true := by simp [hk]
      by_cases hm0 : mn = 0
      · have p0 : (mn == 0) = true := by simp [hm0]
        by_cases hm1 : mx = 0
        · have p1 : (mx == 0) = true := by simp [hm1]
          have h0 : 0 ≤ mx := by omega
          have c5 : ¬ mx < mn := by omega
          clear hc hm0 hm1
          clear hk
          go_wp2_with fail
          go_loopw [112] (fun i u => ∃ m : Nat, i = .int .i64 (m : Nat) ∧ m ≤ n ∧ Hid (Below w1.heap.size w1 u)) (fun i _ => n - (intOf i).toNat)
          case atStart => exact ⟨0, rfl, Nat.zero_le _, Below.refl _ _⟩
          case round =>
            clear b0 b1 b2 b3 b4 b5 b6 b7
            obtain ⟨m, rfl, hmn, HBU⟩ := hrel
            by_cases hlt : m < n
            · have hlt' : (m : Int) < (n : Int) := by omega
              obtain ⟨t, ht⟩ : ∃ t, subs[m]? = some t := ⟨_, List.getElem?_eq_getElem (by rw [← HN.out]; exact hlt)⟩
              obtain ⟨v, hv⟩ : ∃ v, vs[m]? = some v := ⟨_, List.getElem?_eq_getElem (by rw [HL.out]; exact hlt)⟩
              have HW0 : Hid (Below w0.heap.size w0 wr) := below_step (below_step HW.out HB1.out) HBU.out
              have hrow := (HRO.out.keep (Y := fun _ => True) (fun _ _ _ => trivial) (fun b _ hlt => HW0.out.block b hlt)).nth hv
              obtain ⟨g, off, rfl, e0, e1, e2, e3, e4, e5, e6, e7⟩ := hrow
              have HCALL : Hid (∀ u, Below w0.heap.size w0 u → Calls Try.prog 15 #[v.val] u fun e w' => e = .returned (.bool true) ∧ Below u.heap.size u w') := HIH.out m t v ht hv (HGS.out t (List.mem_of_getElem? ht))
              clear ht hv
              have k3 : Below wr.heap.size wr (wr.alloc (.cells #[.int .i64 v.k, .int .u64 (Oct.word v.s 0 : Nat), .int .u64 (Oct.word v.s 1 : Nat), .int .u64 (Oct.word v.s 2 : Nat), .int .u64 (Oct.word v.s 3 : Nat), .slice v.a v.n v.c, .int .i64 v.mn, .int .i64 v.mx] 28)) := (Below.refl _ _).alloc (Nat.le_refl _) _
              have HB3 : Hid (Below w1.heap.size w1 (wr.alloc (.cells #[.int .i64 v.k, .int .u64 (Oct.word v.s 0 : Nat), .int .u64 (Oct.word v.s 1 : Nat), .int .u64 (Oct.word v.s 2 : Nat), .int .u64 (Oct.word v.s 3 : Nat), .slice v.a v.n v.c, .int .i64 v.mn, .int .i64 v.mx] 28))) := below_step HBU.out k3
              have HW3 : Hid (Below w0.heap.size w0 (wr.alloc (.cells #[.int .i64 v.k, .int .u64 (Oct.word v.s 0 : Nat), .int .u64 (Oct.word v.s 1 : Nat), .int .u64 (Oct.word v.s 2 : Nat), .int .u64 (Oct.word v.s 3 : Nat), .slice v.a v.n v.c, .int .i64 v.mn, .int .i64 v.mx] 28))) := below_step HW0.out k3
              have HN3 : Hid (NB (wr.alloc (.cells #[.int .i64 v.k, .int .u64 (Oct.word v.s 0 : Nat), .int .u64 (Oct.word v.s 1 : Nat), .int .u64 (Oct.word v.s 2 : Nat), .int .u64 (Oct.word v.s 3 : Nat), .slice v.a v.n v.c, .int .i64 v.mn, .int .i64 v.mx] 28)) wr.heap.size v) := nb_new wr v
              clear k3
              obtain ⟨w3, hw3⟩ : ∃ w3, w3 = wr.alloc (.cells #[.int .i64 v.k, .int .u64 (Oct.word v.s 0 : Nat), .int .u64 (Oct.word v.s 1 : Nat), .int .u64 (Oct.word v.s 2 : Nat), .int .u64 (Oct.word v.s 3 : Nat), .slice v.a v.n v.c, .int .i64 v.mn, .int .i64 v.mx] 28) := ⟨_, rfl⟩
              obtain ⟨Y, hY⟩ : ∃ Y, Y = wr.heap.size := ⟨_, rfl⟩
              rw [← hw3] at HB3 HW3 HN3
              rw [← hY] at HN3
              have HWW : Hid (wr.alloc (.cells #[.int .i64 v.k, .int .u64 (Oct.word v.s 0 : Nat), .int .u64 (Oct.word v.s 1 : Nat), .int .u64 (Oct.word v.s 2 : Nat), .int .u64 (Oct.word v.s 3 : Nat), .slice v.a v.n v.c, .int .i64 v.mn, .int .i64 v.mx] 28) = w3) := hw3.symm
              have HYY : Hid (wr.heap.size = Y) := hY.symm
              clear hw3 hY
              go_upto_region 21 with fail
              rw [HWW.out, HYY.out]
              clear HWW HYY e0 e1 e2 e3 e4 e5 e6 e7
              obtain ⟨e0, e1, e2, e3, e4, e5, e6, e7⟩ := HN3.out.cells
              have HC := HCALL.out w3 HW3.out
              unfold Nd.val at HC
              have HCC : Hid (Calls Try.prog 15 _ w3 _) := HC
              clear HC HCALL
              go_wp2_with fail
              refine HCC.out.mono ?_
              rintro e w4 ⟨rfl, k4⟩
              have HB4 : Hid (Below w1.heap.size w1 w4) := below_step HB3.out k4
              clear k4 HCC e0 e1 e2 e3 e4 e5 e6 e7
              go_wp2
              go_roundw
              case rel => exact ⟨m + 1, by go_num, by omega, HB4.out⟩
              case measure => simp [intOf]; omega
            · have hlt' : ¬ (m : Int) < (n : Int) := by omega
              go_wp2
              go_ret
              exact ⟨rfl, below_step HB1.out HBU.out⟩
        · have p1 : (mx == 0) = false := by simp [hm1]
          by_cases h0 : 0 ≤ mx
          · have c5 : ¬ mx < mn := by omega
            clear hc hm0 hm1
            clear hk
            go_wp2_with fail
            go_loopw [112] (fun i u => ∃ m : Nat, i = .int .i64 (m : Nat) ∧ m ≤ n ∧ Hid (Below w1.heap.size w1 u)) (fun i _ => n - (intOf i).toNat)
            case atStart => exact ⟨0, rfl, Nat.zero_le _, Below.refl _ _⟩
            case round =>
              clear b0 b1 b2 b3 b4 b5 b6 b7
              obtain ⟨m, rfl, hmn, HBU⟩ := hrel
              by_cases hlt : m < n
              · have hlt' : (m : Int) < (n : Int) := by omega
                obtain ⟨t, ht⟩ : ∃ t, subs[m]? = some t := ⟨_, List.getElem?_eq_getElem (by rw [← HN.out]; exact hlt)⟩
                obtain ⟨v, hv⟩ : ∃ v, vs[m]? = some v := ⟨_, List.getElem?_eq_getElem (by rw [HL.out]; exact hlt)⟩
                have HW0 : Hid (Below w0.heap.size w0 wr) := below_step (below_step HW.out HB1.out) HBU.out
                have hrow := (HRO.out.keep (Y := fun _ => True) (fun _ _ _ => trivial) (fun b _ hlt => HW0.out.block b hlt)).nth hv
                obtain ⟨g, off, rfl, e0, e1, e2, e3, e4, e5, e6, e7⟩ := hrow
                have HCALL : Hid (∀ u, Below w0.heap.size w0 u → Calls Try.prog 15 #[v.val] u fun e w' => e = .returned (.bool true) ∧ Below u.heap.size u w') := HIH.out m t v ht hv (HGS.out t (List.mem_of_getElem? ht))
                clear ht hv
                have k3 : Below wr.heap.size wr (wr.alloc (.cells #[.int .i64 v.k, .int .u64 (Oct.word v.s 0 : Nat), .int .u64 (Oct.word v.s 1 : Nat), .int .u64 (Oct.word v.s 2 : Nat), .int .u64 (Oct.word v.s 3 : Nat), .slice v.a v.n v.c, .int .i64 v.mn, .int .i64 v.mx] 28)) := (Below.refl _ _).alloc (Nat.le_refl _) _
                have HB3 : Hid (Below w1.heap.size w1 (wr.alloc (.cells #[.int .i64 v.k, .int .u64 (Oct.word v.s 0 : Nat), .int .u64 (Oct.word v.s 1 : Nat), .int .u64 (Oct.word v.s 2 : Nat), .int .u64 (Oct.word v.s 3 : Nat), .slice v.a v.n v.c, .int .i64 v.mn, .int .i64 v.mx] 28))) := below_step HBU.out k3
                have HW3 : Hid (Below w0.heap.size w0 (wr.alloc (.cells #[.int .i64 v.k, .int .u64 (Oct.word v.s 0 : Nat), .int .u64 (Oct.word v.s 1 : Nat), .int .u64 (Oct.word v.s 2 : Nat), .int .u64 (Oct.word v.s 3 : Nat), .slice v.a v.n v.c, .int .i64 v.mn, .int .i64 v.mx] 28))) := below_step HW0.out k3
                have HN3 : Hid (NB (wr.alloc (.cells #[.int .i64 v.k, .int .u64 (Oct.word v.s 0 : Nat), .int .u64 (Oct.word v.s 1 : Nat), .int .u64 (Oct.word v.s 2 : Nat), .int .u64 (Oct.word v.s 3 : Nat), .slice v.a v.n v.c, .int .i64 v.mn, .int .i64 v.mx] 28)) wr.heap.size v) := nb_new wr v
                clear k3
                obtain ⟨w3, hw3⟩ : ∃ w3, w3 = wr.alloc (.cells #[.int .i64 v.k, .int .u64 (Oct.word v.s 0 : Nat), .int .u64 (Oct.word v.s 1 : Nat), .int .u64 (Oct.word v.s 2 : Nat), .int .u64 (Oct.word v.s 3 : Nat), .slice v.a v.n v.c, .int .i64 v.mn, .int .i64 v.mx] 28) := ⟨_, rfl⟩
                obtain ⟨Y, hY⟩ : ∃ Y, Y = wr.heap.size := ⟨_, rfl⟩
                rw [← hw3] at HB3 HW3 HN3
                rw [← hY] at HN3
                have HWW : Hid (wr.alloc (.cells #[.int .i64 v.k, .int .u64 (Oct.word v.s 0 : Nat), .int .u64 (Oct.word v.s 1 : Nat), .int .u64 (Oct.word v.s 2 : Nat), .int .u64 (Oct.word v.s 3 : Nat), .slice v.a v.n v.c, .int .i64 v.mn, .int .i64 v.mx] 28) = w3) := hw3.symm
                have HYY : Hid (wr.heap.size = Y) := hY.symm
                clear hw3 hY
                go_upto_region 21 with fail
                rw [HWW.out, HYY.out]
                clear HWW HYY e0 e1 e2 e3 e4 e5 e6 e7
                obtain ⟨e0, e1, e2, e3, e4, e5, e6, e7⟩ := HN3.out.cells
                have HC := HCALL.out w3 HW3.out
                unfold Nd.val at HC
                have HCC : Hid (Calls Try.prog 15 _ w3 _) := HC
                clear HC HCALL
                go_wp2_with fail
                refine HCC.out.mono ?_
                rintro e w4 ⟨rfl, k4⟩
                have HB4 : Hid (Below w1.heap.size w1 w4) := below_step HB3.out k4
                clear k4 HCC e0 e1 e2 e3 e4 e5 e6 e7
                go_wp2
                go_roundw
                case rel => exact ⟨m + 1, by go_num, by omega, HB4.out⟩
                case measure => simp [intOf]; omega
              · have hlt' : ¬ (m : Int) < (n : Int) := by omega
                go_wp2
                go_ret
                exact ⟨rfl, below_step HB1.out HBU.out⟩
          · clear hc hm0 hm1
            clear hk
            go_wp2_with fail
            go_loopw [112] (fun i u => ∃ m : Nat, i = .int .i64 (m : Nat) ∧ m ≤ n ∧ Hid (Below w1.heap.size w1 u)) (fun i _ => n - (intOf i).toNat)
            case atStart => exact ⟨0, rfl, Nat.zero_le _, Below.refl _ _⟩
            case round =>
              clear b0 b1 b2 b3 b4 b5 b6 b7
              obtain ⟨m, rfl, hmn, HBU⟩ := hrel
              by_cases hlt : m < n
              · have hlt' : (m : Int) < (n : Int) := by omega
                obtain ⟨t, ht⟩ : ∃ t, subs[m]? = some t := ⟨_, List.getElem?_eq_getElem (by rw [← HN.out]; exact hlt)⟩
                obtain ⟨v, hv⟩ : ∃ v, vs[m]? = some v := ⟨_, List.getElem?_eq_getElem (by rw [HL.out]; exact hlt)⟩
                have HW0 : Hid (Below w0.heap.size w0 wr) := below_step (below_step HW.out HB1.out) HBU.out
                have hrow := (HRO.out.keep (Y := fun _ => True) (fun _ _ _ => trivial) (fun b _ hlt => HW0.out.block b hlt)).nth hv
                obtain ⟨g, off, rfl, e0, e1, e2, e3, e4, e5, e6, e7⟩ := hrow
                have HCALL : Hid (∀ u, Below w0.heap.size w0 u → Calls Try.prog 15 #[v.val] u fun e w' => e = .returned (.bool true) ∧ Below u.heap.size u w') := HIH.out m t v ht hv (HGS.out t (List.mem_of_getElem? ht))
                clear ht hv
                have k3 : Below wr.heap.size wr (wr.alloc (.cells #[.int .i64 v.k, .int .u64 (Oct.word v.s 0 : Nat), .int .u64 (Oct.word v.s 1 : Nat), .int .u64 (Oct.word v.s 2 : Nat), .int .u64 (Oct.word v.s 3 : Nat), .slice v.a v.n v.c, .int .i64 v.mn, .int .i64 v.mx] 28)) := (Below.refl _ _).alloc (Nat.le_refl _) _
                have HB3 : Hid (Below w1.heap.size w1 (wr.alloc (.cells #[.int .i64 v.k, .int .u64 (Oct.word v.s 0 : Nat), .int .u64 (Oct.word v.s 1 : Nat), .int .u64 (Oct.word v.s 2 : Nat), .int .u64 (Oct.word v.s 3 : Nat), .slice v.a v.n v.c, .int .i64 v.mn, .int .i64 v.mx] 28))) := below_step HBU.out k3
                have HW3 : Hid (Below w0.heap.size w0 (wr.alloc (.cells #[.int .i64 v.k, .int .u64 (Oct.word v.s 0 : Nat), .int .u64 (Oct.word v.s 1 : Nat), .int .u64 (Oct.word v.s 2 : Nat), .int .u64 (Oct.word v.s 3 : Nat), .slice v.a v.n v.c, .int .i64 v.mn, .int .i64 v.mx] 28))) := below_step HW0.out k3
                have HN3 : Hid (NB (wr.alloc (.cells #[.int .i64 v.k, .int .u64 (Oct.word v.s 0 : Nat), .int .u64 (Oct.word v.s 1 : Nat), .int .u64 (Oct.word v.s 2 : Nat), .int .u64 (Oct.word v.s 3 : Nat), .slice v.a v.n v.c, .int .i64 v.mn, .int .i64 v.mx] 28)) wr.heap.size v) := nb_new wr v
                clear k3
                obtain ⟨w3, hw3⟩ : ∃ w3, w3 = wr.alloc (.cells #[.int .i64 v.k, .int .u64 (Oct.word v.s 0 : Nat), .int .u64 (Oct.word v.s 1 : Nat), .int .u64 (Oct.word v.s 2 : Nat), .int .u64 (Oct.word v.s 3 : Nat), .slice v.a v.n v.c, .int .i64 v.mn, .int .i64 v.mx] 28) := ⟨_, rfl⟩
                obtain ⟨Y, hY⟩ : ∃ Y, Y = wr.heap.size := ⟨_, rfl⟩
                rw [← hw3] at HB3 HW3 HN3
                rw [← hY] at HN3
                have HWW : Hid (wr.alloc (.cells #[.int .i64 v.k, .int .u64 (Oct.word v.s 0 : Nat), .int .u64 (Oct.word v.s 1 : Nat), .int .u64 (Oct.word v.s 2 : Nat), .int .u64 (Oct.word v.s 3 : Nat), .slice v.a v.n v.c, .int .i64 v.mn, .int .i64 v.mx] 28) = w3) := hw3.symm
                have HYY : Hid (wr.heap.size = Y) := hY.symm
                clear hw3 hY
                go_upto_region 21 with fail
                rw [HWW.out, HYY.out]
                clear HWW HYY e0 e1 e2 e3 e4 e5 e6 e7
                obtain ⟨e0, e1, e2, e3, e4, e5, e6, e7⟩ := HN3.out.cells
                have HC := HCALL.out w3 HW3.out
                unfold Nd.val at HC
                have HCC : Hid (Calls Try.prog 15 _ w3 _) := HC
                clear HC HCALL
                go_wp2_with fail
                refine HCC.out.mono ?_
                rintro e w4 ⟨rfl, k4⟩
                have HB4 : Hid (Below w1.heap.size w1 w4) := below_step HB3.out k4
                clear k4 HCC e0 e1 e2 e3 e4 e5 e6 e7
                go_wp2
                go_roundw
                case rel => exact ⟨m + 1, by go_num, by omega, HB4.out⟩
                case measure => simp [intOf]; omega
              · have hlt' : ¬ (m : Int) < (n : Int) := by omega
                go_wp2
                go_ret
                exact ⟨rfl, below_step HB1.out HBU.out⟩
      · have p0 : (mn == 0) = false := by simp [hm0]
        by_cases h0 : 0 ≤ mx
        · have c5 : ¬ mx < mn := by omega
          clear hc hm0
          clear hk
          go_wp2_with fail
          go_loopw [112] (fun i u => ∃ m : Nat, i = .int .i64 (m : Nat) ∧ m ≤ n ∧ Hid (Below w1.heap.size w1 u)) (fun i _ => n - (intOf i).toNat)
          case atStart => exact ⟨0, rfl, Nat.zero_le _, Below.refl _ _⟩
          case round =>
            clear b0 b1 b2 b3 b4 b5 b6 b7
            obtain ⟨m, rfl, hmn, HBU⟩ := hrel
            by_cases hlt : m < n
            · have hlt' : (m : Int) < (n : Int) := by omega
              obtain ⟨t, ht⟩ : ∃ t, subs[m]? = some t := ⟨_, List.getElem?_eq_getElem (by rw [← HN.out]; exact hlt)⟩
              obtain ⟨v, hv⟩ : ∃ v, vs[m]? = some v := ⟨_, List.getElem?_eq_getElem (by rw [HL.out]; exact hlt)⟩
              have HW0 : Hid (Below w0.heap.size w0 wr) := below_step (below_step HW.out HB1.out) HBU.out
              have hrow := (HRO.out.keep (Y := fun _ => True) (fun _ _ _ => trivial) (fun b _ hlt => HW0.out.block b hlt)).nth hv
              obtain ⟨g, off, rfl, e0, e1, e2, e3, e4, e5, e6, e7⟩ := hrow
              have HCALL : Hid (∀ u, Below w0.heap.size w0 u → Calls Try.prog 15 #[v.val] u fun e w' => e = .returned (.bool true) ∧ Below u.heap.size u w') := HIH.out m t v ht hv (HGS.out t (List.mem_of_getElem? ht))
              clear ht hv
              have k3 : Below wr.heap.size wr (wr.alloc (.cells #[.int .i64 v.k, .int .u64 (Oct.word v.s 0 : Nat), .int .u64 (Oct.word v.s 1 : Nat), .int .u64 (Oct.word v.s 2 : Nat), .int .u64 (Oct.word v.s 3 : Nat), .slice v.a v.n v.c, .int .i64 v.mn, .int .i64 v.mx] 28)) := (Below.refl _ _).alloc (Nat.le_refl _) _
              have HB3 : Hid (Below w1.heap.size w1 (wr.alloc (.cells #[.int .i64 v.k, .int .u64 (Oct.word v.s 0 : Nat), .int .u64 (Oct.word v.s 1 : Nat), .int .u64 (Oct.word v.s 2 : Nat), .int .u64 (Oct.word v.s 3 : Nat), .slice v.a v.n v.c, .int .i64 v.mn, .int .i64 v.mx] 28))) := below_step HBU.out k3
              have HW3 : Hid (Below w0.heap.size w0 (wr.alloc (.cells #[.int .i64 v.k, .int .u64 (Oct.word v.s 0 : Nat), .int .u64 (Oct.word v.s 1 : Nat), .int .u64 (Oct.word v.s 2 : Nat), .int .u64 (Oct.word v.s 3 : Nat), .slice v.a v.n v.c, .int .i64 v.mn, .int .i64 v.mx] 28))) := below_step HW0.out k3
              have HN3 : Hid (NB (wr.alloc (.cells #[.int .i64 v.k, .int .u64 (Oct.word v.s 0 : Nat), .int .u64 (Oct.word v.s 1 : Nat), .int .u64 (Oct.word v.s 2 : Nat), .int .u64 (Oct.word v.s 3 : Nat), .slice v.a v.n v.c, .int .i64 v.mn, .int .i64 v.mx] 28)) wr.heap.size v) := nb_new wr v
              clear k3
              obtain ⟨w3, hw3⟩ : ∃ w3, w3 = wr.alloc (.cells #[.int .i64 v.k, .int .u64 (Oct.word v.s 0 : Nat), .int .u64 (Oct.word v.s 1 : Nat), .int .u64 (Oct.word v.s 2 : Nat), .int .u64 (Oct.word v.s 3 : Nat), .slice v.a v.n v.c, .int .i64 v.mn, .int .i64 v.mx] 28) := ⟨_, rfl⟩
              obtain ⟨Y, hY⟩ : ∃ Y, Y = wr.heap.size := ⟨_, rfl⟩
              rw [← hw3] at HB3 HW3 HN3
              rw [← hY] at HN3
              have HWW : Hid (wr.alloc (.cells #[.int .i64 v.k, .int .u64 (Oct.word v.s 0 : Nat), .int .u64 (Oct.word v.s 1 : Nat), .int .u64 (Oct.word v.s 2 : Nat), .int .u64 (Oct.word v.s 3 : Nat), .slice v.a v.n v.c, .int .i64 v.mn, .int .i64 v.mx] 28) = w3) := hw3.symm
              have HYY : Hid (wr.heap.size = Y) := hY.symm
              clear hw3 hY
              go_upto_region 21 with fail
              rw [HWW.out, HYY.out]
              clear HWW HYY e0 e1 e2 e3 e4 e5 e6 e7
              obtain ⟨e0, e1, e2, e3, e4, e5, e6, e7⟩ := HN3.out.cells
              have HC := HCALL.out w3 HW3.out
              unfold Nd.val at HC
              have HCC : Hid (Calls Try.prog 15 _ w3 _) := HC
              clear HC HCALL
              go_wp2_with fail
              refine HCC.out.mono ?_
              rintro e w4 ⟨rfl, k4⟩
              have HB4 : Hid (Below w1.heap.size w1 w4) := below_step HB3.out k4
              clear k4 HCC e0 e1 e2 e3 e4 e5 e6 e7
              go_wp2
              go_roundw
              case rel => exact ⟨m + 1, by go_num, by omega, HB4.out⟩
              case measure => simp [intOf]; omega
            · have hlt' : ¬ (m : Int) < (n : Int) := by omega
              go_wp2
              go_ret
              exact ⟨rfl, below_step HB1.out HBU.out⟩
        · clear hc hm0
          clear hk
          go_wp2_with fail
          go_loopw [112] (fun i u => ∃ m : Nat, i = .int .i64 (m : Nat) ∧ m ≤ n ∧ Hid (Below w1.heap.size w1 u)) (fun i _ => n - (intOf i).toNat)
          case atStart => exact ⟨0, rfl, Nat.zero_le _, Below.refl _ _⟩
          case round =>
            clear b0 b1 b2 b3 b4 b5 b6 b7
            obtain ⟨m, rfl, hmn, HBU⟩ := hrel
            by_cases hlt : m < n
            · have hlt' : (m : Int) < (n : Int) := by omega
              obtain ⟨t, ht⟩ : ∃ t, subs[m]? = some t := ⟨_, List.getElem?_eq_getElem (by rw [← HN.out]; exact hlt)⟩
              obtain ⟨v, hv⟩ : ∃ v, vs[m]? = some v := ⟨_, List.getElem?_eq_getElem (by rw [HL.out]; exact hlt)⟩
              have HW0 : Hid (Below w0.heap.size w0 wr) := below_step (below_step HW.out HB1.out) HBU.out
              have hrow := (HRO.out.keep (Y := fun _ => True) (fun _ _ _ => trivial) (fun b _ hlt => HW0.out.block b hlt)).nth hv
              obtain ⟨g, off, rfl, e0, e1, e2, e3, e4, e5, e6, e7⟩ := hrow
              have HCALL : Hid (∀ u, Below w0.heap.size w0 u → Calls Try.prog 15 #[v.val] u fun e w' => e = .returned (.bool true) ∧ Below u.heap.size u w') := HIH.out m t v ht hv (HGS.out t (List.mem_of_getElem? ht))
              clear ht hv
              have k3 : Below wr.heap.size wr (wr.alloc (.cells #[.int .i64 v.k, .int .u64 (Oct.word v.s 0 : Nat), .int .u64 (Oct.word v.s 1 : Nat), .int .u64 (Oct.word v.s 2 : Nat), .int .u64 (Oct.word v.s 3 : Nat), .slice v.a v.n v.c, .int .i64 v.mn, .int .i64 v.mx] 28)) := (Below.refl _ _).alloc (Nat.le_refl _) _
              have HB3 : Hid (Below w1.heap.size w1 (wr.alloc (.cells #[.int .i64 v.k, .int .u64 (Oct.word v.s 0 : Nat), .int .u64 (Oct.word v.s 1 : Nat), .int .u64 (Oct.word v.s 2 : Nat), .int .u64 (Oct.word v.s 3 : Nat), .slice v.a v.n v.c, .int .i64 v.mn, .int .i64 v.mx] 28))) := below_step HBU.out k3
              have HW3 : Hid (Below w0.heap.size w0 (wr.alloc (.cells #[.int .i64 v.k, .int .u64 (Oct.word v.s 0 : Nat), .int .u64 (Oct.word v.s 1 : Nat), .int .u64 (Oct.word v.s 2 : Nat), .int .u64 (Oct.word v.s 3 : Nat), .slice v.a v.n v.c, .int .i64 v.mn, .int .i64 v.mx] 28))) := below_step HW0.out k3
              have HN3 : Hid (NB (wr.alloc (.cells #[.int .i64 v.k, .int .u64 (Oct.word v.s 0 : Nat), .int .u64 (Oct.word v.s 1 : Nat), .int .u64 (Oct.word v.s 2 : Nat), .int .u64 (Oct.word v.s 3 : Nat), .slice v.a v.n v.c, .int .i64 v.mn, .int .i64 v.mx] 28)) wr.heap.size v) := nb_new wr v
              clear k3
              obtain ⟨w3, hw3⟩ : ∃ w3, w3 = wr.alloc (.cells #[.int .i64 v.k, .int .u64 (Oct.word v.s 0 : Nat), .int .u64 (Oct.word v.s 1 : Nat), .int .u64 (Oct.word v.s 2 : Nat), .int .u64 (Oct.word v.s 3 : Nat), .slice v.a v.n v.c, .int .i64 v.mn, .int .i64 v.mx] 28) := ⟨_, rfl⟩
              obtain ⟨Y, hY⟩ : ∃ Y, Y = wr.heap.size := ⟨_, rfl⟩
              rw [← hw3] at HB3 HW3 HN3
              rw [← hY] at HN3
              have HWW : Hid (wr.alloc (.cells #[.int .i64 v.k, .int .u64 (Oct.word v.s 0 : Nat), .int .u64 (Oct.word v.s 1 : Nat), .int .u64 (Oct.word v.s 2 : Nat), .int .u64 (Oct.word v.s 3 : Nat), .slice v.a v.n v.c, .int .i64 v.mn, .int .i64 v.mx] 28) = w3) := hw3.symm
              have HYY : Hid (wr.heap.size = Y) := hY.symm
              clear hw3 hY
              go_upto_region 21 with fail
              rw [HWW.out, HYY.out]
              clear HWW HYY e0 e1 e2 e3 e4 e5 e6 e7
              obtain ⟨e0, e1, e2, e3, e4, e5, e6, e7⟩ := HN3.out.cells
              have HC := HCALL.out w3 HW3.out
              unfold Nd.val at HC
              have HCC : Hid (Calls Try.prog 15 _ w3 _) := HC
              clear HC HCALL
              go_wp2_with fail
              refine HCC.out.mono ?_
              rintro e w4 ⟨rfl, k4⟩
              have HB4 : Hid (Below w1.heap.size w1 w4) := below_step HB3.out k4
              clear k4 HCC e0 e1 e2 e3 e4 e5 e6 e7
              go_wp2
              go_roundw
              case rel => exact ⟨m + 1, by go_num, by omega, HB4.out⟩
              case measure => simp [intOf]; omega
            · have hlt' : ¬ (m : Int) < (n : Int) := by omega
              go_wp2
              go_ret
              exact ⟨rfl, below_step HB1.out HBU.out⟩
end Go.Proofs.Ytlcnmfgmgiijpaa
