/- ere's shaped, repeats. -/
import Derived.Test.YtjmbimgofceanaaG11
namespace Go.Proofs.Ytjmbimgofceanaa
open Go.RowKit
attribute [local go_sem ↓] Go.wp_at_zero Go.wp_at_succ

/-- a set that holds nothing -/
def noSet (s : Oct.S) : Bool := decide (Oct.word s 0 = 0) && decide (Oct.word s 1 = 0) && decide (Oct.word s 2 = 0) && decide (Oct.word s 3 = 0)
set_option maxRecDepth 4000 in
set_option maxHeartbeats 2000000 in
theorem eq4_zero (a b c d : Nat) (w : World) : (Op.equalIn 10000 27 (.agg #[.int .u64 (a : Nat), .int .u64 (b : Nat), .int .u64 (c : Nat), .int .u64 (d : Nat)]) (.agg #[.int .u64 0, .int .u64 0, .int .u64 0, .int .u64 0])).run Try.prog w = .ok (decide (a = 0) && decide (b = 0) && decide (c = 0) && decide (d = 0)) w := by
  obtain ⟨i0, hi, hz0, hz1, hz2⟩ := info_parts info25
  have h1 : ∀ x : Nat, (Op.equalIn 9999 25 (.int .u64 (x : Nat)) (.int .u64 0)).run Try.prog w = .ok (decide (x = 0)) w := fun x => by
    rw [run_equalIn_int w 9998 25 .u64 .u64 x 0 Try.underlying25]
    congr 1
    rw [Bool.eq_iff_iff]
    simp
  have h10 : (Op.equalIn 9999 25 (.int .u64 0) (.int .u64 0)).run Try.prog w = .ok true w := h1 0
  rw [show (10000 : Nat) = 9999 + 1 from rfl, Op.equalIn]
  by_cases ha : a = 0
  · by_cases hb : b = 0
    · by_cases hc : c = 0
      · by_cases hd : d = 0
        · simp [run_underlying Try.underlying27, sizeOf, typeInfo, hi, hz1, part, Try.isAgg25, Std.Legacy.Range.forIn_eq_forIn_range', Std.Legacy.Range.size, List.range'_succ, List.range'_zero, ha, hb, hc, hd, h10]
        · simp [run_underlying Try.underlying27, sizeOf, typeInfo, hi, hz1, part, Try.isAgg25, Std.Legacy.Range.forIn_eq_forIn_range', Std.Legacy.Range.size, List.range'_succ, List.range'_zero, h1, ha, hb, hc, hd, h10]
      · simp [run_underlying Try.underlying27, sizeOf, typeInfo, hi, hz1, part, Try.isAgg25, Std.Legacy.Range.forIn_eq_forIn_range', Std.Legacy.Range.size, List.range'_succ, List.range'_zero, h1, ha, hb, hc, h10]
    · simp [run_underlying Try.underlying27, sizeOf, typeInfo, hi, hz1, part, Try.isAgg25, Std.Legacy.Range.forIn_eq_forIn_range', Std.Legacy.Range.size, List.range'_succ, List.range'_zero, h1, ha, hb, h10]
  · simp [run_underlying Try.underlying27, sizeOf, typeInfo, hi, hz1, part, Try.isAgg25, Std.Legacy.Range.forIn_eq_forIn_range', Std.Legacy.Range.size, List.range'_succ, List.range'_zero, h1, ha]
def plainT (mn mx : Int) : Bool := decide (mn = 0) && decide (mx = 0)
def shapedT (k : Int) (s : Oct.S) (n : Nat) (mn mx : Int) : Bool :=
  if k = 1 ∨ k = 6 ∨ k = 7 then decide (n = 0) && noSet s && plainT mn mx
  else if k = 2 then decide (n = 0) && !(s 10) && plainT mn mx
  else if k = 3 ∨ k = 4 then decide (2 ≤ n) && noSet s && plainT mn mx
  else if k = 5 then decide (n = 1) && noSet s && counted mn mx
  else false
set_option maxRecDepth 4000 in
set_option maxHeartbeats 4000000 in
theorem shaped_any (x : Nd) (w : World) : Calls Try.prog 55 #[x.val] w fun e w' => e = .returned (.bool (shapedT x.k x.s x.n x.mn x.mx)) ∧ Below w.heap.size w w' := by
  obtain ⟨w0, hw0⟩ : ∃ w0, w0 = w.alloc (.cells #[.int .i64 x.k, .int .u64 (Oct.word x.s 0 : Nat), .int .u64 (Oct.word x.s 1 : Nat), .int .u64 (Oct.word x.s 2 : Nat), .int .u64 (Oct.word x.s 3 : Nat), .slice x.a x.n x.c, .int .i64 x.mn, .int .i64 x.mx] 30) := ⟨_, rfl⟩
  obtain ⟨w1, hw1⟩ : ∃ w1, w1 = w0.alloc (.cells #[.int .u64 0, .int .u64 0, .int .u64 0, .int .u64 0] 27) := ⟨_, rfl⟩
  have z0 : w0.heap.size = w.heap.size + 1 := by rw [hw0]; simp
  have k0 : Below w.heap.size w w0 := by rw [hw0]; exact (Below.refl _ _).alloc (Nat.le_refl _) _
  have k1 : Below w0.heap.size w0 w1 := by rw [hw1]; exact (Below.refl _ _).alloc (Nat.le_refl _) _
  have HN : Hid (NB w1 w.heap.size x) := by have hb0 : NB w0 w.heap.size x := (by rw [hw0]; exact nb_new w x); exact hb0.later k1
  have HZ : Hid (SB w1 (w.heap.size + 1) Oct.none) := by have hb1 : SB w1 w0.heap.size Oct.none := (by rw [hw1]; exact sb_zero w0); rw [z0] at hb1; exact hb1
  have HB : Hid (Below w.heap.size w w1) := below_step k0 k1
  have HW1 : Hid (w0.alloc (.cells #[.int .u64 0, .int .u64 0, .int .u64 0, .int .u64 0] 27) = w1) := hw1.symm
  have HW0 : Hid (w.alloc (.cells #[.int .i64 x.k, .int .u64 (Oct.word x.s 0 : Nat), .int .u64 (Oct.word x.s 1 : Nat), .int .u64 (Oct.word x.s 2 : Nat), .int .u64 (Oct.word x.s 3 : Nat), .slice x.a x.n x.c, .int .i64 x.mn, .int .i64 x.mx] 30) = w0) := hw0.symm
  obtain ⟨A, hA⟩ : ∃ A, A = w.heap.size := ⟨_, rfl⟩
  obtain ⟨Z, hZ⟩ : ∃ Z, Z = w.heap.size + 1 := ⟨_, rfl⟩
  rw [← hA] at HN
  rw [← hZ] at HZ
  have HAA : Hid (A = w.heap.size) := hA
  have HZZ : Hid (Z = w.heap.size + 1) := hZ
  clear hw0 hw1 z0 k0 k1 hA hZ
  obtain ⟨b0, b1, b2, b3, b4, b5, b6, b7⟩ := HN.out.cells
  obtain ⟨q0, q1, q2, q3⟩ := HZ.out.cells
  rw [word0] at q0 q1 q2 q3
  have HEQ : Hid (∀ u, (Op.equalIn 10000 27 (.agg #[.int .u64 (Oct.word x.s 0 : Nat), .int .u64 (Oct.word x.s 1 : Nat), .int .u64 (Oct.word x.s 2 : Nat), .int .u64 (Oct.word x.s 3 : Nat)]) (.agg #[.int .u64 0, .int .u64 0, .int .u64 0, .int .u64 0])).run Try.prog u = .ok (noSet x.s) u) := fun u => eq4_zero _ _ _ _ u
  unfold Nd.val
  go_enter Try.func55, Try.ntmps55
  go_upto_region 2 with fail
  rw [HW0.out, HW1.out, ← HAA.out, show A + 1 = Z by rw [HAA.out, HZZ.out]]
  clear HW0 HW1 HAA HZZ
  go_cut [4] (fun b wx => b = .bool (plainT x.mn x.mx) ∧ Hid (wx = w1))
  case first =>
    by_cases hmn : x.mn = 0
    · by_cases hmx : x.mx = 0
      · have g1 : (x.mn == 0) = true := by simp [hmn]
        have g2 : (x.mx == 0) = true := by simp [hmx]
        have HX : Hid (plainT x.mn x.mx = true) := by show _ = _; simp [plainT, hmn, hmx]
        clear hmn hmx
        go_wp2_with fail
        go_meet
        case rel => exact ⟨by rw [HX.out], rfl⟩
      · have g1 : (x.mn == 0) = true := by simp [hmn]
        have g2 : (x.mx == 0) = false := by simp [hmx]
        have HX : Hid (plainT x.mn x.mx = false) := by show _ = _; simp [plainT, hmx]
        clear hmn hmx
        go_wp2_with fail
        go_meet
        case rel => exact ⟨by rw [HX.out], rfl⟩
    · have g1 : (x.mn == 0) = false := by simp [hmn]
      have HX : Hid (plainT x.mn x.mx = false) := by show _ = _; simp [plainT, hmn]
      clear hmn
      go_wp2_with fail
      go_meet
      case rel => exact ⟨by rw [HX.out], rfl⟩
  case rest =>
  obtain ⟨rfl, kc⟩ := hcut
  have kc' := kc.out
  subst kc'
  clear kc
  obtain ⟨pb, hpb⟩ : ∃ pb, pb = plainT x.mn x.mx := ⟨_, rfl⟩
  rw [← hpb]
  have HPB : Hid (plainT x.mn x.mx = pb) := hpb.symm
  clear hpb
  by_cases h1 : x.k = 1
  · have hk := h1
    clear h1
    have k1 : (x.k == 1) = true := by simp [hk]
    have k6 : (x.k == 6) = false := by simp [hk]
    have k7 : (x.k == 7) = false := by simp [hk]
    have k2 : (x.k == 2) = false := by simp [hk]
    have k3 : (x.k == 3) = false := by simp [hk]
    have k4 : (x.k == 4) = false := by simp [hk]
    have k5 : (x.k == 5) = false := by simp [hk]
    by_cases hn : x.n = 0
    · have n1 : ((x.n : Int) == 0) = true := by simp; omega
      cases hs : noSet x.s with
      | false =>
        have EQ := HEQ.out
        rw [hs] at EQ
        have HX : Hid (shapedT x.k x.s x.n x.mn x.mx = false) := by show _ = _; unfold shapedT; simp [hk, hn, hs, HPB.out]
        clear hn hk hs
        go_wp2
        go_ret
        exact ⟨ret_bool (by rw [HX.out]), HB.out⟩
      | true =>
        have EQ := HEQ.out
        rw [hs] at EQ
        have HX : Hid (shapedT x.k x.s x.n x.mn x.mx = pb) := by show _ = _; unfold shapedT; simp [hk, hn, hs, HPB.out]
        clear hn hk hs
        go_wp2
        go_ret
        exact ⟨ret_bool (by rw [HX.out]), HB.out⟩
    · have n1 : ((x.n : Int) == 0) = false := by simp; omega
      have HX : Hid (shapedT x.k x.s x.n x.mn x.mx = false) := by show _ = _; unfold shapedT; simp [hk, hn, HPB.out]
      clear hn hk
      go_wp2
      go_ret
      exact ⟨ret_bool (by rw [HX.out]), HB.out⟩
  · by_cases h6 : x.k = 6
    · have hk := h6
      clear h6
      have k1 : (x.k == 1) = false := by simp [hk]
      have k6 : (x.k == 6) = true := by simp [hk]
      have k7 : (x.k == 7) = false := by simp [hk]
      have k2 : (x.k == 2) = false := by simp [hk]
      have k3 : (x.k == 3) = false := by simp [hk]
      have k4 : (x.k == 4) = false := by simp [hk]
      have k5 : (x.k == 5) = false := by simp [hk]
      by_cases hn : x.n = 0
      · have n1 : ((x.n : Int) == 0) = true := by simp; omega
        cases hs : noSet x.s with
        | false =>
          have EQ := HEQ.out
          rw [hs] at EQ
          have HX : Hid (shapedT x.k x.s x.n x.mn x.mx = false) := by show _ = _; unfold shapedT; simp [hk, hn, hs, HPB.out]
          clear hn hk hs
          go_wp2
          go_ret
          exact ⟨ret_bool (by rw [HX.out]), HB.out⟩
        | true =>
          have EQ := HEQ.out
          rw [hs] at EQ
          have HX : Hid (shapedT x.k x.s x.n x.mn x.mx = pb) := by show _ = _; unfold shapedT; simp [hk, hn, hs, HPB.out]
          clear hn hk hs
          go_wp2
          go_ret
          exact ⟨ret_bool (by rw [HX.out]), HB.out⟩
      · have n1 : ((x.n : Int) == 0) = false := by simp; omega
        have HX : Hid (shapedT x.k x.s x.n x.mn x.mx = false) := by show _ = _; unfold shapedT; simp [hk, hn, HPB.out]
        clear hn hk
        go_wp2
        go_ret
        exact ⟨ret_bool (by rw [HX.out]), HB.out⟩
    · by_cases h7 : x.k = 7
      · have hk := h7
        clear h7
        have k1 : (x.k == 1) = false := by simp [hk]
        have k6 : (x.k == 6) = false := by simp [hk]
        have k7 : (x.k == 7) = true := by simp [hk]
        have k2 : (x.k == 2) = false := by simp [hk]
        have k3 : (x.k == 3) = false := by simp [hk]
        have k4 : (x.k == 4) = false := by simp [hk]
        have k5 : (x.k == 5) = false := by simp [hk]
        by_cases hn : x.n = 0
        · have n1 : ((x.n : Int) == 0) = true := by simp; omega
          cases hs : noSet x.s with
          | false =>
            have EQ := HEQ.out
            rw [hs] at EQ
            have HX : Hid (shapedT x.k x.s x.n x.mn x.mx = false) := by show _ = _; unfold shapedT; simp [hk, hn, hs, HPB.out]
            clear hn hk hs
            go_wp2
            go_ret
            exact ⟨ret_bool (by rw [HX.out]), HB.out⟩
          | true =>
            have EQ := HEQ.out
            rw [hs] at EQ
            have HX : Hid (shapedT x.k x.s x.n x.mn x.mx = pb) := by show _ = _; unfold shapedT; simp [hk, hn, hs, HPB.out]
            clear hn hk hs
            go_wp2
            go_ret
            exact ⟨ret_bool (by rw [HX.out]), HB.out⟩
        · have n1 : ((x.n : Int) == 0) = false := by simp; omega
          have HX : Hid (shapedT x.k x.s x.n x.mn x.mx = false) := by show _ = _; unfold shapedT; simp [hk, hn, HPB.out]
          clear hn hk
          go_wp2
          go_ret
          exact ⟨ret_bool (by rw [HX.out]), HB.out⟩
      · by_cases h2 : x.k = 2
        · have hk := h2
          clear h2
          have k1 : (x.k == 1) = false := by simp [hk]
          have k6 : (x.k == 6) = false := by simp [hk]
          have k7 : (x.k == 7) = false := by simp [hk]
          have k2 : (x.k == 2) = true := by simp [hk]
          have k3 : (x.k == 3) = false := by simp [hk]
          have k4 : (x.k == 4) = false := by simp [hk]
          have k5 : (x.k == 5) = false := by simp [hk]
          by_cases hn : x.n = 0
          · have n1 : ((x.n : Int) == 0) = true := by simp; omega
            have HX : Hid (shapedT x.k x.s x.n x.mn x.mx = (!(x.s 10) && pb)) := by show _ = _; unfold shapedT; simp [hk, hn, HPB.out]
            clear hn hk
            go_wp2_with fail
            refine (has_gen x.s 10 _ (by decide)).mono ?_
            rintro e w2 ⟨rfl, k2⟩
            cases hh : x.s 10 with
            | true =>
              have HY : Hid (shapedT x.k x.s x.n x.mn x.mx = false) := by show _ = _; rw [HX.out, hh]; simp
              clear hh
              go_wp2
              go_ret
              exact ⟨ret_bool (by rw [HY.out]), below_step HB.out k2⟩
            | false =>
              have HY : Hid (shapedT x.k x.s x.n x.mn x.mx = pb) := by show _ = _; rw [HX.out, hh]; simp
              clear hh
              go_wp2
              go_ret
              exact ⟨ret_bool (by rw [HY.out]), below_step HB.out k2⟩
          · have n1 : ((x.n : Int) == 0) = false := by simp; omega
            have HX : Hid (shapedT x.k x.s x.n x.mn x.mx = false) := by show _ = _; unfold shapedT; simp [hk, hn, HPB.out]
            clear hn hk
            go_wp2
            go_ret
            exact ⟨ret_bool (by rw [HX.out]), HB.out⟩
        · by_cases h3 : x.k = 3
          · have hk := h3
            clear h3
            have k1 : (x.k == 1) = false := by simp [hk]
            have k6 : (x.k == 6) = false := by simp [hk]
            have k7 : (x.k == 7) = false := by simp [hk]
            have k2 : (x.k == 2) = false := by simp [hk]
            have k3 : (x.k == 3) = true := by simp [hk]
            have k4 : (x.k == 4) = false := by simp [hk]
            have k5 : (x.k == 5) = false := by simp [hk]
            by_cases hn : 2 ≤ x.n
            · have n1 : (2 : Int) ≤ (x.n : Int) := by omega
              have n2 : decide ((2 : Int) ≤ (x.n : Int)) = true := by simp; omega
              cases hs : noSet x.s with
              | false =>
                have EQ := HEQ.out
                rw [hs] at EQ
                have HX : Hid (shapedT x.k x.s x.n x.mn x.mx = false) := by show _ = _; unfold shapedT; simp [hk, hn, hs, HPB.out]
                clear hn hk hs
                go_wp2
                go_ret
                exact ⟨ret_bool (by rw [HX.out]), HB.out⟩
              | true =>
                have EQ := HEQ.out
                rw [hs] at EQ
                have HX : Hid (shapedT x.k x.s x.n x.mn x.mx = pb) := by show _ = _; unfold shapedT; simp [hk, hn, hs, HPB.out]
                clear hn hk hs
                go_wp2
                go_ret
                exact ⟨ret_bool (by rw [HX.out]), HB.out⟩
            · have n1 : ¬ (2 : Int) ≤ (x.n : Int) := by omega
              have n2 : decide ((2 : Int) ≤ (x.n : Int)) = false := by simp; omega
              have HX : Hid (shapedT x.k x.s x.n x.mn x.mx = false) := by show _ = _; unfold shapedT; simp [hk, hn, HPB.out]
              clear hn hk
              go_wp2
              go_ret
              exact ⟨ret_bool (by rw [HX.out]), HB.out⟩
          · by_cases h4 : x.k = 4
            · have hk := h4
              clear h4
              have k1 : (x.k == 1) = false := by simp [hk]
              have k6 : (x.k == 6) = false := by simp [hk]
              have k7 : (x.k == 7) = false := by simp [hk]
              have k2 : (x.k == 2) = false := by simp [hk]
              have k3 : (x.k == 3) = false := by simp [hk]
              have k4 : (x.k == 4) = true := by simp [hk]
              have k5 : (x.k == 5) = false := by simp [hk]
              by_cases hn : 2 ≤ x.n
              · have n1 : (2 : Int) ≤ (x.n : Int) := by omega
                have n2 : decide ((2 : Int) ≤ (x.n : Int)) = true := by simp; omega
                cases hs : noSet x.s with
                | false =>
                  have EQ := HEQ.out
                  rw [hs] at EQ
                  have HX : Hid (shapedT x.k x.s x.n x.mn x.mx = false) := by show _ = _; unfold shapedT; simp [hk, hn, hs, HPB.out]
                  clear hn hk hs
                  go_wp2
                  go_ret
                  exact ⟨ret_bool (by rw [HX.out]), HB.out⟩
                | true =>
                  have EQ := HEQ.out
                  rw [hs] at EQ
                  have HX : Hid (shapedT x.k x.s x.n x.mn x.mx = pb) := by show _ = _; unfold shapedT; simp [hk, hn, hs, HPB.out]
                  clear hn hk hs
                  go_wp2
                  go_ret
                  exact ⟨ret_bool (by rw [HX.out]), HB.out⟩
              · have n1 : ¬ (2 : Int) ≤ (x.n : Int) := by omega
                have n2 : decide ((2 : Int) ≤ (x.n : Int)) = false := by simp; omega
                have HX : Hid (shapedT x.k x.s x.n x.mn x.mx = false) := by show _ = _; unfold shapedT; simp [hk, hn, HPB.out]
                clear hn hk
                go_wp2
                go_ret
                exact ⟨ret_bool (by rw [HX.out]), HB.out⟩
            · by_cases h5 : x.k = 5
              · have hk := h5
                clear h5
                have k1 : (x.k == 1) = false := by simp [hk]
                have k6 : (x.k == 6) = false := by simp [hk]
                have k7 : (x.k == 7) = false := by simp [hk]
                have k2 : (x.k == 2) = false := by simp [hk]
                have k3 : (x.k == 3) = false := by simp [hk]
                have k4 : (x.k == 4) = false := by simp [hk]
                have k5 : (x.k == 5) = true := by simp [hk]
                by_cases hn : x.n = 1
                · have n1 : ((x.n : Int) == 1) = true := by simp; omega
                  cases hs : noSet x.s with
                  | false =>
                    have EQ := HEQ.out
                    rw [hs] at EQ
                    have HX : Hid (shapedT x.k x.s x.n x.mn x.mx = false) := by show _ = _; unfold shapedT; simp [hk, hn, hs]
                    clear hn hk hs
                    go_wp2
                    go_ret
                    exact ⟨ret_bool (by rw [HX.out]), HB.out⟩
                  | true =>
                    have EQ := HEQ.out
                    rw [hs] at EQ
                    have HX : Hid (shapedT x.k x.s x.n x.mn x.mx = counted x.mn x.mx) := by show _ = _; unfold shapedT; simp [hk, hn, hs]
                    clear hn hk hs
                    go_wp2_with fail
                    refine (counted_any x.mn x.mx _).mono ?_
                    rintro e w2 ⟨rfl, hw2⟩
                    have hw2 := hw2.symm
                    subst hw2
                    go_wp2
                    go_ret
                    exact ⟨ret_bool (by rw [HX.out]), HB.out⟩
                · have n1 : ((x.n : Int) == 1) = false := by simp; omega
                  have HX : Hid (shapedT x.k x.s x.n x.mn x.mx = false) := by show _ = _; unfold shapedT; simp [hk, hn]
                  clear hn hk
                  go_wp2
                  go_ret
                  exact ⟨ret_bool (by rw [HX.out]), HB.out⟩
              · have k1 : (x.k == 1) = false := by simp [h1]
                have k6 : (x.k == 6) = false := by simp [h6]
                have k7 : (x.k == 7) = false := by simp [h7]
                have k2 : (x.k == 2) = false := by simp [h2]
                have k3 : (x.k == 3) = false := by simp [h3]
                have k4 : (x.k == 4) = false := by simp [h4]
                have k5 : (x.k == 5) = false := by simp [h5]
                have HX : Hid (shapedT x.k x.s x.n x.mn x.mx = false) := by show _ = _; unfold shapedT; simp [h1, h6, h7, h2, h3, h4, h5]
                go_wp2
                go_ret
                exact ⟨ret_bool (by rw [HX.out]), HB.out⟩
end Go.Proofs.Ytjmbimgofceanaa

/- ere's repeats, places, Places: of any node that lies in memory. -/
namespace Go.Proofs.Ytjmbimgofceanaa
open Go.RowKit
attribute [local go_sem ↓] Go.wp_at_zero Go.wp_at_succ

def repT (o l : Nat) (m : Int) : Int := if o = 0 then 0 else if m = -1 then (l : Int) * o + o + 2 else if (l : Int) < m then m * o + 1 else (l : Int) * o
theorem mul_le_of {o : Nat} (ho : o ≤ 2048) {m : Int} (h0 : 0 ≤ m) (h1 : m ≤ 255) : 0 ≤ m * (o : Int) ∧ m * (o : Int) ≤ 522240 := by
  refine ⟨Int.mul_nonneg h0 (by omega), ?_⟩
  have h2 : m * (o : Int) ≤ 255 * (o : Int) := Int.mul_le_mul_of_nonneg_right h1 (by omega)
  omega
theorem repT_le {o l : Nat} {m : Int} (ho : o ≤ 2048) (hl : l ≤ 255) (hm : -1 ≤ m) (hm2 : m ≤ 255) : 0 ≤ repT o l m ∧ repT o l m ≤ 600000 := by
  have p1 := mul_le_of ho (m := (l : Int)) (by omega) (by omega)
  unfold repT
  split
  · omega
  · split
    · omega
    · have p2 := mul_le_of ho (m := m) (by omega) hm2
      split <;> omega
theorem repeats_any (o l : Nat) (m : Int) (w : World) (ho : o ≤ 2048) (hl : l ≤ 255) (hm : -1 ≤ m) (hm2 : m ≤ 255) : Calls Try.prog 56 #[.int .i64 (o : Nat), .int .i64 (l : Nat), .int .i64 m] w fun e w' => e = .returned (.int .i64 (repT o l m)) ∧ w' = w := by
  have p1 := mul_le_of ho (m := (l : Int)) (by omega) (by omega)
  by_cases h0 : o = 0
  · have HX : Hid (repT o l m = 0) := by show _ = _; simp [repT, h0]
    have g1 : ((o : Int) == 0) = true := by simp; omega
    go_enter Try.func56, Try.ntmps56
    go_wp2
    go_ret
    exact ⟨ret_int HX.out.symm, rfl⟩
  · have g1 : ((o : Int) == 0) = false := by simp; omega
    by_cases h1 : m = -1
    · have HX : Hid (repT o l m = (l : Int) * o + o + 2) := by show _ = _; simp [repT, h0, h1]
      have g2 : (m == -1) = true := by simp; omega
      go_enter Try.func56, Try.ntmps56
      go_wp2
      go_ret
      exact ⟨ret_int HX.out.symm, rfl⟩
    · have g2 : (m == -1) = false := by simp; omega
      have p2 := mul_le_of ho (m := m) (by omega) hm2
      by_cases h2 : (l : Int) < m
      · have HX : Hid (repT o l m = m * o + 1) := by show _ = _; simp [repT, h0, h1, h2]
        go_enter Try.func56, Try.ntmps56
        go_wp2
        go_ret
        exact ⟨ret_int HX.out.symm, rfl⟩
      · have HX : Hid (repT o l m = (l : Int) * o) := by show _ = _; simp [repT, h0, h1, h2]
        go_enter Try.func56, Try.ntmps56
        go_wp2
        go_ret
        exact ⟨ret_int HX.out.symm, rfl⟩
/-- any node, as plain data -/
inductive Tn where
  | mk (k : Int) (s : Oct.S) (subs : List Tn) (mn mx : Int)
/-- how many places a node of a kind has, whose subs have n -/
def ends (k : Int) (n len : Nat) (mn mx : Int) : Nat := if k = 2 ∨ k = 6 ∨ k = 7 then 1 else if k = 4 then n + len + 1 else if k = 5 then (repT n mn.toNat mx).toNat else n
mutual
def plc : Tn → Nat × Bool
  | .mk k s subs mn mx => if shapedT k s subs.length mn mx then match plcs subs 0 with
    | some n => (min (ends k n subs.length mn mx) 2048, true)
    | none => (0, false)
    else (0, false)
def plcs : List Tn → Nat → Option Nat
  | [], n => some n
  | t :: ts, n => if (plc t).2 then plcs ts (min (n + (plc t).1) 2048) else none
end
theorem plc_le (t : Tn) : (plc t).1 ≤ 2048 := by
  cases t with
  | mk k s subs mn mx =>
    rw [plc]
    split
    · split
      · exact Nat.min_le_right _ _
      · exact Nat.zero_le _
    · exact Nat.zero_le _
theorem plcs_step {ts : List Tn} {i : Nat} {t : Tn} (h : ts[i]? = some t) (n : Nat) : plcs (ts.drop i) n = if (plc t).2 then plcs (ts.drop (i + 1)) (min (n + (plc t).1) 2048) else none := by
  have hlt := (List.getElem?_eq_some_iff.1 h).1
  rw [List.drop_eq_getElem_cons hlt, (List.getElem?_eq_some_iff.1 h).2, plcs]
/-- A NODE IN MEMORY. -/
inductive InAt (w : World) : Tn → Nd → Prop
  | mk (k : Int) (s : Oct.S) (subs : List Tn) (mn mx : Int) (a : Option Addr) (n c : Nat) (vs : List Nd) (hn : n = subs.length) (hl : vs.length = n) (hm : n ≤ 1000000) (hr : RowAt (fun _ => True) w a vs)
      (hs : ∀ (i : Nat) (t : Tn) (v : Nd), subs[i]? = some t → vs[i]? = some v → InAt w t v) : InAt w (.mk k s subs mn mx) ⟨k, s, a, n, c, mn, mx⟩
theorem flatN_at {vs : List Nd} {i : Nat} {x : Nd} (h : vs[i]? = some x) {m : Nat} (hm : m < 8) : (flatN vs)[8 * i + m]? = x.cells[m]? := by
  induction vs generalizing i with
  | nil => simp at h
  | cons y r ih =>
    have hf : flatN (y :: r) = y.cells ++ flatN r := by simp [flatN]
    have hy : y.cells.length = 8 := rfl
    rw [hf]
    cases i with
    | zero =>
      simp at h
      subst h
      rw [List.getElem?_append_left (by omega)]
      congr 1
      omega
    | succ i =>
      rw [List.getElem?_append_right (by omega), hy, show 8 * (i + 1) + m - 8 = 8 * i + m by omega]
      exact ih (by simpa using h)
theorem RowAt.nth {X : Nat → Prop} {w : World} {a : Option Addr} {vs : List Nd} (h : RowAt X w a vs) {i : Nat} {x : Nd} (hx : vs[i]? = some x) : ∃ b off, a = some ⟨b, off, none⟩ ∧ w.cell? ⟨b, off + i * 8, none⟩ = some (.int .i64 x.k) ∧ w.cell? ⟨b, off + i * 8 + 1, none⟩ = some (.int .u64 (Oct.word x.s 0 : Nat)) ∧ w.cell? ⟨b, off + i * 8 + 2, none⟩ = some (.int .u64 (Oct.word x.s 1 : Nat)) ∧ w.cell? ⟨b, off + i * 8 + 3, none⟩ = some (.int .u64 (Oct.word x.s 2 : Nat)) ∧ w.cell? ⟨b, off + i * 8 + 4, none⟩ = some (.int .u64 (Oct.word x.s 3 : Nat)) ∧ w.cell? ⟨b, off + i * 8 + 5, none⟩ = some (.slice x.a x.n x.c) ∧ w.cell? ⟨b, off + i * 8 + 6, none⟩ = some (.int .i64 x.mn) ∧ w.cell? ⟨b, off + i * 8 + 7, none⟩ = some (.int .i64 x.mx) := by
  rcases h with h | ⟨b, off, e, _, hc⟩
  · subst h; simp at hx
  · rw [Nat.mul_comm i 8]
    refine ⟨b, off, e, ?_, ?_, ?_, ?_, ?_, ?_, ?_, ?_⟩
    · exact hc (8 * i) _ (flatN_at hx (m := 0) (by decide))
    · exact hc (8 * i + 1) _ (flatN_at hx (m := 1) (by decide))
    · exact hc (8 * i + 2) _ (flatN_at hx (m := 2) (by decide))
    · exact hc (8 * i + 3) _ (flatN_at hx (m := 3) (by decide))
    · exact hc (8 * i + 4) _ (flatN_at hx (m := 4) (by decide))
    · exact hc (8 * i + 5) _ (flatN_at hx (m := 5) (by decide))
    · exact hc (8 * i + 6) _ (flatN_at hx (m := 6) (by decide))
    · exact hc (8 * i + 7) _ (flatN_at hx (m := 7) (by decide))
end Go.Proofs.Ytjmbimgofceanaa

/- ere's places. -/
namespace Go.Proofs.Ytjmbimgofceanaa
open Go.RowKit
attribute [local go_sem ↓] Go.wp_at_zero Go.wp_at_succ

theorem ret_place {a b : Int} {t : Bool} (h : a = b) : Ending.returned (.tuple #[.int .i64 a, .bool t]) = Ending.returned (.tuple #[.int .i64 b, .bool t]) := by rw [h]
def PlaceV (t : Tn) : Ending := .returned (.tuple #[.int .i64 ((plc t).1 : Nat), .bool (plc t).2])
set_option maxRecDepth 4000 in
set_option maxHeartbeats 8000000 in
theorem places_any {w0 : World} {t : Tn} {x : Nd} (h : InAt w0 t x) : ∀ w, Below w0.heap.size w0 w → Calls Try.prog 34 #[x.val] w fun e w' => e = PlaceV t ∧ Below w.heap.size w w' := by
  induction h with
  | mk k s subs mn mx a n c vs hn hl hm hr hs ih =>
    intro w hw
    obtain ⟨x, hx⟩ : ∃ x : Nd, x = ⟨k, s, a, n, c, mn, mx⟩ := ⟨_, rfl⟩
    rw [← hx]
    have HX0 : Hid (x = ⟨k, s, a, n, c, mn, mx⟩) := hx
    have HIH : Hid (∀ (i : Nat) (t : Tn) (v : Nd), subs[i]? = some t → vs[i]? = some v → ∀ w, Below w0.heap.size w0 w → Calls Try.prog 34 #[v.val] w fun e w' => e = PlaceV t ∧ Below w.heap.size w w') := ih
    have HRO : Hid (RowAt (fun _ => True) w0 a vs) := hr
    have HN : Hid (n = subs.length) := hn
    have HL : Hid (vs.length = n) := hl
    have HSH : Hid (∀ u, Calls Try.prog 55 #[x.val] u fun e w' => e = .returned (.bool (shapedT k s n mn mx)) ∧ Below u.heap.size u w') := fun u => by
      have := shaped_any x u
      rw [hx] at this ⊢
      exact this
    have HPL : Hid (plc (.mk k s subs mn mx) = if shapedT k s n mn mx then match plcs subs 0 with
      | some n => (min (ends k n subs.length mn mx) 2048, true)
      | none => (0, false)
      else (0, false)) := by show _ = _; rw [plc, hn]; rfl
    have HW : Hid (Below w0.heap.size w0 w) := hw
    have HNB : Hid (NB (w.alloc (.cells #[.int .i64 k, .int .u64 (Oct.word s 0 : Nat), .int .u64 (Oct.word s 1 : Nat), .int .u64 (Oct.word s 2 : Nat), .int .u64 (Oct.word s 3 : Nat), .slice a n c, .int .i64 mn, .int .i64 mx] 30)) w.heap.size x) := by rw [hx]; exact nb_new w ⟨k, s, a, n, c, mn, mx⟩
    have HB1 : Hid (Below w.heap.size w (w.alloc (.cells #[.int .i64 k, .int .u64 (Oct.word s 0 : Nat), .int .u64 (Oct.word s 1 : Nat), .int .u64 (Oct.word s 2 : Nat), .int .u64 (Oct.word s 3 : Nat), .slice a n c, .int .i64 mn, .int .i64 mx] 30)) ) := (Below.refl _ _).alloc (Nat.le_refl _) _
    obtain ⟨w1, hw1⟩ : ∃ w1, w1 = w.alloc (.cells #[.int .i64 k, .int .u64 (Oct.word s 0 : Nat), .int .u64 (Oct.word s 1 : Nat), .int .u64 (Oct.word s 2 : Nat), .int .u64 (Oct.word s 3 : Nat), .slice a n c, .int .i64 mn, .int .i64 mx] 30) := ⟨_, rfl⟩
    rw [← hw1] at HNB HB1
    obtain ⟨A, hA⟩ : ∃ A, A = w.heap.size := ⟨_, rfl⟩
    rw [← hA] at HNB
    have HAA : Hid (A = w.heap.size) := hA
    have HW1 : Hid (w.alloc _ = w1) := hw1.symm
    have HVAL : Hid (x.val = .agg #[.int .i64 k, .int .u64 (Oct.word s 0 : Nat), .int .u64 (Oct.word s 1 : Nat), .int .u64 (Oct.word s 2 : Nat), .int .u64 (Oct.word s 3 : Nat), .slice a n c, .int .i64 mn, .int .i64 mx]) := by show _ = _; rw [hx]; rfl
    have HCE : Hid (∀ u, Below w1.heap.size w1 u → u.cell? ⟨A, 0, none⟩ = some (.int .i64 k) ∧ u.cell? ⟨A, 1, none⟩ = some (.int .u64 (Oct.word s 0 : Nat)) ∧ u.cell? ⟨A, 2, none⟩ = some (.int .u64 (Oct.word s 1 : Nat)) ∧ u.cell? ⟨A, 3, none⟩ = some (.int .u64 (Oct.word s 2 : Nat)) ∧ u.cell? ⟨A, 4, none⟩ = some (.int .u64 (Oct.word s 3 : Nat)) ∧ u.cell? ⟨A, 5, none⟩ = some (.slice a n c) ∧ u.cell? ⟨A, 6, none⟩ = some (.int .i64 mn) ∧ u.cell? ⟨A, 7, none⟩ = some (.int .i64 mx)) := fun u hu => by
      have := (HNB.out.later hu).cells
      rw [hx] at this
      exact this
    rw [HVAL.out] at HSH ⊢
    clear hx hw hw1 hA hn hl hr hs ih HX0 HVAL
    obtain ⟨b0, b1, b2, b3, b4, b5, b6, b7⟩ := HCE.out w1 (Below.refl _ _)
    go_enter Try.func34, Try.ntmps34
    go_upto_region 1 with fail
    rw [HW1.out, ← HAA.out]
    clear HW1
    go_wp2_with fail
    refine (HSH.out _).mono ?_
    rintro e w2 ⟨rfl, k2⟩
    have HB2 : Hid (Below w1.heap.size w1 w2) := k2
    clear k2 HSH b0 b1 b2 b3 b4 b5 b6 b7
    cases hsh : shapedT k s n mn mx with
    | false =>
      have HX : Hid (plc (.mk k s subs mn mx) = (0, false)) := by show _ = _; rw [HPL.out, hsh]; rfl
      clear hsh
      go_wp2
      go_ret2
      exact ⟨by unfold PlaceV; rw [HX.out]; rfl, below_step HB1.out HB2.out⟩
    | true =>
      have HPP : Hid (plc (.mk k s subs mn mx) = match plcs subs 0 with
        | some n => (min (ends k n subs.length mn mx) 2048, true)
        | none => (0, false)) := by show _ = _; rw [HPL.out, hsh]; rfl
      have HSHT : Hid (shapedT k s n mn mx = true) := hsh
      clear hsh HPL
      obtain ⟨b0, b1, b2, b3, b4, b5, b6, b7⟩ := HCE.out w2 HB2.out
      go_wp2_with fail
      go_loopw [4, 15] (fun v i u => ∃ (m p : Nat), v = .int .i64 (p : Nat) ∧ i = .int .i64 (m : Nat) ∧ m ≤ n ∧ p ≤ 2048 ∧ Hid (plcs subs 0 = plcs (subs.drop m) p) ∧ Hid (Below w1.heap.size w1 u)) (fun _ i _ => n - (intOf i).toNat)
      case atStart => exact ⟨0, 0, rfl, rfl, Nat.zero_le _, by decide, by show _ = _; rfl, HB2.out⟩
      case round =>
        clear b0 b1 b2 b3 b4 b5 b6 b7 HB2
        obtain ⟨m, p, rfl, rfl, hmn, hp, HPS, HBU⟩ := hrel
        by_cases hlt : m < n
        · obtain ⟨t, ht⟩ : ∃ t, subs[m]? = some t := ⟨_, List.getElem?_eq_getElem (by rw [← HN.out]; exact hlt)⟩
          obtain ⟨v, hv⟩ : ∃ v, vs[m]? = some v := ⟨_, List.getElem?_eq_getElem (by rw [HL.out]; exact hlt)⟩
          have HW0 : Hid (Below w0.heap.size w0 wr) := below_step (below_step HW.out HB1.out) HBU.out
          have hrow := (HRO.out.keep (Y := fun _ => True) (fun _ h _ => h) (fun b _ hlt => HW0.out.block b hlt)).nth hv
          obtain ⟨g, off, rfl, e0, e1, e2, e3, e4, e5, e6, e7⟩ := hrow
          have HCALL : Hid (∀ u, Below w0.heap.size w0 u → Calls Try.prog 34 #[v.val] u fun e w' => e = PlaceV t ∧ Below u.heap.size u w') := HIH.out m t v ht hv
          have HSTEP : Hid (plcs subs 0 = if (plc t).2 then plcs (subs.drop (m + 1)) (min (p + (plc t).1) 2048) else none) := by show _ = _; rw [HPS.out]; exact plcs_step ht p
          have HLE := plc_le t
          clear ht hv
          have k3 : Below wr.heap.size wr (wr.alloc (.cells #[.int .i64 v.k, .int .u64 (Oct.word v.s 0 : Nat), .int .u64 (Oct.word v.s 1 : Nat), .int .u64 (Oct.word v.s 2 : Nat), .int .u64 (Oct.word v.s 3 : Nat), .slice v.a v.n v.c, .int .i64 v.mn, .int .i64 v.mx] 30)) := (Below.refl _ _).alloc (Nat.le_refl _) _
          have HB3 : Hid (Below w1.heap.size w1 (wr.alloc (.cells #[.int .i64 v.k, .int .u64 (Oct.word v.s 0 : Nat), .int .u64 (Oct.word v.s 1 : Nat), .int .u64 (Oct.word v.s 2 : Nat), .int .u64 (Oct.word v.s 3 : Nat), .slice v.a v.n v.c, .int .i64 v.mn, .int .i64 v.mx] 30))) := below_step HBU.out k3
          have HW3 : Hid (Below w0.heap.size w0 (wr.alloc (.cells #[.int .i64 v.k, .int .u64 (Oct.word v.s 0 : Nat), .int .u64 (Oct.word v.s 1 : Nat), .int .u64 (Oct.word v.s 2 : Nat), .int .u64 (Oct.word v.s 3 : Nat), .slice v.a v.n v.c, .int .i64 v.mn, .int .i64 v.mx] 30))) := below_step HW0.out k3
          have HN3 : Hid (NB (wr.alloc (.cells #[.int .i64 v.k, .int .u64 (Oct.word v.s 0 : Nat), .int .u64 (Oct.word v.s 1 : Nat), .int .u64 (Oct.word v.s 2 : Nat), .int .u64 (Oct.word v.s 3 : Nat), .slice v.a v.n v.c, .int .i64 v.mn, .int .i64 v.mx] 30)) wr.heap.size v) := nb_new wr v
          clear k3
          obtain ⟨w3, hw3⟩ : ∃ w3, w3 = wr.alloc (.cells #[.int .i64 v.k, .int .u64 (Oct.word v.s 0 : Nat), .int .u64 (Oct.word v.s 1 : Nat), .int .u64 (Oct.word v.s 2 : Nat), .int .u64 (Oct.word v.s 3 : Nat), .slice v.a v.n v.c, .int .i64 v.mn, .int .i64 v.mx] 30) := ⟨_, rfl⟩
          obtain ⟨Y, hY⟩ : ∃ Y, Y = wr.heap.size := ⟨_, rfl⟩
          rw [← hw3] at HB3 HW3 HN3
          rw [← hY] at HN3
          have HWW : Hid (wr.alloc (.cells #[.int .i64 v.k, .int .u64 (Oct.word v.s 0 : Nat), .int .u64 (Oct.word v.s 1 : Nat), .int .u64 (Oct.word v.s 2 : Nat), .int .u64 (Oct.word v.s 3 : Nat), .slice v.a v.n v.c, .int .i64 v.mn, .int .i64 v.mx] 30) = w3) := hw3.symm
          have HYY : Hid (wr.heap.size = Y) := hY.symm
          clear hw3 hY
          go_upto_region 7 with fail
          rw [HWW.out, HYY.out]
          clear HWW HYY e0 e1 e2 e3 e4 e5 e6 e7
          obtain ⟨e0, e1, e2, e3, e4, e5, e6, e7⟩ := HN3.out.cells
          have HC := HCALL.out w3 HW3.out
          unfold Nd.val at HC
          have HCC : Hid (Calls Try.prog 34 _ w3 _) := HC
          clear HC HCALL
          go_wp2_with fail
          refine HCC.out.mono ?_
          rintro e w4 ⟨rfl, k4⟩
          have HB4 : Hid (Below w1.heap.size w1 w4) := below_step HB3.out k4
          clear k4 HCC e0 e1 e2 e3 e4 e5 e6 e7
          unfold PlaceV
          obtain ⟨q, hq⟩ : ∃ q, q = (plc t).1 := ⟨_, rfl⟩
          rw [← hq] at HLE HSTEP ⊢
          clear hq
          cases hb : (plc t).2 with
          | false =>
            have HX : Hid (plc (.mk k s subs mn mx) = (0, false)) := by show _ = _; rw [HPP.out, HSTEP.out, hb]; rfl
            clear hb
            go_wp2
            go_ret2
            exact ⟨by unfold PlaceV; rw [HX.out]; rfl, below_step HB1.out HB4.out⟩
          | true =>
            have HS2 : Hid (plcs subs 0 = plcs (subs.drop (m + 1)) (min (p + q) 2048)) := by show _ = _; rw [HSTEP.out, hb]; rfl
            clear hb HSTEP
            by_cases hle : p + q ≤ 2048
            · have HM : Hid (min (p + q) 2048 = p + q) := Nat.min_eq_left hle
              have g1 : (p : Int) + (q : Int) ≤ 2048 := by omega
              go_wp2
              go_roundw
              case rel => exact ⟨m + 1, p + q, by go_num, by go_num, by omega, by omega, by show _ = _; rw [HS2.out, HM.out], HB4.out⟩
              case measure => simp [intOf]; omega
            · have HM : Hid (min (p + q) 2048 = 2048) := Nat.min_eq_right (by omega)
              have g1 : ¬ (p : Int) + (q : Int) ≤ 2048 := by omega
              go_wp2
              go_roundw
              case rel => exact ⟨m + 1, 2048, by go_num, by go_num, by omega, by omega, by show _ = _; rw [HS2.out, HM.out], HB4.out⟩
              case measure => simp [intOf]; omega
        · have HX : Hid (plc (.mk k s subs mn mx) = (min (ends k p n mn mx) 2048, true)) := by
            show _ = _
            rw [HPP.out, HPS.out, List.drop_eq_nil_of_le (by rw [← HN.out]; omega), plcs, ← HN.out]
          have hmE : m = n := by omega
          clear HPS HPP hlt
          obtain ⟨b0, b1, b2, b3, b4, b5, b6, b7⟩ := HCE.out wr HBU.out
          by_cases h2 : k = 2
          · have hk := h2
            clear h2
            have k2 : (k == 2) = true := by simp [hk]
            have k6 : (k == 6) = false := by simp [hk]
            have k7 : (k == 7) = false := by simp [hk]
            have k4 : (k == 4) = false := by simp [hk]
            have k5 : (k == 5) = false := by simp [hk]
            have HE : Hid (min (ends k p n mn mx) 2048 = 1) := by show _ = _; simp [ends, hk]
            clear hk
            go_wp2
            go_ret2
            exact ⟨by unfold PlaceV; rw [HX.out, HE.out]; rfl, below_step HB1.out HBU.out⟩
          · by_cases h6 : k = 6
            · have hk := h6
              clear h6
              have k2 : (k == 2) = false := by simp [hk]
              have k6 : (k == 6) = true := by simp [hk]
              have k7 : (k == 7) = false := by simp [hk]
              have k4 : (k == 4) = false := by simp [hk]
              have k5 : (k == 5) = false := by simp [hk]
              have HE : Hid (min (ends k p n mn mx) 2048 = 1) := by show _ = _; simp [ends, hk]
              clear hk
              go_wp2
              go_ret2
              exact ⟨by unfold PlaceV; rw [HX.out, HE.out]; rfl, below_step HB1.out HBU.out⟩
            · by_cases h7 : k = 7
              · have hk := h7
                clear h7
                have k2 : (k == 2) = false := by simp [hk]
                have k6 : (k == 6) = false := by simp [hk]
                have k7 : (k == 7) = true := by simp [hk]
                have k4 : (k == 4) = false := by simp [hk]
                have k5 : (k == 5) = false := by simp [hk]
                have HE : Hid (min (ends k p n mn mx) 2048 = 1) := by show _ = _; simp [ends, hk]
                clear hk
                go_wp2
                go_ret2
                exact ⟨by unfold PlaceV; rw [HX.out, HE.out]; rfl, below_step HB1.out HBU.out⟩
              · by_cases h4 : k = 4
                · have hk := h4
                  clear h4
                  have k2 : (k == 2) = false := by simp [hk]
                  have k6 : (k == 6) = false := by simp [hk]
                  have k7 : (k == 7) = false := by simp [hk]
                  have k4 : (k == 4) = true := by simp [hk]
                  have k5 : (k == 5) = false := by simp [hk]
                  by_cases hle : p + n + 1 ≤ 2048
                  · have HE : Hid (min (ends k p n mn mx) 2048 = p + n + 1) := by show _ = _; simp [ends, hk]; omega
                    have g1 : (p : Int) + ((n : Int) + 1) ≤ 2048 := by omega
                    clear hk
                    go_wp2
                    go_ret2
                    exact ⟨by unfold PlaceV; rw [HX.out, HE.out]; exact ret_place (by omega), below_step HB1.out HBU.out⟩
                  · have HE : Hid (min (ends k p n mn mx) 2048 = 2048) := by show _ = _; simp [ends, hk]; omega
                    have g1 : ¬ (p : Int) + ((n : Int) + 1) ≤ 2048 := by omega
                    clear hk
                    go_wp2
                    go_ret2
                    exact ⟨by unfold PlaceV; rw [HX.out, HE.out]; exact ret_place (by omega), below_step HB1.out HBU.out⟩
                · by_cases h5 : k = 5
                  · have hk := h5
                    clear h5
                    have k2 : (k == 2) = false := by simp [hk]
                    have k6 : (k == 6) = false := by simp [hk]
                    have k7 : (k == 7) = false := by simp [hk]
                    have k4 : (k == 4) = false := by simp [hk]
                    have k5 : (k == 5) = true := by simp [hk]
                    have hct : counted mn mx = true := by
                      have h1 := HSHT.out
                      unfold shapedT at h1
                      simp [hk] at h1
                      exact h1.2
                    unfold counted at hct
                    simp at hct
                    obtain ⟨l, rfl⟩ : ∃ l : Nat, mn = (l : Int) := ⟨mn.toNat, by omega⟩
                    have hlb : l ≤ 255 := by omega
                    have hxa : -1 ≤ mx := by omega
                    have hxb : mx ≤ 255 := by omega
                    have hRL := repT_le (o := p) (l := l) (m := mx) hp hlb hxa hxb
                    have HEN : Hid (ends k p n (l : Int) mx = (repT p l mx).toNat) := by show _ = _; simp [ends, hk]
                    have HREP : Hid (∀ u, Calls Try.prog 56 #[.int .i64 (p : Nat), .int .i64 (l : Nat), .int .i64 mx] u fun e w' => e = .returned (.int .i64 (repT p l mx)) ∧ w' = u) := fun u => repeats_any p l mx u hp hlb hxa hxb
                    obtain ⟨r, hr⟩ : ∃ r, r = repT p l mx := ⟨_, rfl⟩
                    rw [← hr] at hRL HEN HREP
                    clear hr hct hxa hxb hk
                    go_wp2_with fail
                    refine (HREP.out _).mono ?_
                    rintro e w9 ⟨rfl, hw9⟩
                    have hw9 := hw9.symm
                    subst hw9
                    by_cases hle : r ≤ 2048
                    · have HE : Hid (min (ends k p n (l : Int) mx) 2048 = r.toNat) := by show _ = _; rw [HEN.out]; omega
                      go_wp2
                      go_ret2
                      exact ⟨by unfold PlaceV; rw [HX.out, HE.out]; exact ret_place (by omega), below_step HB1.out HBU.out⟩
                    · have HE : Hid (min (ends k p n (l : Int) mx) 2048 = 2048) := by show _ = _; rw [HEN.out]; omega
                      go_wp2
                      go_ret2
                      exact ⟨by unfold PlaceV; rw [HX.out, HE.out]; exact ret_place (by omega), below_step HB1.out HBU.out⟩
                  · have k2 : (k == 2) = false := by simp [h2]
                    have k6 : (k == 6) = false := by simp [h6]
                    have k7 : (k == 7) = false := by simp [h7]
                    have k4 : (k == 4) = false := by simp [h4]
                    have k5 : (k == 5) = false := by simp [h5]
                    have HE : Hid (min (ends k p n mn mx) 2048 = p) := by show _ = _; simp [ends, h2, h6, h7, h4, h5]; omega
                    clear h2 h6 h7 h4 h5
                    go_wp2
                    go_ret2
                    exact ⟨by unfold PlaceV; rw [HX.out, HE.out]; exact ret_place (by omega), below_step HB1.out HBU.out⟩
end Go.Proofs.Ytjmbimgofceanaa
