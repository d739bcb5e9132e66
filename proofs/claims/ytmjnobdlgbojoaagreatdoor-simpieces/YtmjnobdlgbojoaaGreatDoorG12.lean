
import Derived.Test.YtmjnobdlgbojoaaGreatDoorG11
namespace Go.Proofs.YtmjnobdlgbojoaaGreatDoor
open Go.RowKit
attribute [local go_sem ↓] Go.wp_at_zero Go.wp_at_succ
def noSet (s : Oct.S) : Bool := decide (Oct.word s 0 = 0) && decide (Oct.word s 1 = 0) && decide (Oct.word s 2 = 0) && decide (Oct.word s 3 = 0)
set_option maxRecDepth 4000 in
set_option maxHeartbeats 2000000 in
theorem eq4_zero (a b c d : Nat) (w : World) : (Op.equalIn 10000 28 (.agg #[.int .u64 (a : Nat), .int .u64 (b : Nat), .int .u64 (c : Nat), .int .u64 (d : Nat)]) (.agg #[.int .u64 0, .int .u64 0, .int .u64 0, .int .u64 0])).run Tryz.prog w = .ok (decide (a = 0) && decide (b = 0) && decide (c = 0) && decide (d = 0)) w := by
  obtain ⟨i0, hi, hz0, hz1, hz2⟩ := info_parts info26
  have h1 : ∀ x : Nat, (Op.equalIn 9999 26 (.int .u64 (x : Nat)) (.int .u64 0)).run Tryz.prog w = .ok (decide (x = 0)) w := fun x => by
    rw [run_equalIn_int w 9998 26 .u64 .u64 x 0 Tryz.underlying26]
    congr 1
    rw [Bool.eq_iff_iff]
    simp
  have h10 : (Op.equalIn 9999 26 (.int .u64 0) (.int .u64 0)).run Tryz.prog w = .ok true w := h1 0
  rw [show (10000 : Nat) = 9999 + 1 from rfl, Op.equalIn]
  by_cases ha : a = 0
  · by_cases hb : b = 0
    · by_cases hc : c = 0
      · by_cases hd : d = 0
        · simp [run_underlying Tryz.underlying28, sizeOf, typeInfo, hi, hz1, part, Tryz.isAgg26, Std.Legacy.Range.forIn_eq_forIn_range', Std.Legacy.Range.size, List.range'_succ, List.range'_zero, ha, hb, hc, hd, h10]
        · simp [run_underlying Tryz.underlying28, sizeOf, typeInfo, hi, hz1, part, Tryz.isAgg26, Std.Legacy.Range.forIn_eq_forIn_range', Std.Legacy.Range.size, List.range'_succ, List.range'_zero, h1, ha, hb, hc, hd, h10]
      · simp [run_underlying Tryz.underlying28, sizeOf, typeInfo, hi, hz1, part, Tryz.isAgg26, Std.Legacy.Range.forIn_eq_forIn_range', Std.Legacy.Range.size, List.range'_succ, List.range'_zero, h1, ha, hb, hc, h10]
    · simp [run_underlying Tryz.underlying28, sizeOf, typeInfo, hi, hz1, part, Tryz.isAgg26, Std.Legacy.Range.forIn_eq_forIn_range', Std.Legacy.Range.size, List.range'_succ, List.range'_zero, h1, ha, hb, h10]
  · simp [run_underlying Tryz.underlying28, sizeOf, typeInfo, hi, hz1, part, Tryz.isAgg26, Std.Legacy.Range.forIn_eq_forIn_range', Std.Legacy.Range.size, List.range'_succ, List.range'_zero, h1, ha]
def plainT (mn mx : Int) : Bool := decide (mn = 0) && decide (mx = 0)
def shapedT (k : Int) (s : Oct.S) (n : Nat) (mn mx : Int) : Bool :=
  if k = 1 ∨ k = 6 ∨ k = 7 then decide (n = 0) && noSet s && plainT mn mx
  else if k = 2 then decide (n = 0) && !(s 10) && plainT mn mx
  else if k = 3 ∨ k = 4 then decide (2 ≤ n) && noSet s && plainT mn mx
  else if k = 5 then decide (n = 1) && noSet s && counted mn mx
  else false
set_option maxRecDepth 4000 in
set_option maxHeartbeats 4000000 in
theorem shaped_any (x : Nd) (w : World) : Calls Tryz.prog 65 #[x.val] w fun e w' => e = .returned (.bool (shapedT x.k x.s x.n x.mn x.mx)) ∧ Below w.heap.size w w' := by
  obtain ⟨w0, hw0⟩ : ∃ w0, w0 = w.alloc (.cells #[.int .i64 x.k, .int .u64 (Oct.word x.s 0 : Nat), .int .u64 (Oct.word x.s 1 : Nat), .int .u64 (Oct.word x.s 2 : Nat), .int .u64 (Oct.word x.s 3 : Nat), .slice x.a x.n x.c, .int .i64 x.mn, .int .i64 x.mx] 30) := ⟨_, rfl⟩
  obtain ⟨w1, hw1⟩ : ∃ w1, w1 = w0.alloc (.cells #[.int .u64 0, .int .u64 0, .int .u64 0, .int .u64 0] 28) := ⟨_, rfl⟩
  have z0 : w0.heap.size = w.heap.size + 1 := by rw [hw0]; simp
  have k0 : Below w.heap.size w w0 := by rw [hw0]; exact (Below.refl _ _).alloc (Nat.le_refl _) _
  have k1 : Below w0.heap.size w0 w1 := by rw [hw1]; exact (Below.refl _ _).alloc (Nat.le_refl _) _
  have HN : Hid (NB w1 w.heap.size x) := by have hb0 : NB w0 w.heap.size x := (by rw [hw0]; exact nb_new w x); exact hb0.later k1
  have HZ : Hid (SB w1 (w.heap.size + 1) Oct.none) := by have hb1 : SB w1 w0.heap.size Oct.none := (by rw [hw1]; exact sb_zero w0); rw [z0] at hb1; exact hb1
  have HB : Hid (Below w.heap.size w w1) := below_step k0 k1
  have HW1 : Hid (w0.alloc (.cells #[.int .u64 0, .int .u64 0, .int .u64 0, .int .u64 0] 28) = w1) := hw1.symm
  have HW0 : Hid (w.alloc (.cells #[.int .i64 x.k, .int .u64 (Oct.word x.s 0 : Nat), .int .u64 (Oct.word x.s 1 : Nat), .int .u64 (Oct.word x.s 2 : Nat), .int .u64 (Oct.word x.s 3 : Nat), .slice x.a x.n x.c, .int .i64 x.mn, .int .i64 x.mx] 30) = w0) := hw0.symm
  obtain ⟨A, hA⟩ : ∃ A, A = w.heap.size := ⟨_, rfl⟩
  obtain ⟨Z, hZ⟩ : ∃ Z, Z = w.heap.size + 1 := ⟨_, rfl⟩
  rw [← hA] at HN
  rw [← hZ] at HZ
  have HAA : Hid (A = w.heap.size) := hA
  have HZZ : Hid (Z = w.heap.size + 1) := hZ
  clear hw0 hw1 z0 k0 k1 hA hZ
  obtain ⟨b0, b1, b2, b3, b4, b5, b6, b7⟩ := HN.out.cells
  obtain ⟨q0, q1, q2, q3⟩ := HZ.out.cells
  rw [word0] at q0 q1 q2 q3
  have HEQ : Hid (∀ u, (Op.equalIn 10000 28 (.agg #[.int .u64 (Oct.word x.s 0 : Nat), .int .u64 (Oct.word x.s 1 : Nat), .int .u64 (Oct.word x.s 2 : Nat), .int .u64 (Oct.word x.s 3 : Nat)]) (.agg #[.int .u64 0, .int .u64 0, .int .u64 0, .int .u64 0])).run Tryz.prog u = .ok (noSet x.s) u) := fun u => eq4_zero _ _ _ _ u
  unfold Nd.val
  go_enter Tryz.func65, Tryz.ntmps65
  go_upto_region 2 with fail
  rw [HW0.out, HW1.out, ← HAA.out, show A + 1 = Z by rw [HAA.out, HZZ.out]]
  clear HW0 HW1 HAA HZZ
  go_cut [4] (fun b wx => b = .bool (plainT x.mn x.mx) ∧ Hid (wx = w1))
  case first =>
    by_cases hmn : x.mn = 0
    · by_cases hmx : x.mx = 0
      · have g1 : (x.mn == 0) = true := by simp [hmn]
        have g2 : (x.mx == 0) = true := by simp [hmx]
        have HX : Hid (plainT x.mn x.mx = true) := by show _ = _; simp [plainT, hmn, hmx]
        clear hmn hmx
        go_wp2_with fail
        go_meet
        case rel => exact ⟨by rw [HX.out], rfl⟩
      · have g1 : (x.mn == 0) = true := by simp [hmn]
        have g2 : (x.mx == 0) = false := by simp [hmx]
        have HX : Hid (plainT x.mn x.mx = false) := by show _ = _; simp [plainT, hmx]
        clear hmn hmx
        go_wp2_with fail
        go_meet
        case rel => exact ⟨by rw [HX.out], rfl⟩
    · have g1 : (x.mn == 0) = false := by simp [hmn]
      have HX : Hid (plainT x.mn x.mx = false) := by show _ = _; simp [plainT, hmn]
      clear hmn
      go_wp2_with fail
      go_meet
      case rel => exact ⟨by rw [HX.out], rfl⟩
  case rest =>
  obtain ⟨rfl, kc⟩ := hcut
  have kc' := kc.out
  subst kc'
  clear kc
  obtain ⟨pb, hpb⟩ : ∃ pb, pb = plainT x.mn x.mx := ⟨_, rfl⟩
  rw [← hpb]
  have HPB : Hid (plainT x.mn x.mx = pb) := hpb.symm
  clear hpb
  by_cases h1 : x.k = 1
  · have hk := h1
    clear h1
    have k1 : (x.k == 1) = true := by simp [hk]
    have k6 : (x.k == 6) = false := by simp [hk]
    have k7 : (x.k == 7) = false := by simp [hk]
    have k2 : (x.k == 2) = false := by simp [hk]
    have k3 : (x.k == 3) = false := by simp [hk]
    have k4 : (x.k == 4) = false := by simp [hk]
    have k5 : (x.k == 5) = false := by simp [hk]
    by_cases hn : x.n = 0
    · have n1 : ((x.n : Int) == 0) = true := by simp; omega
      cases hs : noSet x.s with
      | false =>
        have EQ := HEQ.out
        rw [hs] at EQ
        have HX : Hid (shapedT x.k x.s x.n x.mn x.mx = false) := by show _ = _; unfold shapedT; simp [hk, hn, hs, HPB.out]
        clear hn hk hs
        go_wp2
        go_ret
        exact ⟨ret_bool (by rw [HX.out]), HB.out⟩
      | true =>
        have EQ := HEQ.out
        rw [hs] at EQ
        have HX : Hid (shapedT x.k x.s x.n x.mn x.mx = pb) := by show _ = _; unfold shapedT; simp [hk, hn, hs, HPB.out]
        clear hn hk hs
        go_wp2
        go_ret
        exact ⟨ret_bool (by rw [HX.out]), HB.out⟩
    · have n1 : ((x.n : Int) == 0) = false := by simp; omega
      have HX : Hid (shapedT x.k x.s x.n x.mn x.mx = false) := by show _ = _; unfold shapedT; simp [hk, hn, HPB.out]
      clear hn hk
      go_wp2
      go_ret
      exact ⟨ret_bool (by rw [HX.out]), HB.out⟩
  · by_cases h6 : x.k = 6
    · have hk := h6
      clear h6
      have k1 : (x.k == 1) = false := by simp [hk]
      have k6 : (x.k == 6) = true := by simp [hk]
      have k7 : (x.k == 7) = false := by simp [hk]
      have k2 : (x.k == 2) = false := by simp [hk]
      have k3 : (x.k == 3) = false := by simp [hk]
      have k4 : (x.k == 4) = false := by simp [hk]
      have k5 : (x.k == 5) = false := by simp [hk]
      by_cases hn : x.n = 0
      · have n1 : ((x.n : Int) == 0) = true := by simp; omega
        cases hs : noSet x.s with
        | false =>
          have EQ := HEQ.out
          rw [hs] at EQ
          have HX : Hid (shapedT x.k x.s x.n x.mn x.mx = false) := by show _ = _; unfold shapedT; simp [hk, hn, hs, HPB.out]
          clear hn hk hs
          go_wp2
          go_ret
          exact ⟨ret_bool (by rw [HX.out]), HB.out⟩
        | true =>
          have EQ := HEQ.out
          rw [hs] at EQ
          have HX : Hid (shapedT x.k x.s x.n x.mn x.mx = pb) := by show _ = _; unfold shapedT; simp [hk, hn, hs, HPB.out]
          clear hn hk hs
          go_wp2
          go_ret
          exact ⟨ret_bool (by rw [HX.out]), HB.out⟩
      · have n1 : ((x.n : Int) == 0) = false := by simp; omega
        have HX : Hid (shapedT x.k x.s x.n x.mn x.mx = false) := by show _ = _; unfold shapedT; simp [hk, hn, HPB.out]
        clear hn hk
        go_wp2
        go_ret
        exact ⟨ret_bool (by rw [HX.out]), HB.out⟩
    · by_cases h7 : x.k = 7
      · have hk := h7
        clear h7
        have k1 : (x.k == 1) = false := by simp [hk]
        have k6 : (x.k == 6) = false := by simp [hk]
        have k7 : (x.k == 7) = true := by simp [hk]
        have k2 : (x.k == 2) = false := by simp [hk]
        have k3 : (x.k == 3) = false := by simp [hk]
        have k4 : (x.k == 4) = false := by simp [hk]
        have k5 : (x.k == 5) = false := by simp [hk]
        by_cases hn : x.n = 0
        · have n1 : ((x.n : Int) == 0) = true := by simp; omega
          cases hs : noSet x.s with
          | false =>
            have EQ := HEQ.out
            rw [hs] at EQ
            have HX : Hid (shapedT x.k x.s x.n x.mn x.mx = false) := by show _ = _; unfold shapedT; simp [hk, hn, hs, HPB.out]
            clear hn hk hs
            go_wp2
            go_ret
            exact ⟨ret_bool (by rw [HX.out]), HB.out⟩
          | true =>
            have EQ := HEQ.out
            rw [hs] at EQ
            have HX : Hid (shapedT x.k x.s x.n x.mn x.mx = pb) := by show _ = _; unfold shapedT; simp [hk, hn, hs, HPB.out]
            clear hn hk hs
            go_wp2
            go_ret
            exact ⟨ret_bool (by rw [HX.out]), HB.out⟩
        · have n1 : ((x.n : Int) == 0) = false := by simp; omega
          have HX : Hid (shapedT x.k x.s x.n x.mn x.mx = false) := by show _ = _; unfold shapedT; simp [hk, hn, HPB.out]
          clear hn hk
          go_wp2
          go_ret
          exact ⟨ret_bool (by rw [HX.out]), HB.out⟩
      · by_cases h2 : x.k = 2
        · have hk := h2
          clear h2
          have k1 : (x.k == 1) = false := by simp [hk]
          have k6 : (x.k == 6) = false := by simp [hk]
          have k7 : (x.k == 7) = false := by simp [hk]
          have k2 : (x.k == 2) = true := by simp [hk]
          have k3 : (x.k == 3) = false := by simp [hk]
          have k4 : (x.k == 4) = false := by simp [hk]
          have k5 : (x.k == 5) = false := by simp [hk]
          by_cases hn : x.n = 0
          · have n1 : ((x.n : Int) == 0) = true := by simp; omega
            have HX : Hid (shapedT x.k x.s x.n x.mn x.mx = (!(x.s 10) && pb)) := by show _ = _; unfold shapedT; simp [hk, hn, HPB.out]
            clear hn hk
            go_wp2_with fail
            refine (has_gen x.s 10 _ (by decide)).mono ?_
            rintro e w2 ⟨rfl, k2⟩
            cases hh : x.s 10 with
            | true =>
              have HY : Hid (shapedT x.k x.s x.n x.mn x.mx = false) := by show _ = _; rw [HX.out, hh]; simp
              clear hh
              go_wp2
              go_ret
              exact ⟨ret_bool (by rw [HY.out]), below_step HB.out k2⟩
            | false =>
              have HY : Hid (shapedT x.k x.s x.n x.mn x.mx = pb) := by show _ = _; rw [HX.out, hh]; simp
              clear hh
              go_wp2
              go_ret
              exact ⟨ret_bool (by rw [HY.out]), below_step HB.out k2⟩
          · have n1 : ((x.n : Int) == 0) = false := by simp; omega
            have HX : Hid (shapedT x.k x.s x.n x.mn x.mx = false) := by show _ = _; unfold shapedT; simp [hk, hn, HPB.out]
            clear hn hk
            go_wp2
            go_ret
            exact ⟨ret_bool (by rw [HX.out]), HB.out⟩
        · by_cases h3 : x.k = 3
          · have hk := h3
            clear h3
            have k1 : (x.k == 1) = false := by simp [hk]
            have k6 : (x.k == 6) = false := by simp [hk]
            have k7 : (x.k == 7) = false := by simp [hk]
            have k2 : (x.k == 2) = false := by simp [hk]
            have k3 : (x.k == 3) = true := by simp [hk]
            have k4 : (x.k == 4) = false := by simp [hk]
            have k5 : (x.k == 5) = false := by simp [hk]
            by_cases hn : 2 ≤ x.n
            · have n1 : (2 : Int) ≤ (x.n : Int) := by omega
              have n2 : decide ((2 : Int) ≤ (x.n : Int)) = true := by simp; omega
              cases hs : noSet x.s with
              | false =>
                have EQ := HEQ.out
                rw [hs] at EQ
                have HX : Hid (shapedT x.k x.s x.n x.mn x.mx = false) := by show _ = _; unfold shapedT; simp [hk, hn, hs, HPB.out]
                clear hn hk hs
                go_wp2
                go_ret
                exact ⟨ret_bool (by rw [HX.out]), HB.out⟩
              | true =>
                have EQ := HEQ.out
                rw [hs] at EQ
                have HX : Hid (shapedT x.k x.s x.n x.mn x.mx = pb) := by show _ = _; unfold shapedT; simp [hk, hn, hs, HPB.out]
                clear hn hk hs
                go_wp2
                go_ret
                exact ⟨ret_bool (by rw [HX.out]), HB.out⟩
            · have n1 : ¬ (2 : Int) ≤ (x.n : Int) := by omega
              have n2 : decide ((2 : Int) ≤ (x.n : Int)) = false := by simp; omega
              have HX : Hid (shapedT x.k x.s x.n x.mn x.mx = false) := by show _ = _; unfold shapedT; simp [hk, hn, HPB.out]
              clear hn hk
              go_wp2
              go_ret
              exact ⟨ret_bool (by rw [HX.out]), HB.out⟩
          · by_cases h4 : x.k = 4
            · have hk := h4
              clear h4
              have k1 : (x.k == 1) = false := by simp [hk]
              have k6 : (x.k == 6) = false := by simp [hk]
              have k7 : (x.k == 7) = false := by simp [hk]
              have k2 : (x.k == 2) = false := by simp [hk]
              have k3 : (x.k == 3) = false := by simp [hk]
              have k4 : (x.k == 4) = true := by simp [hk]
              have k5 : (x.k == 5) = false := by simp [hk]
              by_cases hn : 2 ≤ x.n
              · have n1 : (2 : Int) ≤ (x.n : Int) := by omega
                have n2 : decide ((2 : Int) ≤ (x.n : Int)) = true := by simp; omega
                cases hs : noSet x.s with
                | false =>
                  have EQ := HEQ.out
                  rw [hs] at EQ
                  have HX : Hid (shapedT x.k x.s x.n x.mn x.mx = false) := by show _ = _; unfold shapedT; simp [hk, hn, hs, HPB.out]
                  clear hn hk hs
                  go_wp2
                  go_ret
                  exact ⟨ret_bool (by rw [HX.out]), HB.out⟩
                | true =>
                  have EQ := HEQ.out
                  rw [hs] at EQ
                  have HX : Hid (shapedT x.k x.s x.n x.mn x.mx = pb) := by show _ = _; unfold shapedT; simp [hk, hn, hs, HPB.out]
                  clear hn hk hs
                  go_wp2
                  go_ret
                  exact ⟨ret_bool (by rw [HX.out]), HB.out⟩
              · have n1 : ¬ (2 : Int) ≤ (x.n : Int) := by omega
                have n2 : decide ((2 : Int) ≤ (x.n : Int)) = false := by simp; omega
                have HX : Hid (shapedT x.k x.s x.n x.mn x.mx = false) := by show _ = _; unfold shapedT; simp [hk, hn, HPB.out]
                clear hn hk
                go_wp2
                go_ret
                exact ⟨ret_bool (by rw [HX.out]), HB.out⟩
            · by_cases h5 : x.k = 5
              · have hk := h5
                clear h5
                have k1 : (x.k == 1) = false := by simp [hk]
                have k6 : (x.k == 6) = false := by simp [hk]
                have k7 : (x.k == 7) = false := by simp [hk]
                have k2 : (x.k == 2) = false := by simp [hk]
                have k3 : (x.k == 3) = false := by simp [hk]
                have k4 : (x.k == 4) = false := by simp [hk]
                have k5 : (x.k == 5) = true := by simp [hk]
                by_cases hn : x.n = 1
                · have n1 : ((x.n : Int) == 1) = true := by simp; omega
                  cases hs : noSet x.s with
                  | false =>
                    have EQ := HEQ.out
                    rw [hs] at EQ
                    have HX : Hid (shapedT x.k x.s x.n x.mn x.mx = false) := by show _ = _; unfold shapedT; simp [hk, hn, hs]
                    clear hn hk hs
                    go_wp2
                    go_ret
                    exact ⟨ret_bool (by rw [HX.out]), HB.out⟩
                  | true =>
                    have EQ := HEQ.out
                    rw [hs] at EQ
                    have HX : Hid (shapedT x.k x.s x.n x.mn x.mx = counted x.mn x.mx) := by show _ = _; unfold shapedT; simp [hk, hn, hs]
                    clear hn hk hs
                    go_wp2_with fail
                    refine (counted_any x.mn x.mx _).mono ?_
                    rintro e w2 ⟨rfl, hw2⟩
                    have hw2 := hw2.symm
                    subst hw2
                    go_wp2
                    go_ret
                    exact ⟨ret_bool (by rw [HX.out]), HB.out⟩
                · have n1 : ((x.n : Int) == 1) = false := by simp; omega
                  have HX : Hid (shapedT x.k x.s x.n x.mn x.mx = false) := by show _ = _; unfold shapedT; simp [hk, hn]
                  clear hn hk
                  go_wp2
                  go_ret
                  exact ⟨ret_bool (by rw [HX.out]), HB.out⟩
              · have k1 : (x.k == 1) = false := by simp [h1]
                have k6 : (x.k == 6) = false := by simp [h6]
                have k7 : (x.k == 7) = false := by simp [h7]
                have k2 : (x.k == 2) = false := by simp [h2]
                have k3 : (x.k == 3) = false := by simp [h3]
                have k4 : (x.k == 4) = false := by simp [h4]
                have k5 : (x.k == 5) = false := by simp [h5]
                have HX : Hid (shapedT x.k x.s x.n x.mn x.mx = false) := by show _ = _; unfold shapedT; simp [h1, h6, h7, h2, h3, h4, h5]
                go_wp2
                go_ret
                exact ⟨ret_bool (by rw [HX.out]), HB.out⟩
end Go.Proofs.YtmjnobdlgbojoaaGreatDoor
