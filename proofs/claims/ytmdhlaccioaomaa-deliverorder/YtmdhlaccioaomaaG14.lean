/- backoff's functions. -/
import Derived.Test.YtmdhlaccioaomaaG13
import Derived.BigRegion
import Derived.Deep.RegionWith
import Derived.WalkMore
namespace Go.Proofs.Ytmdhlaccioaomaa
open Go.RowKit Bo
attribute [local go_sem ↓] Go.wp_at_zero Go.wp_at_succ

theorem ret_pair {a b k : Int} (h : a = b) : Ending.returned (.tuple #[.int .i64 a, .int .i64 k]) = .returned (.tuple #[.int .i64 b, .int .i64 k]) := by rw [h]
def Tm (z : Int) : Prop := 0 ≤ z ∧ z ≤ 1099511627776
instance (z : Int) : Decidable (Tm z) := inferInstanceAs (Decidable (_ ∧ _))
theorem istime_fn (z : Int) (w : World) : Calls Try.prog 36 #[.int .i64 z] w fun e w' => e = .returned (.bool (decide (Tm z))) ∧ w' = w := by
  by_cases h1 : 0 ≤ z
  · by_cases h2 : z ≤ 1099511627776
    · rw [decide_eq_true (p := Tm z) ⟨h1, h2⟩]
      go_enter Try.func36, Try.ntmps36
      go_wp2
      go_ret
      exact ⟨rfl, rfl⟩
    · rw [decide_eq_false (p := Tm z) (fun h : Tm z => h2 h.2)]
      go_enter Try.func36, Try.ntmps36
      go_wp2
      go_ret
      exact ⟨rfl, rfl⟩
  · rw [decide_eq_false (p := Tm z) (fun h : Tm z => h1 h.1)]
    go_enter Try.func36, Try.ntmps36
    go_wp2
    go_ret
    exact ⟨rfl, rfl⟩
theorem istime_yes {z : Int} (h : Tm z) (w : World) : Calls Try.prog 36 #[.int .i64 z] w fun e w' => e = .returned (.bool true) ∧ w' = w := by
  have := istime_fn z w; rwa [decide_eq_true h] at this
theorem istime_no {z : Int} (h : ¬ Tm z) (w : World) : Calls Try.prog 36 #[.int .i64 z] w fun e w' => e = .returned (.bool false) ∧ w' = w := by
  have := istime_fn z w; rwa [decide_eq_false h] at this
theorem longer_fn (d m : Nat) (hd : d ≤ 1099511627776) (w : World) : Calls Try.prog 44 #[.int .i64 (d : Nat), .int .i64 (m : Nat)] w fun e w' => e = .returned (.int .i64 (min (2 * d) m : Nat)) ∧ w' = w := by
  have HN : Hid (2 * (d : Int) = ((2 * d : Nat) : Int)) := by show _ = _; omega
  by_cases h : 2 * d ≤ m
  · rw [Nat.min_eq_left h]
    go_enter Try.func44, Try.ntmps44
    go_wp2
    go_ret
    exact ⟨ret_int HN.out, rfl⟩
  · rw [Nat.min_eq_right (by omega)]
    go_enter Try.func44, Try.ntmps44
    go_wp2
    go_ret
    exact ⟨rfl, rfl⟩
theorem drew_below (w : World) (q : Nat) : Below w.heap.size w (w.drewN q) := ⟨rfl, rfl, rfl, Nat.le_refl _, fun _ _ => rfl⟩
/-- what Delay answers to wrong numbers -/
theorem delay_no {b m k : Int} (h : ¬ (Tm b ∧ Tm m ∧ 0 ≤ k)) (w : World) : Calls Try.prog 35 #[.int .i64 b, .int .i64 m, .int .i64 k] w fun e w' => e = .returned (.tuple #[.int .i64 0, .int .i64 1]) ∧ w' = w := by
  by_cases h1 : Tm b
  · have HB : Hid (∀ u, Calls Try.prog 36 #[.int .i64 b] u _) := istime_yes h1
    by_cases h2 : Tm m
    · have HM : Hid (∀ u, Calls Try.prog 36 #[.int .i64 m] u _) := istime_yes h2
      have h3 : k < 0 := by
        rcases Int.lt_or_le k 0 with h3 | h3
        · exact h3
        · exact absurd ⟨h1, h2, h3⟩ h
      clear h h1 h2
      go_enter Try.func35, Try.ntmps35
      go_wp2_with fail
      go_step3
      go_wp2_with fail
      refine (HB.out _).mono ?_
      rintro e u ⟨rfl, hu⟩
      subst u
      go_wp2_with fail
      refine (HM.out _).mono ?_
      rintro e u ⟨rfl, hu⟩
      subst u
      go_wp2
      rw [Exit.noGoto_ret]
      go_ret2
      exact ⟨rfl, rfl⟩
    · have HM : Hid (∀ u, Calls Try.prog 36 #[.int .i64 m] u _) := istime_no h2
      clear h h1 h2
      go_enter Try.func35, Try.ntmps35
      go_wp2_with fail
      go_step3
      go_wp2_with fail
      refine (HB.out _).mono ?_
      rintro e u ⟨rfl, hu⟩
      subst u
      go_wp2_with fail
      refine (HM.out _).mono ?_
      rintro e u ⟨rfl, hu⟩
      subst u
      go_wp2
      rw [Exit.noGoto_ret]
      go_ret2
      exact ⟨rfl, rfl⟩
  · have HB : Hid (∀ u, Calls Try.prog 36 #[.int .i64 b] u _) := istime_no h1
    clear h h1
    go_enter Try.func35, Try.ntmps35
    go_wp2_with fail
    go_step3
    go_wp2_with fail
    refine (HB.out _).mono ?_
    rintro e u ⟨rfl, hu⟩
    subst u
    go_wp2
    rw [Exit.noGoto_ret]
    go_ret2
    exact ⟨rfl, rfl⟩
theorem tm_nat {b : Nat} (h : b ≤ 1099511627776) : Tm (b : Nat) := ⟨by omega, by omega⟩
theorem delay_fn {b m k : Nat} (hb : b ≤ 1099511627776) (hm : m ≤ 1099511627776) (hk : k ≤ 9223372036854775807) (w : World) : Calls Try.prog 35 #[.int .i64 (b : Nat), .int .i64 (m : Nat), .int .i64 (k : Nat)] w fun e w' => e = .returned (.tuple #[.int .i64 (dl b m k : Nat), .int .i64 0]) ∧ w' = w := by
  have HB : Hid (∀ u, Calls Try.prog 36 #[.int .i64 (b : Nat)] u _) := istime_yes (tm_nat hb)
  have HM : Hid (∀ u, Calls Try.prog 36 #[.int .i64 (m : Nat)] u _) := istime_yes (tm_nat hm)
  have HL : Hid (∀ u d, d ≤ 1099511627776 → Calls Try.prog 44 #[.int .i64 (d : Nat), .int .i64 (m : Nat)] u fun e w' => e = .returned (.int .i64 (min (2 * d) m : Nat)) ∧ w' = u) := fun u d hd => longer_fn d m hd u
  have hk0 : ¬ (k : Int) < 0 := by omega
  go_enter Try.func35, Try.ntmps35
  go_wp2_with fail
  go_step3
  go_wp2_with fail
  refine (HB.out _).mono ?_
  rintro e u ⟨rfl, hu⟩
  subst u
  go_wp2_with fail
  refine (HM.out _).mono ?_
  rintro e u ⟨rfl, hu⟩
  subst u
  go_upto_region 3 with fail
  go_cut [8] from 21 to 23 (fun v wx => v = .int .i64 (dl b m 0 : Nat) ∧ w = wx)
  case first =>
    by_cases hbm : b ≤ m
    · go_wp2
      go_meet
      case rel => exact ⟨by rw [show dl b m 0 = b from Nat.min_eq_left hbm], rfl⟩
    · go_wp2
      go_meet
      case rel => exact ⟨by rw [show dl b m 0 = m from Nat.min_eq_right (by omega)], rfl⟩
  case rest =>
  obtain ⟨rfl, rfl⟩ := hcut
  go_wp2_with fail
  go_step3
  go_wp2_with fail
  go_loopw [8, 25] (fun d i x => ∃ j : Nat, d = .int .i64 (dl b m j : Nat) ∧ i = .int .i64 (j : Nat) ∧ j ≤ k ∧ w = x) (fun _ i _ => k - (intOf i).toNat)
  case atStart => exact ⟨0, rfl, rfl, Nat.zero_le _, rfl⟩
  case round =>
  obtain ⟨j, rfl, rfl, hj, rfl⟩ := hrel
  by_cases hlt : j < k
  · have l1 : (j : Int) < (k : Int) := by omega
    by_cases h0 : dl b m j = 0
    · have e0 : dl b m k = dl b m j := dl_stay b m hj (.inl h0)
      have z0 : (dl b m j : Int) = 0 := by omega
      clear h0
      go_wp2
      rw [Exit.noGoto_ret]
      go_ret2
      exact ⟨ret_pair (by rw [e0]), rfl⟩
    · by_cases h1 : dl b m j = m
      · have e0 : dl b m k = dl b m j := dl_stay b m hj (.inr h1)
        have z0 : ¬ (dl b m j : Int) = 0 := by omega
        have z1 : (dl b m j : Int) = (m : Int) := by omega
        clear h0 h1
        go_wp2
        rw [Exit.noGoto_ret]
        go_ret2
        exact ⟨ret_pair (by rw [e0]), rfl⟩
      · have z0 : ¬ (dl b m j : Int) = 0 := by omega
        have z1 : ¬ (dl b m j : Int) = (m : Int) := by omega
        have HC : Hid (Calls Try.prog 44 #[.int .i64 (dl b m j : Nat), .int .i64 (m : Nat)] w fun e w' => e = .returned (.int .i64 (dl b m (j + 1) : Nat)) ∧ w' = w) := HL.out w _ (by have := dl_le b m j; omega)
        clear h0 h1
        go_wp2_with fail
        refine HC.out.mono ?_
        rintro e u ⟨rfl, hu⟩
        subst u
        clear HC
        go_wp2_with fail
        go_roundw
        case rel => exact ⟨j + 1, rfl, by go_num, by omega, trivial⟩
        case measure => simp [Go.RowKit.intOf]; omega
  · have l1 : ¬ (j : Int) < (k : Int) := by omega
    obtain rfl : j = k := by omega
    go_wp2
    try rw [Exit.noGoto_ret]
    go_ret2
    exact ⟨rfl, rfl⟩
/-- the jitter as far as it may go -/
def jt (z : Int) (l : Nat) : Nat := if z < 0 then 0 else if (l : Int) < z then l else z.toNat
theorem jt_le (z : Int) (l : Nat) : jt z l ≤ l := by unfold jt; split <;> (try split) <;> omega
theorem due_fn {b m k now l : Nat} {z : Int} (hb : b ≤ 1099511627776) (hm : m ≤ 1099511627776) (hk : k ≤ 9223372036854775807) (hn : now ≤ 2305843009213693952) (hl : l ≤ 1099511627776) (w : World) :
    Calls Try.prog 21 #[.int .i64 (now : Nat), .int .i64 (b : Nat), .int .i64 (m : Nat), .int .i64 (k : Nat), .int .i64 z, .int .i64 (l : Nat)] w fun e w' => e = .returned (.tuple #[.int .i64 (now + dl b m k + jt z l : Nat), .int .i64 0]) ∧ w' = w := by
  have HD : Hid (Calls Try.prog 35 #[.int .i64 (b : Nat), .int .i64 (m : Nat), .int .i64 (k : Nat)] w _) := delay_fn hb hm hk w
  have HT : Hid (Calls Try.prog 36 #[.int .i64 (l : Nat)] w _) := istime_yes (tm_nat hl) w
  have hd := dl_le b m k
  have h1 : ¬ (now : Int) < 0 := by omega
  have h2 : ¬ (2305843009213693952 : Int) < now := by omega
  obtain ⟨d, hD⟩ : ∃ d, dl b m k = d := ⟨_, rfl⟩
  rw [hD] at HD hd ⊢
  clear hD
  by_cases hz : z < 0
  · have hj : jt z l = 0 := by unfold jt; rw [if_pos hz]
    rw [hj]
    have h3 : ¬ (l : Int) < 0 := by omega
    go_enter Try.func21, Try.ntmps21
    go_wp2_with fail
    refine HD.out.mono ?_
    rintro e u ⟨rfl, hu⟩
    subst u
    clear HD
    go_wp2_with fail
    refine HT.out.mono ?_
    rintro e u ⟨rfl, hu⟩
    subst u
    clear HT
    go_wp2
    go_ret2
    exact ⟨ret_pair (by omega), rfl⟩
  · by_cases hz2 : (l : Int) < z
    · have hj : jt z l = l := by unfold jt; rw [if_neg hz, if_pos hz2]
      rw [hj]
      go_enter Try.func21, Try.ntmps21
      go_wp2_with fail
      refine HD.out.mono ?_
      rintro e u ⟨rfl, hu⟩
      subst u
      clear HD
      go_wp2_with fail
      refine HT.out.mono ?_
      rintro e u ⟨rfl, hu⟩
      subst u
      clear HT
      go_wp2
      go_ret2
      exact ⟨ret_pair (by omega), rfl⟩
    · have hj : jt z l = z.toNat := by unfold jt; rw [if_neg hz, if_neg hz2]
      rw [hj]
      go_enter Try.func21, Try.ntmps21
      go_wp2_with fail
      refine HD.out.mono ?_
      rintro e u ⟨rfl, hu⟩
      subst u
      clear HD
      go_wp2_with fail
      refine HT.out.mono ?_
      rintro e u ⟨rfl, hu⟩
      subst u
      clear HT
      go_wp2
      go_ret2
      exact ⟨ret_pair (by omega), rfl⟩
theorem due_no1 {b m k now z l : Int} (h : ¬ (Tm b ∧ Tm m ∧ 0 ≤ k)) (w : World) :
    Calls Try.prog 21 #[.int .i64 now, .int .i64 b, .int .i64 m, .int .i64 k, .int .i64 z, .int .i64 l] w fun e w' => e = .returned (.tuple #[.int .i64 0, .int .i64 1]) ∧ w' = w := by
  have HD : Hid (Calls Try.prog 35 #[.int .i64 b, .int .i64 m, .int .i64 k] w _) := delay_no h w
  clear h
  go_enter Try.func21, Try.ntmps21
  go_wp2_with fail
  refine HD.out.mono ?_
  rintro e u ⟨rfl, hu⟩
  subst u
  clear HD
  go_wp2
  go_ret2
  exact ⟨rfl, rfl⟩
theorem due_no2 {b m k : Nat} {now z l : Int} (hb : b ≤ 1099511627776) (hm : m ≤ 1099511627776) (hk : k ≤ 9223372036854775807) (h : ¬ (0 ≤ now ∧ now ≤ 2305843009213693952 ∧ Tm l)) (w : World) :
    Calls Try.prog 21 #[.int .i64 now, .int .i64 (b : Nat), .int .i64 (m : Nat), .int .i64 (k : Nat), .int .i64 z, .int .i64 l] w fun e w' => e = .returned (.tuple #[.int .i64 0, .int .i64 1]) ∧ w' = w := by
  have HD : Hid (Calls Try.prog 35 #[.int .i64 (b : Nat), .int .i64 (m : Nat), .int .i64 (k : Nat)] w _) := delay_fn hb hm hk w
  by_cases h1 : now < 0
  · clear h
    go_enter Try.func21, Try.ntmps21
    go_wp2_with fail
    refine HD.out.mono ?_
    rintro e u ⟨rfl, hu⟩
    subst u
    clear HD
    go_wp2
    go_ret2
    exact ⟨rfl, rfl⟩
  · by_cases h2 : 2305843009213693952 < now
    · clear h
      go_enter Try.func21, Try.ntmps21
      go_wp2_with fail
      refine HD.out.mono ?_
      rintro e u ⟨rfl, hu⟩
      subst u
      clear HD
      go_wp2
      go_ret2
      exact ⟨rfl, rfl⟩
    · have HT : Hid (Calls Try.prog 36 #[.int .i64 l] w _) := istime_no (fun ht => h ⟨by omega, by omega, ht⟩) w
      clear h
      go_enter Try.func21, Try.ntmps21
      go_wp2_with fail
      refine HD.out.mono ?_
      rintro e u ⟨rfl, hu⟩
      subst u
      clear HD
      go_wp2_with fail
      refine HT.out.mono ?_
      rintro e u ⟨rfl, hu⟩
      subst u
      clear HT
      go_wp2
      go_ret2
      exact ⟨rfl, rfl⟩
end Go.Proofs.Ytmdhlaccioaomaa
