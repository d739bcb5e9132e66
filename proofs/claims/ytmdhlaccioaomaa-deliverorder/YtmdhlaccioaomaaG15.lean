/- heronref19's functions. -/
import Derived.Test.YtmdhlaccioaomaaG14
namespace Go.Proofs.Ytmdhlaccioaomaa
open Go.RowKit Bo
attribute [local go_sem ↓] Go.wp_at_zero Go.wp_at_succ

theorem bad_fn (b m : Int) (w : World) : Calls Try.prog 46 #[.int .i64 b, .int .i64 m] w fun e w' => e = .returned (.bool (!decide (Tm b ∧ Tm m))) ∧ w' = w := by
  by_cases h1 : b < 0
  · rw [show (!decide (Tm b ∧ Tm m)) = true by rw [decide_eq_false (fun h : Tm b ∧ Tm m => by have := h.1.1; omega)]; rfl]
    go_enter Try.func46, Try.ntmps46
    go_wp2
    go_ret
    exact ⟨rfl, rfl⟩
  by_cases h2 : 1099511627776 < b
  · rw [show (!decide (Tm b ∧ Tm m)) = true by rw [decide_eq_false (fun h : Tm b ∧ Tm m => by have := h.1.2; omega)]; rfl]
    go_enter Try.func46, Try.ntmps46
    go_wp2
    go_ret
    exact ⟨rfl, rfl⟩
  by_cases h3 : m < 0
  · rw [show (!decide (Tm b ∧ Tm m)) = true by rw [decide_eq_false (fun h : Tm b ∧ Tm m => by have := h.2.1; omega)]; rfl]
    go_enter Try.func46, Try.ntmps46
    go_wp2
    go_ret
    exact ⟨rfl, rfl⟩
  by_cases h4 : 1099511627776 < m
  · rw [show (!decide (Tm b ∧ Tm m)) = true by rw [decide_eq_false (fun h : Tm b ∧ Tm m => by have := h.2.2; omega)]; rfl]
    go_enter Try.func46, Try.ntmps46
    go_wp2
    go_ret
    exact ⟨rfl, rfl⟩
  · rw [show (!decide (Tm b ∧ Tm m)) = false by rw [decide_eq_true (⟨⟨by omega, by omega⟩, ⟨by omega, by omega⟩⟩ : Tm b ∧ Tm m)]; rfl]
    go_enter Try.func46, Try.ntmps46
    go_wp2
    go_ret
    exact ⟨rfl, rfl⟩
theorem bad_yes {b m : Int} (h : ¬ (Tm b ∧ Tm m)) (w : World) : Calls Try.prog 46 #[.int .i64 b, .int .i64 m] w fun e w' => e = .returned (.bool true) ∧ w' = w := by
  have := bad_fn b m w; rwa [decide_eq_false h] at this
theorem bad_not {b m : Int} (h : Tm b ∧ Tm m) (w : World) : Calls Try.prog 46 #[.int .i64 b, .int .i64 m] w fun e w' => e = .returned (.bool false) ∧ w' = w := by
  have := bad_fn b m w; rwa [decide_eq_true h] at this
theorem rdelay_no {b m k : Int} (h : ¬ (Tm b ∧ Tm m ∧ 0 ≤ k)) (w : World) : Calls Try.prog 45 #[.int .i64 b, .int .i64 m, .int .i64 k] w fun e w' => e = .returned (.tuple #[.int .i64 0, .int .i64 1]) ∧ w' = w := by
  by_cases h1 : Tm b ∧ Tm m
  · have HB : Hid (Calls Try.prog 46 #[.int .i64 b, .int .i64 m] w _) := bad_not h1 w
    have h3 : k < 0 := by
      rcases Int.lt_or_le k 0 with h3 | h3
      · exact h3
      · exact absurd ⟨h1.1, h1.2, h3⟩ h
    clear h h1
    go_enter Try.func45, Try.ntmps45
    go_wp2_with fail
    refine HB.out.mono ?_
    rintro e u ⟨rfl, hu⟩
    subst u
    go_wp2
    go_ret2
    exact ⟨rfl, rfl⟩
  · have HB : Hid (Calls Try.prog 46 #[.int .i64 b, .int .i64 m] w _) := bad_yes h1 w
    clear h h1
    go_enter Try.func45, Try.ntmps45
    go_wp2_with fail
    refine HB.out.mono ?_
    rintro e u ⟨rfl, hu⟩
    subst u
    go_wp2
    go_ret2
    exact ⟨rfl, rfl⟩
theorem rdelay_fn {b m k : Nat} (hb : b ≤ 1099511627776) (hm : m ≤ 1099511627776) (hk : k ≤ 9223372036854775807) (w : World) : Calls Try.prog 45 #[.int .i64 (b : Nat), .int .i64 (m : Nat), .int .i64 (k : Nat)] w fun e w' => e = .returned (.tuple #[.int .i64 (dl b m k : Nat), .int .i64 0]) ∧ w' = w := by
  have HB : Hid (Calls Try.prog 46 #[.int .i64 (b : Nat), .int .i64 (m : Nat)] w _) := bad_not ⟨tm_nat hb, tm_nat hm⟩ w
  have hk0 : ¬ (k : Int) < 0 := by omega
  go_enter Try.func45, Try.ntmps45
  go_wp2_with fail
  refine HB.out.mono ?_
  rintro e u ⟨rfl, hu⟩
  subst u
  clear HB
  go_wp2_with fail
  go_loopw [8, 9] (fun d i x => ∃ j D : Nat, d = .int .i64 (D : Nat) ∧ i = .int .i64 (j : Nat) ∧ j ≤ k ∧ D ≤ 2199023255552 ∧ min D m = dl b m j ∧ w = x) (fun _ i _ => k - (intOf i).toNat)
  case atStart => exact ⟨0, b, rfl, rfl, Nat.zero_le _, by omega, rfl, rfl⟩
  case round =>
  obtain ⟨j, D, rfl, rfl, hj, hD, hd, rfl⟩ := hrel
  by_cases c1 : j < k
  · have l1 : (j : Int) < (k : Int) := by omega
    by_cases c2 : D < m
    · have l2 : (D : Int) < (m : Int) := by omega
      have hd2 : D = dl b m j := by omega
      by_cases c3 : 0 < D
      · have l3 : (0 : Int) < (D : Int) := by omega
        go_wp2
        go_roundw
        case rel => exact ⟨j + 1, 2 * D, by go_num, by go_num, by omega, by omega, by rw [dl, ← hd2], trivial⟩
        case measure => simp [Go.RowKit.intOf]; omega
      · have l3 : ¬ (0 : Int) < (D : Int) := by omega
        have l4 : (D : Int) ≤ (m : Int) := by omega
        have e0 : dl b m k = dl b m j := dl_stay b m hj (.inl (by omega))
        go_wp2
        go_ret2
        exact ⟨ret_pair (by first | omega | (rw [e0]; omega)), rfl⟩
    · have l2 : ¬ (D : Int) < (m : Int) := by omega
      have e0 : dl b m k = dl b m j := dl_stay b m hj (.inr (by omega))
      by_cases c3 : D ≤ m
      · have l4 : (D : Int) ≤ (m : Int) := by omega
        go_wp2
        go_ret2
        exact ⟨ret_pair (by first | omega | (rw [e0]; omega)), rfl⟩
      · have l4 : ¬ (D : Int) ≤ (m : Int) := by omega
        go_wp2
        go_ret2
        exact ⟨ret_pair (by first | omega | (rw [e0]; omega)), rfl⟩
  · have l1 : ¬ (j : Int) < (k : Int) := by omega
    obtain rfl : j = k := by omega
    by_cases c3 : D ≤ m
    · have l4 : (D : Int) ≤ (m : Int) := by omega
      go_wp2
      go_ret2
      exact ⟨ret_pair (by omega), rfl⟩
    · have l4 : ¬ (D : Int) ≤ (m : Int) := by omega
      go_wp2
      go_ret2
      exact ⟨ret_pair (by omega), rfl⟩
theorem sm_zero (m n : Nat) : sm 0 m n = 0 := by
  induction n with
  | zero => rfl
  | succ n ih => rw [sm, ih, dl_zero]
theorem rdue_fn {b m k now l : Nat} {z : Int} (hb : b ≤ 1099511627776) (hm : m ≤ 1099511627776) (hk : k ≤ 9223372036854775807) (hn : now ≤ 2305843009213693952) (hl : l ≤ 1099511627776) (w : World) :
    Calls Try.prog 42 #[.int .i64 (now : Nat), .int .i64 (b : Nat), .int .i64 (m : Nat), .int .i64 (k : Nat), .int .i64 z, .int .i64 (l : Nat)] w fun e w' => e = .returned (.tuple #[.int .i64 (now + dl b m k + jt z l : Nat), .int .i64 0]) ∧ w' = w := by
  have HD : Hid (Calls Try.prog 45 #[.int .i64 (b : Nat), .int .i64 (m : Nat), .int .i64 (k : Nat)] w _) := rdelay_fn hb hm hk w
  have hd := dl_le b m k
  have h1 : ¬ (now : Int) < 0 := by omega
  have h2 : ¬ (2305843009213693952 : Int) < now := by omega
  have h4 : ¬ (l : Int) < 0 := by omega
  have h5 : ¬ (1099511627776 : Int) < l := by omega
  obtain ⟨d, hD⟩ : ∃ d, dl b m k = d := ⟨_, rfl⟩
  rw [hD] at HD hd ⊢
  clear hD
  by_cases hz : z < 0
  · have hj : jt z l = 0 := by unfold jt; rw [if_pos hz]
    rw [hj]
    have h6 : z ≤ (l : Int) := by omega
    go_enter Try.func42, Try.ntmps42
    go_wp2_with fail
    refine HD.out.mono ?_
    rintro e u ⟨rfl, hu⟩
    subst u
    clear HD
    go_wp2
    all_goals (go_ret2; exact ⟨ret_pair (by omega), rfl⟩)
  · by_cases hz2 : (l : Int) < z
    · have hj : jt z l = l := by unfold jt; rw [if_neg hz, if_pos hz2]
      rw [hj]
      go_enter Try.func42, Try.ntmps42
      go_wp2_with fail
      refine HD.out.mono ?_
      rintro e u ⟨rfl, hu⟩
      subst u
      clear HD
      go_wp2
      all_goals (go_ret2; exact ⟨ret_pair (by omega), rfl⟩)
    · have hj : jt z l = z.toNat := by unfold jt; rw [if_neg hz, if_neg hz2]
      rw [hj]
      go_enter Try.func42, Try.ntmps42
      go_wp2_with fail
      refine HD.out.mono ?_
      rintro e u ⟨rfl, hu⟩
      subst u
      clear HD
      go_wp2
      all_goals (go_ret2; exact ⟨ret_pair (by omega), rfl⟩)
theorem rdue_no1 {b m k now z l : Int} (h : ¬ (Tm b ∧ Tm m ∧ 0 ≤ k)) (w : World) :
    Calls Try.prog 42 #[.int .i64 now, .int .i64 b, .int .i64 m, .int .i64 k, .int .i64 z, .int .i64 l] w fun e w' => e = .returned (.tuple #[.int .i64 0, .int .i64 1]) ∧ w' = w := by
  have HD : Hid (Calls Try.prog 45 #[.int .i64 b, .int .i64 m, .int .i64 k] w _) := rdelay_no h w
  clear h
  go_enter Try.func42, Try.ntmps42
  go_wp2_with fail
  refine HD.out.mono ?_
  rintro e u ⟨rfl, hu⟩
  subst u
  clear HD
  go_wp2
  go_ret2
  exact ⟨rfl, rfl⟩
theorem rdue_no2 {b m k : Nat} {now z l : Int} (hb : b ≤ 1099511627776) (hm : m ≤ 1099511627776) (hk : k ≤ 9223372036854775807) (h : ¬ (0 ≤ now ∧ now ≤ 2305843009213693952 ∧ Tm l)) (w : World) :
    Calls Try.prog 42 #[.int .i64 now, .int .i64 (b : Nat), .int .i64 (m : Nat), .int .i64 (k : Nat), .int .i64 z, .int .i64 l] w fun e w' => e = .returned (.tuple #[.int .i64 0, .int .i64 1]) ∧ w' = w := by
  have HD : Hid (Calls Try.prog 45 #[.int .i64 (b : Nat), .int .i64 (m : Nat), .int .i64 (k : Nat)] w _) := rdelay_fn hb hm hk w
  by_cases h1 : now < 0
  · clear h
    go_enter Try.func42, Try.ntmps42
    go_wp2_with fail
    refine HD.out.mono ?_
    rintro e u ⟨rfl, hu⟩
    subst u
    clear HD
    go_wp2
    go_ret2
    exact ⟨rfl, rfl⟩
  by_cases h2 : 2305843009213693952 < now
  · clear h
    go_enter Try.func42, Try.ntmps42
    go_wp2_with fail
    refine HD.out.mono ?_
    rintro e u ⟨rfl, hu⟩
    subst u
    clear HD
    go_wp2
    go_ret2
    exact ⟨rfl, rfl⟩
  by_cases h3 : l < 0
  · clear h
    go_enter Try.func42, Try.ntmps42
    go_wp2_with fail
    refine HD.out.mono ?_
    rintro e u ⟨rfl, hu⟩
    subst u
    clear HD
    go_wp2
    go_ret2
    exact ⟨rfl, rfl⟩
  · have h4 : 1099511627776 < l := by
      rcases Int.lt_or_le 1099511627776 l with h4 | h4
      · exact h4
      · exact absurd ⟨by omega, by omega, by omega, h4⟩ h
    clear h
    go_enter Try.func42, Try.ntmps42
    go_wp2_with fail
    refine HD.out.mono ?_
    rintro e u ⟨rfl, hu⟩
    subst u
    clear HD
    go_wp2
    go_ret2
    exact ⟨rfl, rfl⟩
end Go.Proofs.Ytmdhlaccioaomaa
