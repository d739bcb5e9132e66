/- BackoffGrows answers true. -/
import Derived.Test.YtnlckacekbjofaaG04
namespace Go.Proofs.Ytnlckacekbjofaa
open Go.RowKit Bo
attribute [local go_sem ↓] Go.wp_at_zero Go.wp_at_succ

set_option maxHeartbeats 1600000 in
theorem grows_any {w : World} {zb zm zk : Int} (hk : Fit64 zk) : Calls Try.prog 3 #[.int .i64 zb, .int .i64 zm, .int .i64 zk] w fun e w' => e = .returned (.bool true) ∧ w' = w := by
  have HK : Hid (∀ u, Calls Try.prog 7 #[] u _) := known_fn
  have HIB : Hid (∀ u, Calls Try.prog 9 #[.int .i64 zb] u _) := in_fn zb
  have HIM : Hid (∀ u, Calls Try.prog 9 #[.int .i64 zm] u _) := in_fn zm
  have HN0 : Hid (∀ u, Calls Try.prog 10 #[.int .i64 0] u _) := num_fn 0
  have HN1 : Hid (∀ u, Calls Try.prog 10 #[.int .i64 1] u _) := num_fn 1
  have hb := inN_le zb
  have hm := inN_le zm
  obtain ⟨b, hbb⟩ : ∃ b, inN zb = b := ⟨_, rfl⟩
  obtain ⟨m, hmm⟩ : ∃ m, inN zm = m := ⟨_, rfl⟩
  rw [hbb] at HIB hb
  rw [hmm] at HIM hm
  clear hbb hmm
  have HD1 : Hid (∀ u, Calls Try.prog 8 #[.int .i64 (b : Nat), .int .i64 (m : Nat), .int .i64 (-1)] u _) := delay_no (k := -1) (fun h => by have := h.2.2; omega)
  have HD2 : Hid (∀ u, Calls Try.prog 8 #[.int .i64 1099511627777, .int .i64 (m : Nat), .int .i64 0] u _) := delay_no (b := 1099511627777) (fun h => by have := h.1.2; omega)
  have HD3 : Hid (∀ u, Calls Try.prog 8 #[.int .i64 (b : Nat), .int .i64 (-1), .int .i64 0] u _) := delay_no (m := -1) (fun h => by have := h.2.1.1; omega)
  have HD0 : Hid (∀ u, Calls Try.prog 8 #[.int .i64 (b : Nat), .int .i64 (m : Nat), .int .i64 0] u _) := delay_fn (k := 0) hb hm (by omega)
  go_enter Try.func3, Try.ntmps3
  go_wp2_with fail
  refine (HK.out _).mono ?_
  rintro e u ⟨rfl, hu⟩
  subst u
  go_wp2_with fail
  refine (HIB.out _).mono ?_
  rintro e u ⟨rfl, hu⟩
  subst u
  go_wp2_with fail
  refine (HIM.out _).mono ?_
  rintro e u ⟨rfl, hu⟩
  subst u
  go_wp2_with fail
  refine (HD1.out _).mono ?_
  rintro e u ⟨rfl, hu⟩
  subst u
  go_wp2_with fail
  refine (HIM.out _).mono ?_
  rintro e u ⟨rfl, hu⟩
  subst u
  go_wp2_with fail
  refine (HD2.out _).mono ?_
  rintro e u ⟨rfl, hu⟩
  subst u
  go_wp2_with fail
  refine (HIB.out _).mono ?_
  rintro e u ⟨rfl, hu⟩
  subst u
  go_wp2_with fail
  refine (HD3.out _).mono ?_
  rintro e u ⟨rfl, hu⟩
  subst u
  clear HK HD1 HD2 HD3
  go_wp2_with fail
  refine (HN1.out _).mono ?_
  rintro e u ⟨rfl, hu⟩
  subst u
  go_wp2_with fail
  refine (HN1.out _).mono ?_
  rintro e u ⟨rfl, hu⟩
  subst u
  go_wp2_with fail
  refine (HN1.out _).mono ?_
  rintro e u ⟨rfl, hu⟩
  subst u
  go_wp2_with fail
  refine (HIB.out _).mono ?_
  rintro e u ⟨rfl, hu⟩
  subst u
  go_wp2_with fail
  refine (HIM.out _).mono ?_
  rintro e u ⟨rfl, hu⟩
  subst u
  go_wp2_with fail
  refine (HD0.out _).mono ?_
  rintro e u ⟨rfl, hu⟩
  subst u
  clear HIB HIM HD0 HN1
  go_upto_region 10 with fail
  go_cut [13, 73] from 64 to 72 (fun d v wx => d = .int .i64 (dl b m 0 : Nat) ∧ v = .bool false ∧ w = wx)
  case first =>
    by_cases hbm : b ≤ m
    · have HD : Hid ((dl b m 0 : Int) = b) := by show ((min b m : Nat) : Int) = b; omega
      have hbm' : (b : Int) ≤ m := by omega
      go_wp2_with fail
      refine (HN0.out _).mono ?_
      rintro e u ⟨rfl, hu⟩
      subst u
      go_wp2
      go_meet
      case rel => exact ⟨rfl, by simp [HD.out], rfl⟩
    · have HD : Hid ((dl b m 0 : Int) = m) := by show ((min b m : Nat) : Int) = m; omega
      have hbm' : ¬ (b : Int) ≤ m := by omega
      go_wp2_with fail
      refine (HN0.out _).mono ?_
      rintro e u ⟨rfl, hu⟩
      subst u
      go_wp2
      go_meet
      case rel => exact ⟨rfl, by simp [HD.out], rfl⟩
  case rest =>
  obtain ⟨rfl, rfl, rfl⟩ := hcut
  go_wp2_with fail
  go_loopw [13, 15] (fun v i x => ∃ j : Nat, v = .int .i64 (dl b m j : Nat) ∧ i = .int .i64 ((j + 1 : Nat) : Nat) ∧ j ≤ 45 ∧ w = x) (fun _ i _ => 46 - (intOf i).toNat)
  case atStart => exact ⟨0, rfl, rfl, by omega, rfl⟩
  case round =>
  obtain ⟨j, rfl, rfl, hj, rfl⟩ := hrel
  by_cases hlt : j < 45
  · have l1 : ((j + 1 : Nat) : Int) ≤ 45 := by omega
    have HD : Hid (∀ u, Calls Try.prog 8 #[.int .i64 (b : Nat), .int .i64 (m : Nat), .int .i64 ((j + 1 : Nat) : Nat)] u _) := delay_fn hb hm (by omega)
    have h1 := dl_mono b m j
    have h2 := dl_twice b m j
    have h3 := dl_le b m (j + 1)
    have h4 : dl b m (j + 1) = min (2 * dl b m j) m := rfl
    obtain ⟨d, hd⟩ : ∃ d, dl b m j = d := ⟨_, rfl⟩
    obtain ⟨d', hd'⟩ : ∃ d', dl b m (j + 1) = d' := ⟨_, rfl⟩
    have HJ : Hid (dl b m (j + 1) = d') := hd'
    rw [hd'] at HD h1 h2 h3 h4
    rw [hd] at h1 h2 h4 ⊢
    clear hd hd'
    have g1 : ¬ (d' : Int) < d := by omega
    have g3 : ¬ (m : Int) < d' := by omega
    by_cases hdm : 2 * d ≤ m
    · have g2 : ¬ 2 * (d : Int) < d' := by omega
      have g4 : 2 * (d : Int) ≤ m := by omega
      have g5 : (d' : Int) = 2 * d := by omega
      go_wp2_with fail
      refine (HD.out _).mono ?_
      rintro e u ⟨rfl, hu⟩
      subst u
      go_wp2_with fail
      refine (HN0.out _).mono ?_
      rintro e u ⟨rfl, hu⟩
      subst u
      clear HD
      go_wp2
      go_roundw
      case rel => exact ⟨j + 1, by rw [HJ.out]; first | rfl | exact congrArg (Value.int .i64) (by omega), by go_num, by omega, by first | rfl | trivial⟩
      case measure => simp [Go.RowKit.intOf]; omega
    · have g4 : ¬ 2 * (d : Int) ≤ m := by omega
      have g5 : d' = m := by omega
      subst d'
      have g2 : ¬ 2 * (d : Int) < m := by omega
      go_wp2_with fail
      refine (HD.out _).mono ?_
      rintro e u ⟨rfl, hu⟩
      subst u
      go_wp2_with fail
      refine (HN0.out _).mono ?_
      rintro e u ⟨rfl, hu⟩
      subst u
      clear HD
      go_wp2
      go_roundw
      case rel => exact ⟨j + 1, by rw [HJ.out]; first | rfl | exact congrArg (Value.int .i64) (by omega), by go_num, by omega, by first | rfl | trivial⟩
      case measure => simp [Go.RowKit.intOf]; omega
  · have l1 : ¬ ((j + 1 : Nat) : Int) ≤ 45 := by omega
    obtain rfl : j = 45 := by omega
    have H45 : Hid (∀ k, 45 ≤ k → dl b m k = dl b m 45) := fun k hk => by
      by_cases h0 : b = 0
      · subst h0; rw [dl_zero, dl_zero]
      · rw [dl_far (by omega) hm (by omega : 40 ≤ k), dl_far (by omega) hm (by omega)]
    have HV : Hid ((0 < b → dl b m 45 = m) ∧ (b = 0 → dl b m 45 = 0)) := ⟨fun h => dl_far h hm (by omega), fun h => by rw [h]; exact dl_zero m 45⟩
    have HDK : Hid (∀ k : Nat, k ≤ 9223372036854775807 → ∀ u, Calls Try.prog 8 #[.int .i64 (b : Nat), .int .i64 (m : Nat), .int .i64 (k : Nat)] u _) := fun k hk => delay_fn hb hm hk
    have hle := dl_le b m 45
    obtain ⟨d, hd⟩ : ∃ d, dl b m 45 = d := ⟨_, rfl⟩
    rw [hd] at H45 HV hle ⊢
    clear hd
    by_cases hb0 : 0 < b
    · obtain rfl : d = m := HV.out.1 hb0
      have l2 : (0 : Int) < b := by omega
      clear HV
      by_cases h45 : zk < 45
      · go_wp2
        go_ret
        exact ⟨rfl, rfl⟩
      · obtain ⟨k, rfl⟩ := nat_of (by omega : 0 ≤ zk)
        have HD : Hid (∀ u, Calls Try.prog 8 #[.int .i64 (b : Nat), .int .i64 (d : Nat), .int .i64 (k : Nat)] u fun r w' => r = .returned (.tuple #[.int .i64 (d : Nat), .int .i64 0]) ∧ w' = u) := fun u => by
          have := HDK.out k (by have := hk.2; omega) u
          rw [H45.out k (by omega)] at this
          exact this
        clear HDK H45
        go_wp2_with fail
        refine (HD.out _).mono ?_
        rintro e u ⟨rfl, hu⟩
        subst u
        go_wp2_with fail
        refine (HN0.out _).mono ?_
        rintro e u ⟨rfl, hu⟩
        subst u
        go_wp2
        go_ret
        exact ⟨rfl, rfl⟩
    · obtain rfl : b = 0 := by omega
      obtain rfl : d = 0 := HV.out.2 rfl
      clear HV
      by_cases h45 : zk < 45
      · go_wp2
        go_ret
        exact ⟨rfl, rfl⟩
      · obtain ⟨k, rfl⟩ := nat_of (by omega : 0 ≤ zk)
        have HD : Hid (∀ u, Calls Try.prog 8 #[.int .i64 0, .int .i64 (m : Nat), .int .i64 (k : Nat)] u fun r w' => r = .returned (.tuple #[.int .i64 0, .int .i64 0]) ∧ w' = u) := fun u => by
          have := HDK.out k (by have := hk.2; omega) u
          rw [H45.out k (by omega)] at this
          exact this
        clear HDK H45
        go_wp2_with fail
        refine (HD.out _).mono ?_
        rintro e u ⟨rfl, hu⟩
        subst u
        go_wp2_with fail
        refine (HN0.out _).mono ?_
        rintro e u ⟨rfl, hu⟩
        subst u
        go_wp2
        go_ret
        exact ⟨rfl, rfl⟩
end Go.Proofs.Ytnlckacekbjofaa
