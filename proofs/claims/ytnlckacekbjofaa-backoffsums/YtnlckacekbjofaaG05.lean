/- BackoffSums answers true. -/
import Derived.Test.YtnlckacekbjofaaG04
namespace Go.Proofs.Ytnlckacekbjofaa
open Go.RowKit Bo
attribute [local go_sem ↓] Go.wp_at_zero Go.wp_at_succ

theorem rem20 (z : Int) : ∃ n : Nat, n < 1048576 ∧ (IntKind.u64.wrap z).tmod 1048576 = (n : Nat) := by
  have h0 := wrap_pos z
  refine ⟨((IntKind.u64.wrap z).tmod 1048576).toNat, ?_, ?_⟩
  · rw [Int.tmod_eq_emod_of_nonneg h0]; omega
  · rw [Int.tmod_eq_emod_of_nonneg h0]; omega
set_option maxHeartbeats 1600000 in
theorem sums_any {w : World} {zb zm zn : Int} : Calls Try.prog 4 #[.int .i64 zb, .int .i64 zm, .int .i64 zn] w fun e w' => e = .returned (.bool true) ∧ w' = w := by
  have HK : Hid (∀ u, Calls Try.prog 7 #[] u _) := known_fn
  have HIB : Hid (∀ u, Calls Try.prog 9 #[.int .i64 zb] u _) := in_fn zb
  have HIM : Hid (∀ u, Calls Try.prog 9 #[.int .i64 zm] u _) := in_fn zm
  have HN0 : Hid (∀ u, Calls Try.prog 10 #[.int .i64 0] u _) := num_fn 0
  have HN1 : Hid (∀ u, Calls Try.prog 10 #[.int .i64 1] u _) := num_fn 1
  have hb := inN_le zb
  have hm := inN_le zm
  obtain ⟨b, hbb⟩ : ∃ b, inN zb = b := ⟨_, rfl⟩
  obtain ⟨m, hmm⟩ : ∃ m, inN zm = m := ⟨_, rfl⟩
  rw [hbb] at HIB hb
  rw [hmm] at HIM hm
  clear hbb hmm
  obtain ⟨n, hn, hq⟩ := rem20 zn
  have HS1 : Hid (∀ u, Calls Try.prog 11 #[.int .i64 (b : Nat), .int .i64 (m : Nat), .int .i64 (n : Nat)] u _) := sum_fn (n := n) hb hm (by omega)
  have HS2 : Hid (∀ u, Calls Try.prog 11 #[.int .i64 (b : Nat), .int .i64 (m : Nat), .int .i64 ((n : Nat) + 1)] u _) := sum_fn (n := n + 1) hb hm (by omega)
  have HS0 : Hid (∀ u, Calls Try.prog 11 #[.int .i64 (b : Nat), .int .i64 (m : Nat), .int .i64 0] u fun r w' => r = .returned (.tuple #[.int .i64 0, .int .i64 0]) ∧ w' = u) := sum_fn (n := 0) hb hm (by omega)
  have HS3 : Hid (∀ u, Calls Try.prog 11 #[.int .i64 (b : Nat), .int .i64 (m : Nat), .int .i64 1048577] u _) := sum_no (n := 1048577) (fun h => by have := h.2.2.2; omega)
  have HD : Hid (∀ u, Calls Try.prog 8 #[.int .i64 (b : Nat), .int .i64 (m : Nat), .int .i64 (n : Nat)] u _) := delay_fn hb hm (by omega)
  have HDK : Hid (∀ k : Nat, k ≤ 60 → ∀ u, Calls Try.prog 8 #[.int .i64 (b : Nat), .int .i64 (m : Nat), .int .i64 (k : Nat)] u _) := fun k hk => delay_fn hb hm (by omega)
  have h1 : (sm b m (n + 1) : Int) = sm b m n + dl b m n := by rw [sm]; omega
  have h2 : sm b m n + dl b m n ≤ 1152921504606846976 := sm_bound (n := n + 1) hm (by omega)
  have h3 : (sm b m n : Int) ≤ (n : Int) * m := by rw [← Int.natCast_mul]; exact Int.ofNat_le.2 (sm_le b m n)
  have h4 : (n : Int) * m ≤ 1152921504606846976 := by rw [← Int.natCast_mul]; exact Int.ofNat_le.2 (Nat.le_trans (Nat.mul_le_mul (Nat.le_of_lt hn) hm) (by decide))
  have h5 : 0 ≤ (n : Int) * m := by rw [← Int.natCast_mul]; omega
  have HL : Hid (∀ k, k ≤ n → sm b m k ≤ sm b m n) := fun k hk => sm_mono b m hk
  have HE : Hid (∀ k, k ≤ 60 → sm b m k + dl b m k ≤ 1152921504606846976) := fun k hk => sm_bound (n := k + 1) hm (by omega)
  obtain ⟨S, hS⟩ : ∃ S, sm b m n = S := ⟨_, rfl⟩
  obtain ⟨S1, hS1⟩ : ∃ S1, sm b m (n + 1) = S1 := ⟨_, rfl⟩
  obtain ⟨D, hD⟩ : ∃ D, dl b m n = D := ⟨_, rfl⟩
  rw [hS] at HS1 HL h1 h2 h3
  rw [hS1] at HS2 h1
  rw [hD] at HD h1 h2
  have HSn : Hid (sm b m n = S) := hS
  clear hS hS1 hD
  go_enter Try.func4, Try.ntmps4
  go_wp2_with fail
  refine (HK.out _).mono ?_
  rintro e u ⟨rfl, hu⟩
  subst u
  go_wp2_with fail
  refine (HIB.out _).mono ?_
  rintro e u ⟨rfl, hu⟩
  subst u
  go_wp2_with fail
  refine (HIM.out _).mono ?_
  rintro e u ⟨rfl, hu⟩
  subst u
  go_wp2_with fail
  refine (HS1.out _).mono ?_
  rintro e u ⟨rfl, hu⟩
  subst u
  go_wp2_with fail
  refine (HS2.out _).mono ?_
  rintro e u ⟨rfl, hu⟩
  subst u
  go_wp2_with fail
  refine (HD.out _).mono ?_
  rintro e u ⟨rfl, hu⟩
  subst u
  go_wp2_with fail
  refine (HS0.out _).mono ?_
  rintro e u ⟨rfl, hu⟩
  subst u
  go_wp2_with fail
  refine (HS3.out _).mono ?_
  rintro e u ⟨rfl, hu⟩
  subst u
  clear HK HIB HIM HS1 HS2 HS0 HS3 HD
  go_wp2_with fail
  refine (HN0.out _).mono ?_
  rintro e u ⟨rfl, hu⟩
  subst u
  go_wp2_with fail
  refine (HN0.out _).mono ?_
  rintro e u ⟨rfl, hu⟩
  subst u
  go_wp2_with fail
  refine (HN0.out _).mono ?_
  rintro e u ⟨rfl, hu⟩
  subst u
  go_wp2_with fail
  refine (HN0.out _).mono ?_
  rintro e u ⟨rfl, hu⟩
  subst u
  go_wp2_with fail
  refine (HN1.out _).mono ?_
  rintro e u ⟨rfl, hu⟩
  subst u
  go_wp2_with fail
  clear hq h1 h2 h3 h4 h5 HN1
  go_loopw [17, 18] (fun v i x => ∃ j : Nat, v = .int .i64 (sm b m j : Nat) ∧ i = .int .i64 (j : Nat) ∧ j ≤ n ∧ j ≤ 60 ∧ w = x) (fun _ i _ => 60 - (intOf i).toNat)
  case atStart => exact ⟨0, rfl, rfl, by omega, by omega, rfl⟩
  case round =>
  obtain ⟨j, rfl, rfl, hj, hj60, rfl⟩ := hrel
  by_cases hlt : j < n ∧ j < 60
  · have l1 : (j : Int) < (n : Int) := by omega
    have l2 : (j : Int) < 60 := by omega
    have HD : Hid (∀ u, Calls Try.prog 8 #[.int .i64 (b : Nat), .int .i64 (m : Nat), .int .i64 (j : Nat)] u _) := HDK.out j (by omega)
    have e1 := HE.out j (by omega)
    have HJ : Hid ((sm b m j : Int) + dl b m j = (sm b m (j + 1) : Nat)) := by show _ = _; rw [sm]; omega
    go_wp2_with fail
    refine (HD.out _).mono ?_
    rintro e u ⟨rfl, hu⟩
    subst u
    go_wp2_with fail
    refine (HN0.out _).mono ?_
    rintro e u ⟨rfl, hu⟩
    subst u
    clear HD
    go_wp2
    go_roundw
    case rel => exact ⟨j + 1, by rw [HJ.out], by go_num, by omega, by omega, by first | rfl | trivial⟩
    case measure => simp [Go.RowKit.intOf]; omega
  · clear HDK HE
    by_cases h60 : 60 ≤ n
    · have ej : j = 60 := by omega
      have l1 : ¬ (j : Int) < 60 := by omega
      have l2 : (60 : Int) ≤ n := by omega
      have l3 : (sm b m j : Int) ≤ S := Int.ofNat_le.2 (HL.out j hj)
      clear ej hlt
      by_cases l4 : (j : Int) < n
      · go_wp2
        go_ret
        exact ⟨rfl, rfl⟩
      · go_wp2
        go_ret
        exact ⟨rfl, rfl⟩
    · obtain rfl : j = n := by omega
      have l2 : ¬ (60 : Int) ≤ j := by omega
      have l3 : (j : Int) < 60 := by omega
      have l4 : sm b m j = S := HSn.out
      rw [l4]
      clear l4
      go_wp2
      go_ret
      exact ⟨rfl, rfl⟩
end Go.Proofs.Ytnlckacekbjofaa
