/- What the laws call besides: num, in, known; both answers of any numbers. -/
import Derived.Test.YtnlckacekbjofaaG03
namespace Go.Proofs.Ytnlckacekbjofaa
open Go.RowKit Bo
attribute [local go_sem ↓] Go.wp_at_zero Go.wp_at_succ

theorem num_fn (k : Int) (w : World) : Calls Try.prog 10 #[.int .i64 k] w fun e w' => e = .returned (.int .i64 k) ∧ w' = w := by
  go_enter Try.func10, Try.ntmps10
  go_wp2
  go_ret
  exact ⟨rfl, rfl⟩
theorem wrap_pos (z : Int) : 0 ≤ IntKind.u64.wrap z := by
  simp only [IntKind.wrap, IntKind.signed, IntKind.bits]
  simp
  omega
/-- a number from 0 to 2^40 out of any -/
def inN (z : Int) : Nat := ((IntKind.u64.wrap z).tmod 1099511627777).toNat
theorem inN_le (z : Int) : inN z ≤ 1099511627776 := by
  unfold inN
  have h0 := wrap_pos z
  rw [Int.tmod_eq_emod_of_nonneg h0]; omega
theorem inN_eq (z : Int) : (IntKind.u64.wrap z).tmod 1099511627777 = (inN z : Nat) := by
  unfold inN
  have h0 := wrap_pos z
  rw [Int.tmod_eq_emod_of_nonneg h0]; omega
theorem in_fn (z : Int) (w : World) : Calls Try.prog 9 #[.int .i64 z] w fun e w' => e = .returned (.int .i64 (inN z : Nat)) ∧ w' = w := by
  have hle := inN_le z
  have hq := inN_eq z
  go_enter Try.func9, Try.ntmps9
  go_wp2
  go_ret
  exact ⟨rfl, rfl⟩
theorem known_fn (w : World) : Calls Try.prog 7 #[] w fun e w' => e = .returned (.bool true) ∧ w' = w := by
  have H1 : Hid (Calls Try.prog 8 #[.int .i64 3, .int .i64 100, .int .i64 5] w fun e w' => e = .returned (.tuple #[.int .i64 96, .int .i64 0]) ∧ w' = w) := delay_fn (b := 3) (m := 100) (k := 5) (by omega) (by omega) (by omega) w
  have H2 : Hid (Calls Try.prog 12 #[.int .i64 10, .int .i64 3, .int .i64 100, .int .i64 1, .int .i64 40, .int .i64 9] w fun e w' => e = .returned (.tuple #[.int .i64 25, .int .i64 0]) ∧ w' = w) := due_fn (b := 3) (m := 100) (k := 1) (now := 10) (l := 9) (z := 40) (by omega) (by omega) (by omega) (by omega) (by omega) w
  have H3 : Hid (Calls Try.prog 11 #[.int .i64 3, .int .i64 100, .int .i64 7] w fun e w' => e = .returned (.tuple #[.int .i64 289, .int .i64 0]) ∧ w' = w) := sum_fn (b := 3) (m := 100) (n := 7) (by omega) (by omega) (by omega) w
  have HM : Hid (∀ u, Calls Try.prog 10 #[.int .i64 0] u _) := num_fn 0
  go_enter Try.func7, Try.ntmps7
  go_wp2_with fail
  refine H1.out.mono ?_
  rintro e u ⟨rfl, hu⟩
  subst u
  go_wp2_with fail
  refine H2.out.mono ?_
  rintro e u ⟨rfl, hu⟩
  subst u
  go_wp2_with fail
  refine H3.out.mono ?_
  rintro e u ⟨rfl, hu⟩
  subst u
  clear H1 H2 H3
  go_wp2_with fail
  refine (HM.out _).mono ?_
  rintro e u ⟨rfl, hu⟩
  subst u
  go_wp2_with fail
  refine (HM.out _).mono ?_
  rintro e u ⟨rfl, hu⟩
  subst u
  go_wp2_with fail
  refine (HM.out _).mono ?_
  rintro e u ⟨rfl, hu⟩
  subst u
  go_wp2
  go_ret
  exact ⟨rfl, rfl⟩
/-- BOTH ANSWER ALIKE, whatever the numbers are -/
def Fit64 (z : Int) : Prop := -9223372036854775808 ≤ z ∧ z ≤ 9223372036854775807
theorem nat_of {z : Int} (h : 0 ≤ z) : ∃ n : Nat, z = (n : Int) := ⟨z.toNat, by omega⟩
theorem delay_both (b m k : Int) (hk : Fit64 k) : ∃ x e : Int, (∀ w, Calls Try.prog 8 #[.int .i64 b, .int .i64 m, .int .i64 k] w fun r w' => r = .returned (.tuple #[.int .i64 x, .int .i64 e]) ∧ w' = w) ∧ ∀ w, Calls Try.prog 13 #[.int .i64 b, .int .i64 m, .int .i64 k] w fun r w' => r = .returned (.tuple #[.int .i64 x, .int .i64 e]) ∧ w' = w := by
  by_cases h : Tm b ∧ Tm m ∧ 0 ≤ k
  · obtain ⟨h1, h2, h3⟩ := h
    obtain ⟨b, rfl⟩ := nat_of h1.1
    obtain ⟨m, rfl⟩ := nat_of h2.1
    obtain ⟨k, rfl⟩ := nat_of h3
    have h1 := h1.2
    have h2 := h2.2
    have hk := hk.2
    exact ⟨_, _, delay_fn (by omega) (by omega) (by omega), rdelay_fn (by omega) (by omega) (by omega)⟩
  · exact ⟨_, _, delay_no h, rdelay_no h⟩
theorem sum_both (b m n : Int) : ∃ x e : Int, (∀ w, Calls Try.prog 11 #[.int .i64 b, .int .i64 m, .int .i64 n] w fun r w' => r = .returned (.tuple #[.int .i64 x, .int .i64 e]) ∧ w' = w) ∧ ∀ w, Calls Try.prog 15 #[.int .i64 b, .int .i64 m, .int .i64 n] w fun r w' => r = .returned (.tuple #[.int .i64 x, .int .i64 e]) ∧ w' = w := by
  by_cases h : Tm b ∧ Tm m ∧ 0 ≤ n ∧ n ≤ 1048576
  · obtain ⟨h1, h2, h3, h4⟩ := h
    obtain ⟨b, rfl⟩ := nat_of h1.1
    obtain ⟨m, rfl⟩ := nat_of h2.1
    obtain ⟨n, rfl⟩ := nat_of h3
    have h1 := h1.2
    have h2 := h2.2
    exact ⟨_, _, sum_fn (by omega) (by omega) (by omega), rsum_fn (by omega) (by omega) (by omega)⟩
  · exact ⟨_, _, sum_no h, rsum_no h⟩
theorem due_both (now b m k z l : Int) (hk : Fit64 k) : ∃ x e : Int, (∀ w, Calls Try.prog 12 #[.int .i64 now, .int .i64 b, .int .i64 m, .int .i64 k, .int .i64 z, .int .i64 l] w fun r w' => r = .returned (.tuple #[.int .i64 x, .int .i64 e]) ∧ w' = w) ∧ ∀ w, Calls Try.prog 14 #[.int .i64 now, .int .i64 b, .int .i64 m, .int .i64 k, .int .i64 z, .int .i64 l] w fun r w' => r = .returned (.tuple #[.int .i64 x, .int .i64 e]) ∧ w' = w := by
  by_cases h : Tm b ∧ Tm m ∧ 0 ≤ k
  · obtain ⟨h1, h2, h3⟩ := h
    obtain ⟨b, rfl⟩ := nat_of h1.1
    obtain ⟨m, rfl⟩ := nat_of h2.1
    obtain ⟨k, rfl⟩ := nat_of h3
    have h1 := h1.2
    have h2 := h2.2
    have hk := hk.2
    by_cases h : 0 ≤ now ∧ now ≤ 2305843009213693952 ∧ Tm l
    · obtain ⟨g1, g2, g3⟩ := h
      obtain ⟨now, rfl⟩ := nat_of g1
      obtain ⟨l, rfl⟩ := nat_of g3.1
      have g3 := g3.2
      exact ⟨_, _, due_fn (by omega) (by omega) (by omega) (by omega) (by omega), rdue_fn (by omega) (by omega) (by omega) (by omega) (by omega)⟩
    · exact ⟨_, _, due_no2 (by omega) (by omega) (by omega) h, rdue_no2 (by omega) (by omega) (by omega) h⟩
  · exact ⟨_, _, due_no1 h, rdue_no1 h⟩
end Go.Proofs.Ytnlckacekbjofaa
