/- BackoffDue answers true. -/
import Derived.Test.YtnlckacekbjofaaG04
namespace Go.Proofs.Ytnlckacekbjofaa
open Go.RowKit Bo
attribute [local go_sem ↓] Go.wp_at_zero Go.wp_at_succ

theorem rem_of (z q : Int) (hq : 0 < q) : ∃ n : Nat, (n : Int) < q ∧ (IntKind.u64.wrap z).tmod q = (n : Nat) := by
  have h0 := wrap_pos z
  refine ⟨((IntKind.u64.wrap z).tmod q).toNat, ?_, ?_⟩
  · rw [Int.tmod_eq_emod_of_nonneg h0]
    have := Int.emod_lt_of_pos (IntKind.u64.wrap z) hq
    have := Int.emod_nonneg (IntKind.u64.wrap z) (by omega : q ≠ 0)
    omega
  · rw [Int.tmod_eq_emod_of_nonneg h0]
    have := Int.emod_nonneg (IntKind.u64.wrap z) (by omega : q ≠ 0)
    omega
set_option maxRecDepth 30000 in
set_option maxHeartbeats 1600000 in
theorem due_any {w : World} {zn z0 z1 z2 y0 y1 : Int} : Calls Try.prog 5 #[.int .i64 zn, .agg #[.int .i64 z0, .int .i64 z1, .int .i64 z2], .agg #[.int .i64 y0, .int .i64 y1]] w fun e w' => e = .returned (.bool true) ∧ Below w.heap.size w w' := by
  have HK : Hid (∀ u, Calls Try.prog 7 #[] u _) := known_fn
  have HIN : Hid (∀ z u, Calls Try.prog 9 #[.int .i64 z] u _) := in_fn
  have HN0 : Hid (∀ u, Calls Try.prog 10 #[.int .i64 0] u _) := num_fn 0
  have HN1 : Hid (∀ u, Calls Try.prog 10 #[.int .i64 1] u _) := num_fn 1
  obtain ⟨now, hn, hq⟩ := rem_of zn 2305843009213693953 (by omega)
  obtain ⟨k, hk, hqk⟩ := rem_of z2 100 (by omega)
  go_enter Try.func5, Try.ntmps5
  go_wp2_with fail
  refine (HK.out _).mono ?_
  rintro e u ⟨rfl, hu⟩
  subst u
  obtain ⟨u, hu⟩ : ∃ u, ((w.alloc (.cells #[.int .i64 z0, .int .i64 z1, .int .i64 z2] 30)).alloc (.cells #[.int .i64 y0, .int .i64 y1] 31)) = u := ⟨_, rfl⟩
  have hb1 : Below w.heap.size w (w.alloc (.cells #[.int .i64 z0, .int .i64 z1, .int .i64 z2] 30)) := (Below.refl _ _).alloc (Nat.le_refl _) _
  have HB : Hid (Below w.heap.size w u) := by rw [← hu]; exact hb1.alloc (by simp) _
  have hsz : (w.alloc (.cells #[.int .i64 z0, .int .i64 z1, .int .i64 z2] 30)).heap.size = w.heap.size + 1 := by simp
  have e1 : u.heap[w.heap.size]? = some (.cells #[.int .i64 z0, .int .i64 z1, .int .i64 z2] 30) := by rw [← hu, (MapKept.heap_alloc _ _).2 _ (by rw [hsz]; omega)]; exact (MapKept.heap_alloc _ _).1
  have e2 : u.heap[w.heap.size + 1]? = some (.cells #[.int .i64 y0, .int .i64 y1] 31) := by rw [← hu, ← hsz]; exact (MapKept.heap_alloc _ _).1
  clear hsz
  obtain ⟨A, hA⟩ : ∃ A, w.heap.size = A := ⟨_, rfl⟩
  obtain ⟨B, hB⟩ : ∃ B, A + 1 = B := ⟨_, rfl⟩
  rw [hA] at e1
  rw [hA, hB] at e2
  have c0 : ∀ q, (u.drewN q).cell? ⟨A, 0, none⟩ = some (.int .i64 z0) := fun q => by show u.cell? _ = _; simp [World.cell?, e1]
  have c1 : ∀ q, (u.drewN q).cell? ⟨A, 1, none⟩ = some (.int .i64 z1) := fun q => by show u.cell? _ = _; simp [World.cell?, e1]
  have c2 : ∀ q, (u.drewN q).cell? ⟨A, 2, none⟩ = some (.int .i64 z2) := fun q => by show u.cell? _ = _; simp [World.cell?, e1]
  have c3 : ∀ q, (u.drewN q).cell? ⟨B, 0, none⟩ = some (.int .i64 y0) := fun q => by show u.cell? _ = _; simp [World.cell?, e2]
  have c4 : ∀ q, (u.drewN q).cell? ⟨B, 1, none⟩ = some (.int .i64 y1) := fun q => by show u.cell? _ = _; simp [World.cell?, e2]
  clear e1 e2 hb1
  go_upto_region 4 with fail
  try rw [hu]
  try simp only [hA, hB]
  go_quiet ((go_at_call 9; exact Calls.quiet_of_same (HIN.out _ _)))
  have cy := c3 nq
  have HB2 : Hid (Below w.heap.size w (u.drewN nq)) := HB.out.trans ⟨rfl, rfl, rfl, Nat.le_refl _, fun _ _ => rfl⟩
  clear c0 c1 c2 c3 c4 HB hqk hq hA hB HIN
  obtain ⟨v, hv⟩ : ∃ v, u.drewN nq = v := ⟨_, rfl⟩
  rw [hv] at cy HB2 ⊢
  clear hv hu
  have hb := inN_le z0
  have hm := inN_le z1
  have hl := inN_le y1
  obtain ⟨b, hbb⟩ : ∃ b, inN z0 = b := ⟨_, rfl⟩
  obtain ⟨m, hmm⟩ : ∃ m, inN z1 = m := ⟨_, rfl⟩
  obtain ⟨l, hll⟩ : ∃ l, inN y1 = l := ⟨_, rfl⟩
  rw [hbb] at hb ⊢
  rw [hmm] at hm ⊢
  rw [hll] at hl ⊢
  clear hbb hmm hll
  have hn' : now ≤ 2305843009213693952 := by omega
  clear hn
  have HD : Hid (∀ u, Calls Try.prog 8 #[.int .i64 (b : Nat), .int .i64 (m : Nat), .int .i64 (k : Nat)] u _) := delay_fn hb hm (by omega)
  have HU : Hid (∀ u, Calls Try.prog 12 #[.int .i64 (now : Nat), .int .i64 (b : Nat), .int .i64 (m : Nat), .int .i64 (k : Nat), .int .i64 y0, .int .i64 (l : Nat)] u _) := due_fn (z := y0) hb hm (by omega) hn' hl
  have HU1 : Hid (∀ u, Calls Try.prog 12 #[.int .i64 2305843009213693953, .int .i64 (b : Nat), .int .i64 (m : Nat), .int .i64 (k : Nat), .int .i64 y0, .int .i64 (l : Nat)] u _) := due_no2 (z := y0) hb hm (by omega) (fun h => by have := h.2.1; omega)
  have HU2 : Hid (∀ u, Calls Try.prog 12 #[.int .i64 (-1), .int .i64 (b : Nat), .int .i64 (m : Nat), .int .i64 (k : Nat), .int .i64 y0, .int .i64 (l : Nat)] u _) := due_no2 (z := y0) hb hm (by omega) (fun h => by have := h.1; omega)
  have HU3 : Hid (∀ u, Calls Try.prog 12 #[.int .i64 (now : Nat), .int .i64 (b : Nat), .int .i64 (m : Nat), .int .i64 (k : Nat), .int .i64 y0, .int .i64 1099511627777] u _) := due_no2 (z := y0) hb hm (by omega) (fun h => by have := h.2.2.2; omega)
  have hd := dl_le b m k
  have hj := jt_le y0 l
  have j1 : y0 < 0 → jt y0 l = 0 := fun h => by unfold jt; rw [if_pos h]
  have j2 : ¬ y0 < 0 → (l : Int) < y0 → jt y0 l = l := fun h h2 => by unfold jt; rw [if_neg h, if_pos h2]
  have j3 : ¬ y0 < 0 → ¬ (l : Int) < y0 → (jt y0 l : Int) = y0 := fun h h2 => by unfold jt; rw [if_neg h, if_neg h2]; omega
  obtain ⟨D, hD⟩ : ∃ D, dl b m k = D := ⟨_, rfl⟩
  rw [hD] at HD HU hd
  clear hD
  obtain ⟨J, hJ⟩ : ∃ J, jt y0 l = J := ⟨_, rfl⟩
  rw [hJ] at HU hj j1 j2 j3
  clear hJ
  by_cases g1 : y0 < 0
  · have g2 := j1 g1
    have HU : Hid (∀ u, Calls Try.prog 12 #[.int .i64 (now : Nat), .int .i64 (b : Nat), .int .i64 (m : Nat), .int .i64 (k : Nat), .int .i64 y0, .int .i64 (l : Nat)] u fun r w' => r = .returned (.tuple #[.int .i64 ((now : Int) + D), .int .i64 0]) ∧ w' = u) := fun u => by
      have x := HU.out u
      rw [show ((now + D + J : Nat) : Int) = (now : Int) + D by omega] at x
      exact x
    have g3 : ¬ (l : Int) < y0 := by omega
    clear j1 j2 j3 g2 hj
    go_wp2_with fail
    refine (HU.out _).mono ?_
    rintro e u ⟨rfl, hu⟩
    subst u
    go_wp2_with fail
    refine (HD.out _).mono ?_
    rintro e u ⟨rfl, hu⟩
    subst u
    go_wp2_with fail
    refine (HN0.out _).mono ?_
    rintro e u ⟨rfl, hu⟩
    subst u
    go_wp2_with fail
    refine (HN0.out _).mono ?_
    rintro e u ⟨rfl, hu⟩
    subst u
    go_wp2_with fail
    refine (HU1.out _).mono ?_
    rintro e u ⟨rfl, hu⟩
    subst u
    go_wp2_with fail
    refine (HU2.out _).mono ?_
    rintro e u ⟨rfl, hu⟩
    subst u
    go_wp2_with fail
    refine (HU3.out _).mono ?_
    rintro e u ⟨rfl, hu⟩
    subst u
    go_wp2_with fail
    refine (HN1.out _).mono ?_
    rintro e u ⟨rfl, hu⟩
    subst u
    go_wp2_with fail
    refine (HN1.out _).mono ?_
    rintro e u ⟨rfl, hu⟩
    subst u
    go_wp2_with fail
    refine (HN1.out _).mono ?_
    rintro e u ⟨rfl, hu⟩
    subst u
    go_wp2
    go_ret
    exact ⟨rfl, HB2.out⟩
  by_cases g3 : (l : Int) < y0
  · have g2 := j2 g1 g3
    have HU : Hid (∀ u, Calls Try.prog 12 #[.int .i64 (now : Nat), .int .i64 (b : Nat), .int .i64 (m : Nat), .int .i64 (k : Nat), .int .i64 y0, .int .i64 (l : Nat)] u fun r w' => r = .returned (.tuple #[.int .i64 ((now : Int) + D + l), .int .i64 0]) ∧ w' = u) := fun u => by
      have x := HU.out u
      rw [show ((now + D + J : Nat) : Int) = (now : Int) + D + l by omega] at x
      exact x
    clear j1 j2 j3 g2 hj
    go_wp2_with fail
    refine (HU.out _).mono ?_
    rintro e u ⟨rfl, hu⟩
    subst u
    go_wp2_with fail
    refine (HD.out _).mono ?_
    rintro e u ⟨rfl, hu⟩
    subst u
    go_wp2_with fail
    refine (HN0.out _).mono ?_
    rintro e u ⟨rfl, hu⟩
    subst u
    go_wp2_with fail
    refine (HN0.out _).mono ?_
    rintro e u ⟨rfl, hu⟩
    subst u
    go_wp2_with fail
    refine (HU1.out _).mono ?_
    rintro e u ⟨rfl, hu⟩
    subst u
    go_wp2_with fail
    refine (HU2.out _).mono ?_
    rintro e u ⟨rfl, hu⟩
    subst u
    go_wp2_with fail
    refine (HU3.out _).mono ?_
    rintro e u ⟨rfl, hu⟩
    subst u
    go_wp2_with fail
    refine (HN1.out _).mono ?_
    rintro e u ⟨rfl, hu⟩
    subst u
    go_wp2_with fail
    refine (HN1.out _).mono ?_
    rintro e u ⟨rfl, hu⟩
    subst u
    go_wp2_with fail
    refine (HN1.out _).mono ?_
    rintro e u ⟨rfl, hu⟩
    subst u
    go_wp2
    go_ret
    exact ⟨rfl, HB2.out⟩
  · have g2 := j3 g1 g3
    have HU : Hid (∀ u, Calls Try.prog 12 #[.int .i64 (now : Nat), .int .i64 (b : Nat), .int .i64 (m : Nat), .int .i64 (k : Nat), .int .i64 y0, .int .i64 (l : Nat)] u fun r w' => r = .returned (.tuple #[.int .i64 ((now : Int) + D + y0), .int .i64 0]) ∧ w' = u) := fun u => by
      have x := HU.out u
      rw [show ((now + D + J : Nat) : Int) = (now : Int) + D + y0 by omega] at x
      exact x
    clear j1 j2 j3 g2 hj
    go_wp2_with fail
    refine (HU.out _).mono ?_
    rintro e u ⟨rfl, hu⟩
    subst u
    go_wp2_with fail
    refine (HD.out _).mono ?_
    rintro e u ⟨rfl, hu⟩
    subst u
    go_wp2_with fail
    refine (HN0.out _).mono ?_
    rintro e u ⟨rfl, hu⟩
    subst u
    go_wp2_with fail
    refine (HN0.out _).mono ?_
    rintro e u ⟨rfl, hu⟩
    subst u
    go_wp2_with fail
    refine (HU1.out _).mono ?_
    rintro e u ⟨rfl, hu⟩
    subst u
    go_wp2_with fail
    refine (HU2.out _).mono ?_
    rintro e u ⟨rfl, hu⟩
    subst u
    go_wp2_with fail
    refine (HU3.out _).mono ?_
    rintro e u ⟨rfl, hu⟩
    subst u
    go_wp2_with fail
    refine (HN1.out _).mono ?_
    rintro e u ⟨rfl, hu⟩
    subst u
    go_wp2_with fail
    refine (HN1.out _).mono ?_
    rintro e u ⟨rfl, hu⟩
    subst u
    go_wp2_with fail
    refine (HN1.out _).mono ?_
    rintro e u ⟨rfl, hu⟩
    subst u
    go_wp2
    go_ret
    exact ⟨rfl, HB2.out⟩
end Go.Proofs.Ytnlckacekbjofaa
