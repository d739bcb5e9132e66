/- The program's trimmedTimes. -/
import Derived.Test.YtjmbimgofceanaaG24
namespace Go.Proofs.Ytjmbimgofceanaa
open Go.RowKit
attribute [local go_sem ↓] Go.wp_at_zero Go.wp_at_succ

set_option maxRecDepth 4000 in
set_option maxHeartbeats 8000000 in
theorem ttimes_any {w0 : World} {s : Oct.S} {t : Tn} {v : Nd} {mn mx : Int} {a : Option Addr} {c : Nat} (hr : RowAt (fun _ => True) w0 a [v]) (hs : TrimV w0 t v) (w : World) (hlow : Below w0.heap.size w0 w) : Calls Try.prog 53 #[Nd.val ⟨5, s, a, 1, c, mn, mx⟩] w (TrimPost w (timesT (trim t) mn mx)) := by
  obtain ⟨T0, hT0⟩ : ∃ T0, timesT (trim t) mn mx = T0 := ⟨_, rfl⟩
  have HT0 : Hid (timesT (trim t) mn mx = T0) := hT0
  have HIH : Hid (TrimV w0 t v) := hs
  have HRO : Hid (RowAt (fun _ => True) w0 a [v]) := hr
  rw [hT0]
  clear hT0 hs hr
  have kk : Below w.heap.size w ((w.alloc (.cells #[.int .i64 5, .int .u64 (Oct.word s 0 : Nat), .int .u64 (Oct.word s 1 : Nat), .int .u64 (Oct.word s 2 : Nat), .int .u64 (Oct.word s 3 : Nat), .slice a 1 c, .int .i64 mn, .int .i64 mx] 30)).alloc (.cells #[.int .i64 0, .int .u64 0, .int .u64 0, .int .u64 0, .int .u64 0, .slice none 0 0, .int .i64 0, .int .i64 0] 30)) := ((Below.refl _ _).alloc (Nat.le_refl _) _).alloc (by simp) _
  have HNA : Hid (NB ((w.alloc (.cells #[.int .i64 5, .int .u64 (Oct.word s 0 : Nat), .int .u64 (Oct.word s 1 : Nat), .int .u64 (Oct.word s 2 : Nat), .int .u64 (Oct.word s 3 : Nat), .slice a 1 c, .int .i64 mn, .int .i64 mx] 30)).alloc (.cells #[.int .i64 0, .int .u64 0, .int .u64 0, .int .u64 0, .int .u64 0, .slice none 0 0, .int .i64 0, .int .i64 0] 30)) w.heap.size ⟨5, s, a, 1, c, mn, mx⟩) := (nb_new w ⟨5, s, a, 1, c, mn, mx⟩).later ((Below.refl _ _).alloc (Nat.le_refl _) _)
  have HNR : Hid (NB ((w.alloc (.cells #[.int .i64 5, .int .u64 (Oct.word s 0 : Nat), .int .u64 (Oct.word s 1 : Nat), .int .u64 (Oct.word s 2 : Nat), .int .u64 (Oct.word s 3 : Nat), .slice a 1 c, .int .i64 mn, .int .i64 mx] 30)).alloc (.cells #[.int .i64 0, .int .u64 0, .int .u64 0, .int .u64 0, .int .u64 0, .slice none 0 0, .int .i64 0, .int .i64 0] 30)) (w.heap.size + 1) zeroNd) := by
    have h1 := nb_zero (w.alloc (.cells #[.int .i64 5, .int .u64 (Oct.word s 0 : Nat), .int .u64 (Oct.word s 1 : Nat), .int .u64 (Oct.word s 2 : Nat), .int .u64 (Oct.word s 3 : Nat), .slice a 1 c, .int .i64 mn, .int .i64 mx] 30))
    rw [show (w.alloc (.cells #[.int .i64 5, .int .u64 (Oct.word s 0 : Nat), .int .u64 (Oct.word s 1 : Nat), .int .u64 (Oct.word s 2 : Nat), .int .u64 (Oct.word s 3 : Nat), .slice a 1 c, .int .i64 mn, .int .i64 mx] 30)).heap.size = w.heap.size + 1 by simp] at h1
    exact h1
  have HB : Hid (Below w.heap.size w ((w.alloc (.cells #[.int .i64 5, .int .u64 (Oct.word s 0 : Nat), .int .u64 (Oct.word s 1 : Nat), .int .u64 (Oct.word s 2 : Nat), .int .u64 (Oct.word s 3 : Nat), .slice a 1 c, .int .i64 mn, .int .i64 mx] 30)).alloc (.cells #[.int .i64 0, .int .u64 0, .int .u64 0, .int .u64 0, .int .u64 0, .slice none 0 0, .int .i64 0, .int .i64 0] 30))) := kk
  have HSZ : Hid (w.heap.size + 2 ≤ ((w.alloc (.cells #[.int .i64 5, .int .u64 (Oct.word s 0 : Nat), .int .u64 (Oct.word s 1 : Nat), .int .u64 (Oct.word s 2 : Nat), .int .u64 (Oct.word s 3 : Nat), .slice a 1 c, .int .i64 mn, .int .i64 mx] 30)).alloc (.cells #[.int .i64 0, .int .u64 0, .int .u64 0, .int .u64 0, .int .u64 0, .slice none 0 0, .int .i64 0, .int .i64 0] 30)).heap.size) := by show _ ≤ _; simp
  obtain ⟨w1, hw1⟩ : ∃ w1, (w.alloc (.cells #[.int .i64 5, .int .u64 (Oct.word s 0 : Nat), .int .u64 (Oct.word s 1 : Nat), .int .u64 (Oct.word s 2 : Nat), .int .u64 (Oct.word s 3 : Nat), .slice a 1 c, .int .i64 mn, .int .i64 mx] 30)).alloc (.cells #[.int .i64 0, .int .u64 0, .int .u64 0, .int .u64 0, .int .u64 0, .slice none 0 0, .int .i64 0, .int .i64 0] 30) = w1 := ⟨_, rfl⟩
  rw [hw1] at HNA HNR HB HSZ
  obtain ⟨A, hA⟩ : ∃ A, w.heap.size = A := ⟨_, rfl⟩
  obtain ⟨R, hR⟩ : ∃ R, w.heap.size + 1 = R := ⟨_, rfl⟩
  rw [hA] at HNA
  rw [hR] at HNR
  have HW1 : Hid ((w.alloc (.cells #[.int .i64 5, .int .u64 (Oct.word s 0 : Nat), .int .u64 (Oct.word s 1 : Nat), .int .u64 (Oct.word s 2 : Nat), .int .u64 (Oct.word s 3 : Nat), .slice a 1 c, .int .i64 mn, .int .i64 mx] 30)).alloc (.cells #[.int .i64 0, .int .u64 0, .int .u64 0, .int .u64 0, .int .u64 0, .slice none 0 0, .int .i64 0, .int .i64 0] 30) = w1) := hw1
  have HAA : Hid (w.heap.size = A) := hA
  have HRR : Hid (w.heap.size + 1 = R) := hR
  have HRW : Hid (w.heap.size ≤ R) := by show _ ≤ _; omega
  have HLW : Hid (Below w0.heap.size w0 w) := hlow
  have HL1 : Hid (Below w0.heap.size w0 w1) := below_two hlow (below_low HB.out hlow.size)
  clear hw1 hA hR hlow kk
  obtain ⟨y0, y1, y2, y3, y4, y5, y6, y7⟩ := HNA.out.cells
  simp only at y0 y1 y2 y3 y4 y5 y6 y7
  obtain ⟨q0, q1, q2, q3, q4, q5, q6, q7⟩ := HNR.out.cells
  have f0 := HNR.out.frozen 0
  have f1 := HNR.out.frozen 1
  have f2 := HNR.out.frozen 2
  have f3 := HNR.out.frozen 3
  have f4 := HNR.out.frozen 4
  have f5 := HNR.out.frozen 5
  have f6 := HNR.out.frozen 6
  have f7 := HNR.out.frozen 7
  unfold Nd.val
  simp only
  go_enter Try.func53, Try.ntmps53
  go_upto_region 1 with fail
  rw [HW1.out, HRR.out, HAA.out]
  clear HW1
  by_cases hm0 : mx = 0
  · subst hm0
    have HG : Hid (NB (put8 w1 R ⟨1, Oct.none, none, 0, 0, 0, 0⟩) R ⟨1, Oct.none, none, 0, 0, 0, 0⟩) := HNR.out.put8 _
    have HP : Hid (TrimPost w T0 (.returned (Nd.val ⟨1, Oct.none, none, 0, 0, 0, 0⟩)) (put8 w1 R ⟨1, Oct.none, none, 0, 0, 0, 0⟩)) := by rw [← HT0.out]; unfold timesT; rw [if_pos rfl]; exact trim_end HB.out HRW.out (NwAt.leaf _ _ 1 Oct.none 0 0 none 0)
    unfold put8 at HG HP
    simp only [word0] at HG HP
    go_wp2
    exact post_node Try.f53 2 rfl rfl rfl HG.out HP.out
  have hm1 : (mx == 0) = false := by simp [hm0]
  have hrow := (HRO.out.keep (w' := w1) (Y := fun _ => True) (fun _ _ _ => trivial) (fun b hb hlt => HL1.out.block b hlt)).nth (i := 0) rfl
  obtain ⟨g, off, hgo, e0, e1, e2, e3, e4, e5, e6, e7⟩ := hrow
  cases hgo
  simp only [Nat.zero_mul, Nat.add_zero] at e0 e1 e2 e3 e4 e5 e6 e7
  have HC : Hid (Calls Try.prog 30 #[v.val] w1 (TrimPost w1 (trim t))) := HIH.out w1 HL1.out
  obtain ⟨T1, hT1⟩ : ∃ T1, trim t = T1 := ⟨_, rfl⟩
  rw [hT1] at HC HT0
  clear hT1
  unfold Nd.val at HC
  go_wp2_with fail
  refine HC.out.mono ?_
  rintro e w3 ⟨k3, y, rfl, hy3⟩
  clear HC e0 e1 e2 e3 e4 e5 e6 e7 y0 y1 y2 y3 y4 y5 y6 y7 q0 q1 q2 q3 q4 q5 q6 q7 f0 f1 f2 f3 f4 f5 f6 f7
  have k4 : Below w3.heap.size w3 (w3.alloc (.cells #[.int .i64 y.k, .int .u64 (Oct.word y.s 0 : Nat), .int .u64 (Oct.word y.s 1 : Nat), .int .u64 (Oct.word y.s 2 : Nat), .int .u64 (Oct.word y.s 3 : Nat), .slice y.a y.n y.c, .int .i64 y.mn, .int .i64 y.mx] 30)) := (Below.refl _ _).alloc (Nat.le_refl _) _
  have k24 := below_step k3 k4
  have HNA4 : Hid (NB (w3.alloc (.cells #[.int .i64 y.k, .int .u64 (Oct.word y.s 0 : Nat), .int .u64 (Oct.word y.s 1 : Nat), .int .u64 (Oct.word y.s 2 : Nat), .int .u64 (Oct.word y.s 3 : Nat), .slice y.a y.n y.c, .int .i64 y.mn, .int .i64 y.mx] 30)) A ⟨5, s, some ⟨g, off, none⟩, 1, c, mn, mx⟩) := HNA.out.later k24
  have HNR4 : Hid (NB (w3.alloc (.cells #[.int .i64 y.k, .int .u64 (Oct.word y.s 0 : Nat), .int .u64 (Oct.word y.s 1 : Nat), .int .u64 (Oct.word y.s 2 : Nat), .int .u64 (Oct.word y.s 3 : Nat), .slice y.a y.n y.c, .int .i64 y.mn, .int .i64 y.mx] 30)) R zeroNd) := HNR.out.later k24
  have HB4 : Hid (Below w.heap.size w (w3.alloc (.cells #[.int .i64 y.k, .int .u64 (Oct.word y.s 0 : Nat), .int .u64 (Oct.word y.s 1 : Nat), .int .u64 (Oct.word y.s 2 : Nat), .int .u64 (Oct.word y.s 3 : Nat), .slice y.a y.n y.c, .int .i64 y.mn, .int .i64 y.mx] 30))) := below_step HB.out k24
  have HSZ4 : Hid (w.heap.size + 2 ≤ (w3.alloc (.cells #[.int .i64 y.k, .int .u64 (Oct.word y.s 0 : Nat), .int .u64 (Oct.word y.s 1 : Nat), .int .u64 (Oct.word y.s 2 : Nat), .int .u64 (Oct.word y.s 3 : Nat), .slice y.a y.n y.c, .int .i64 y.mn, .int .i64 y.mx] 30)).heap.size) := Nat.le_trans HSZ.out k24.size
  have HNY : Hid (NB (w3.alloc (.cells #[.int .i64 y.k, .int .u64 (Oct.word y.s 0 : Nat), .int .u64 (Oct.word y.s 1 : Nat), .int .u64 (Oct.word y.s 2 : Nat), .int .u64 (Oct.word y.s 3 : Nat), .slice y.a y.n y.c, .int .i64 y.mn, .int .i64 y.mx] 30)) w3.heap.size y) := nb_new w3 y
  have HKY : Hid (y.k = kindT T1) := hy3.kind
  have HY4 : Hid (NwAt (fun b => w.heap.size + 2 ≤ b) (w3.alloc (.cells #[.int .i64 y.k, .int .u64 (Oct.word y.s 0 : Nat), .int .u64 (Oct.word y.s 1 : Nat), .int .u64 (Oct.word y.s 2 : Nat), .int .u64 (Oct.word y.s 3 : Nat), .slice y.a y.n y.c, .int .i64 y.mn, .int .i64 y.mx] 30)) T1 y) := (hy3.later k4).keep (fun b hb _ => Nat.le_trans HSZ.out hb) (fun _ _ _ => rfl)
  clear hy3 k3 k24 HNA HNR HB HSZ
  unfold Nd.val
  go_upto_region 4 with fail
  obtain ⟨w4, hw4⟩ : ∃ w4, w3.alloc (.cells #[.int .i64 y.k, .int .u64 (Oct.word y.s 0 : Nat), .int .u64 (Oct.word y.s 1 : Nat), .int .u64 (Oct.word y.s 2 : Nat), .int .u64 (Oct.word y.s 3 : Nat), .slice y.a y.n y.c, .int .i64 y.mn, .int .i64 y.mx] 30) = w4 := ⟨_, rfl⟩
  obtain ⟨A4, hA4⟩ : ∃ A4, w3.heap.size = A4 := ⟨_, rfl⟩
  rw [hw4] at HNA4 HNR4 HB4 HSZ4 HNY HY4 ⊢
  rw [hA4] at HNY ⊢
  clear hw4 hA4 k4
  obtain ⟨z0, z1, z2, z3, z4, z5, z6, z7⟩ := HNY.out.cells
  obtain ⟨y0, y1, y2, y3, y4, y5, y6, y7⟩ := HNA4.out.cells
  simp only at y0 y1 y2 y3 y4 y5 y6 y7
  obtain ⟨q0, q1, q2, q3, q4, q5, q6, q7⟩ := HNR4.out.cells
  have f0 := HNR4.out.frozen 0
  have f1 := HNR4.out.frozen 1
  have f2 := HNR4.out.frozen 2
  have f3 := HNR4.out.frozen 3
  have f4 := HNR4.out.frozen 4
  have f5 := HNR4.out.frozen 5
  have f6 := HNR4.out.frozen 6
  have f7 := HNR4.out.frozen 7
  have HYR : Hid (NwAt (fun b => w.heap.size ≤ b ∧ b ≠ R) w4 T1 y) := HY4.out.keep (fun b hb _ => ⟨by omega, by have := HRR.out; omega⟩) (fun _ _ _ => rfl)
  have HG : Hid (NB (put8 w4 R y) R y) := HNR4.out.put8 _
  have HP : Hid ((kindT T1 = 1 ∨ (mn = 1 ∧ mx = 1)) → TrimPost w T0 (.returned (Nd.val y)) (put8 w4 R y)) := fun hk => by rw [← HT0.out]; unfold timesT; rw [if_neg hm0, if_pos hk]; exact trim_end HB4.out HRW.out HYR.out
  unfold put8 at HG HP
  by_cases hk1 : y.k = 1
  · have hk3 : (y.k == 1) = true := by simp [hk1]
    have HP2 : Hid _ := HP.out (Or.inl (by rw [← HKY.out]; exact hk1))
    clear HP hk1
    go_wp2
    exact post_node Try.f53 2 rfl rfl rfl HG.out HP2.out
  have hk3 : (y.k == 1) = false := by simp [hk1]
  have HK1 : Hid (¬ y.k = 1) := hk1
  clear hk1
  by_cases h11 : mn = 1 ∧ mx = 1
  · have HP2 : Hid _ := HP.out (Or.inr h11)
    obtain ⟨rfl, rfl⟩ := h11
    clear HP
    go_wp2
    exact post_node Try.f53 2 rfl rfl rfl HG.out HP2.out
  clear HP HG
  have k5 : Below w4.heap.size w4 (w4.alloc (.cells #[.int .i64 y.k, .int .u64 (Oct.word y.s 0 : Nat), .int .u64 (Oct.word y.s 1 : Nat), .int .u64 (Oct.word y.s 2 : Nat), .int .u64 (Oct.word y.s 3 : Nat), .slice y.a y.n y.c, .int .i64 y.mn, .int .i64 y.mx] 30)) := (Below.refl _ _).alloc (Nat.le_refl _) _
  have HNR5 : Hid (NB (w4.alloc (.cells #[.int .i64 y.k, .int .u64 (Oct.word y.s 0 : Nat), .int .u64 (Oct.word y.s 1 : Nat), .int .u64 (Oct.word y.s 2 : Nat), .int .u64 (Oct.word y.s 3 : Nat), .slice y.a y.n y.c, .int .i64 y.mn, .int .i64 y.mx] 30)) R zeroNd) := HNR4.out.later k5
  have HB5 : Hid (Below w.heap.size w (w4.alloc (.cells #[.int .i64 y.k, .int .u64 (Oct.word y.s 0 : Nat), .int .u64 (Oct.word y.s 1 : Nat), .int .u64 (Oct.word y.s 2 : Nat), .int .u64 (Oct.word y.s 3 : Nat), .slice y.a y.n y.c, .int .i64 y.mn, .int .i64 y.mx] 30))) := below_step HB4.out k5
  have HRN5 : Hid (RowN (w4.alloc (.cells #[.int .i64 y.k, .int .u64 (Oct.word y.s 0 : Nat), .int .u64 (Oct.word y.s 1 : Nat), .int .u64 (Oct.word y.s 2 : Nat), .int .u64 (Oct.word y.s 3 : Nat), .slice y.a y.n y.c, .int .i64 y.mn, .int .i64 y.mx] 30)) (w.heap.size + 2) (.slice (some ⟨w4.heap.size, 0, none⟩) 1 1) [T1]) := rowN_one HY4.out HSZ4.out
  have HX := RowN.node HRN5.out rfl (by decide) 5 mn mx
  have HG : Hid (NB (put8 (w4.alloc (.cells #[.int .i64 y.k, .int .u64 (Oct.word y.s 0 : Nat), .int .u64 (Oct.word y.s 1 : Nat), .int .u64 (Oct.word y.s 2 : Nat), .int .u64 (Oct.word y.s 3 : Nat), .slice y.a y.n y.c, .int .i64 y.mn, .int .i64 y.mx] 30)) R ⟨5, Oct.none, some ⟨w4.heap.size, 0, none⟩, 1, 1, mn, mx⟩) R ⟨5, Oct.none, some ⟨w4.heap.size, 0, none⟩, 1, 1, mn, mx⟩) := HNR5.out.put8 _
  have HP : Hid (TrimPost w T0 (.returned (Nd.val ⟨5, Oct.none, some ⟨w4.heap.size, 0, none⟩, 1, 1, mn, mx⟩)) (put8 (w4.alloc (.cells #[.int .i64 y.k, .int .u64 (Oct.word y.s 0 : Nat), .int .u64 (Oct.word y.s 1 : Nat), .int .u64 (Oct.word y.s 2 : Nat), .int .u64 (Oct.word y.s 3 : Nat), .slice y.a y.n y.c, .int .i64 y.mn, .int .i64 y.mx] 30)) R ⟨5, Oct.none, some ⟨w4.heap.size, 0, none⟩, 1, 1, mn, mx⟩)) := by
    rw [← HT0.out]
    unfold timesT
    rw [if_neg hm0, if_neg (by rintro (h | h); exact HK1.out (by rw [HKY.out]; exact h); exact h11 h)]
    exact trim_end HB5.out HRW.out (HX.keep (fun b hb _ => ⟨by omega, by have := HRR.out; omega⟩) (fun _ _ _ => rfl))
  unfold put8 at HG HP
  simp only [word0] at HG HP
  clear HX HRN5 k5
  have hor : (mn == 1) = false ∨ ((mn == 1) = true ∧ (mx == 1) = false) := by
    by_cases h1 : mn = 1
    · by_cases h2 : mx = 1
      · exact absurd ⟨h1, h2⟩ h11
      · exact Or.inr ⟨by simp [h1], by simp [h2]⟩
    · exact Or.inl (by simp [h1])
  have HNA5 : Hid (NB (w4.alloc (.cells #[.int .i64 y.k, .int .u64 (Oct.word y.s 0 : Nat), .int .u64 (Oct.word y.s 1 : Nat), .int .u64 (Oct.word y.s 2 : Nat), .int .u64 (Oct.word y.s 3 : Nat), .slice y.a y.n y.c, .int .i64 y.mn, .int .i64 y.mx] 30)) A ⟨5, s, some ⟨g, off, none⟩, 1, c, mn, mx⟩) := HNA4.out.later ((Below.refl _ _).alloc (Nat.le_refl _) _)
  have HNY5 : Hid (NB (w4.alloc (.cells #[.int .i64 y.k, .int .u64 (Oct.word y.s 0 : Nat), .int .u64 (Oct.word y.s 1 : Nat), .int .u64 (Oct.word y.s 2 : Nat), .int .u64 (Oct.word y.s 3 : Nat), .slice y.a y.n y.c, .int .i64 y.mn, .int .i64 y.mx] 30)) A4 y) := HNY.out.later ((Below.refl _ _).alloc (Nat.le_refl _) _)
  obtain ⟨yy0, yy1, yy2, yy3, yy4, yy5, yy6, yy7⟩ := HNA5.out.cells
  simp only at yy0 yy1 yy2 yy3 yy4 yy5 yy6 yy7
  obtain ⟨qq0, qq1, qq2, qq3, qq4, qq5, qq6, qq7⟩ := HNR5.out.cells
  have ff0 := HNR5.out.frozen 0
  have ff1 := HNR5.out.frozen 1
  have ff2 := HNR5.out.frozen 2
  have ff3 := HNR5.out.frozen 3
  have ff4 := HNR5.out.frozen 4
  have ff5 := HNR5.out.frozen 5
  have ff6 := HNR5.out.frozen 6
  have ff7 := HNR5.out.frozen 7
  clear h11 HNA5 HNY5 HNA4 HNR4 HNY HY4 HYR
  rcases hor with g1 | ⟨g1, g2⟩
  all_goals
    go_wp2
    exact post_node Try.f53 2 rfl rfl rfl HG.out HP.out
end Go.Proofs.Ytjmbimgofceanaa

