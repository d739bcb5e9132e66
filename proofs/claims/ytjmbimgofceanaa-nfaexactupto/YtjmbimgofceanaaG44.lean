/- The program's way of a repeat. -/
import Derived.Test.YtjmbimgofceanaaG43
namespace Go.Proofs.Ytjmbimgofceanaa
open Go.RowKit
attribute [local go_sem ↓] Go.wp_at_zero Go.wp_at_succ

theorem rounds_one (F : Mk → Nat → Mk × Nat) (j : Nat) (x : Mk × Nat) : rounds F (j + 1) x = rounds F j (F x.1 x.2) := rfl
set_option maxRecDepth 4000 in
set_option maxHeartbeats 16000000 in
theorem way_times {w0 : World} {B : Nat} {s : Oct.S} {t : Tn} {v : Nd} {mn mx : Int} {a : Option Addr} {c : Nat} (hr : RowAt (fun b => b ≠ B) w0 a [v]) (HL : LayV w0 B t v) (hp : placesOf t ≠ 1) (hmn : 0 ≤ mn ∧ mn ≤ 255) (hmx : mx = -1 ∨ mn ≤ mx ∧ mx ≤ 255) : WayV 49 w0 B (.mk 5 s [t] mn mx) ⟨5, s, a, 1, c, mn, mx⟩ := by
  intro w b0 Y m a0 hlow h0 hb hbb hS hE
  obtain ⟨R, hR⟩ : ∃ R, lay (.mk 5 s [t] mn mx) m a0 = R := ⟨_, rfl⟩
  rw [hR] at hS hE ⊢
  obtain ⟨M, rfl⟩ : ∃ M : Nat, mn = (M : Nat) := ⟨mn.toNat, by omega⟩
  have hM : M ≤ 255 := by omega
  have HRC : Hid (R = if mx = -1 then again (lay t) (rounds (lay t) M (m, a0)) else if mx = (M : Nat) then rounds (lay t) M (m, a0) else joint (tails (lay t) (mx - (M : Nat)).toNat (rounds (lay t) M (m, a0)) [(rounds (lay t) M (m, a0)).2])) := by
    show _ = _
    rw [← hR, lay_mk]
    simp only [show ¬ ((5 : Int) = 2 ∨ (5 : Int) = 6 ∨ (5 : Int) = 7) by decide, show ¬ (5 : Int) = 3 by decide, show ¬ (5 : Int) = 4 by decide, if_false, if_true, hd]
    unfold timesOf
    rw [if_neg hp, Int.toNat_natCast]
  have HRO : Hid (RowAt (fun b => b ≠ B) w0 a [v]) := hr
  have HLL : Hid (LayV w0 B t v) := HL
  have HBS : Hid (R.1.S ≤ 1000000 ∧ R.1.es.length ≤ 1000000) := ⟨hS, hE⟩
  obtain ⟨C, hC⟩ : ∃ C, rounds (lay t) M (m, a0) = C := ⟨_, rfl⟩
  have HCC : Hid (rounds (lay t) (M - 0) (m, a0) = C) := hC
  rw [hC] at HRC
  have HCL : Hid (C.1.le R.1) := by
    show C.1.le R.1
    rw [HRC.out]
    split
    · exact again_le (lay_le t) C
    split
    · exact .refl _
    · exact (tails_le (lay_le t) _ _ _).trans (joint_le _)
  clear hr HL hS hE hR hC hp
  have HSB : Hid (Sb w0 b0 B Y w.heap.size ⟨5, s, a, 1, c, (M : Nat), mx⟩ w (w.alloc (.cells #[.int .i64 5, .int .u64 (Oct.word s 0 : Nat), .int .u64 (Oct.word s 1 : Nat), .int .u64 (Oct.word s 2 : Nat), .int .u64 (Oct.word s 3 : Nat), .slice a 1 c, .int .i64 (M : Nat), .int .i64 mx] 30)) m) := sb_start w0 ⟨5, s, a, 1, c, (M : Nat), mx⟩ hbb hlow hb h0
  obtain ⟨w1, hw1⟩ : ∃ w1, w.alloc (.cells #[.int .i64 5, .int .u64 (Oct.word s 0 : Nat), .int .u64 (Oct.word s 1 : Nat), .int .u64 (Oct.word s 2 : Nat), .int .u64 (Oct.word s 3 : Nat), .slice a 1 c, .int .i64 (M : Nat), .int .i64 mx] 30) = w1 := ⟨_, rfl⟩
  rw [hw1] at HSB
  obtain ⟨A, hA⟩ : ∃ A, w.heap.size = A := ⟨_, rfl⟩
  rw [hA] at HSB
  have HW1 : Hid (w.alloc (.cells #[.int .i64 5, .int .u64 (Oct.word s 0 : Nat), .int .u64 (Oct.word s 1 : Nat), .int .u64 (Oct.word s 2 : Nat), .int .u64 (Oct.word s 3 : Nat), .slice a 1 c, .int .i64 (M : Nat), .int .i64 mx] 30) = w1) := hw1
  have HAA : Hid (w.heap.size = A) := hA
  have HB : Hid (b0 ≤ w.heap.size) := hb
  have H0 : Hid (w0.heap.size ≤ b0) := h0
  clear hw1 hA hb h0 hlow hbb
  obtain ⟨y0, y1, y2, y3, y4, y5, y6, y7⟩ := HSB.out.nb.cells
  simp only at y0 y1 y2 y3 y4 y5 y6 y7
  unfold Nd.val
  simp only
  go_enter Try.func49, Try.ntmps49
  go_upto_region 1 with fail
  rw [HW1.out, HAA.out]
  clear HW1
  have hrow := (HRO.out.keep (w' := w1) (Y := fun _ => True) (fun _ _ _ => trivial) (fun b hb hlt => HSB.out.low.2 b hlt hb)).nth (i := 0) rfl
  obtain ⟨g, off, hgo, e0, e1, e2, e3, e4, e5, e6, e7⟩ := hrow
  cases hgo
  simp only [Nat.zero_mul, Nat.add_zero] at e0 e1 e2 e3 e4 e5 e6 e7
  have kk : Below w1.heap.size w1 (w1.alloc (.cells #[.int .i64 v.k, .int .u64 (Oct.word v.s 0 : Nat), .int .u64 (Oct.word v.s 1 : Nat), .int .u64 (Oct.word v.s 2 : Nat), .int .u64 (Oct.word v.s 3 : Nat), .slice v.a v.n v.c, .int .i64 v.mn, .int .i64 v.mx] 30)) := (Below.refl _ _).alloc (Nat.le_refl _) _
  have HS2 : Hid (Sb w0 b0 B Y A ⟨5, s, some ⟨g, off, none⟩, 1, c, (M : Nat), mx⟩ w (w1.alloc (.cells #[.int .i64 v.k, .int .u64 (Oct.word v.s 0 : Nat), .int .u64 (Oct.word v.s 1 : Nat), .int .u64 (Oct.word v.s 2 : Nat), .int .u64 (Oct.word v.s 3 : Nat), .slice v.a v.n v.c, .int .i64 v.mn, .int .i64 v.mx] 30)) m) := HSB.out.later kk
  have HV2 : Hid (NB (w1.alloc (.cells #[.int .i64 v.k, .int .u64 (Oct.word v.s 0 : Nat), .int .u64 (Oct.word v.s 1 : Nat), .int .u64 (Oct.word v.s 2 : Nat), .int .u64 (Oct.word v.s 3 : Nat), .slice v.a v.n v.c, .int .i64 v.mn, .int .i64 v.mx] 30)) w1.heap.size v) := nb_new w1 v
  go_upto_region 2 with fail
  obtain ⟨w2, hw2⟩ : ∃ w2, w1.alloc (.cells #[.int .i64 v.k, .int .u64 (Oct.word v.s 0 : Nat), .int .u64 (Oct.word v.s 1 : Nat), .int .u64 (Oct.word v.s 2 : Nat), .int .u64 (Oct.word v.s 3 : Nat), .slice v.a v.n v.c, .int .i64 v.mn, .int .i64 v.mx] 30) = w2 := ⟨_, rfl⟩
  obtain ⟨A2, hA2⟩ : ∃ A2, w1.heap.size = A2 := ⟨_, rfl⟩
  rw [hw2] at HS2 HV2 ⊢
  rw [hA2] at HV2 ⊢
  clear hw2 hA2 kk HSB e0 e1 e2 e3 e4 e5 e6 e7 y0 y1 y2 y3 y4 y5 y6 y7
  obtain ⟨y0, y1, y2, y3, y4, y5, y6, y7⟩ := HS2.out.nb.cells
  simp only at y0 y1 y2 y3 y4 y5 y6 y7
  go_wp2_with fail
  clear y0 y1 y2 y3 y4 y5 y6 y7
  go_loopw [2, 14] (fun va i u => ∃ (j : Nat) (m' : Mk) (a' : Nat), va = .int .i64 (a' : Nat) ∧ i = .int .i64 (j : Nat) ∧ j ≤ M ∧ Hid (rounds (lay t) (M - j) (m', a') = C) ∧ Hid (NB u A2 v) ∧ Hid (Sb w0 b0 B Y A ⟨5, s, some ⟨g, off, none⟩, 1, c, (M : Nat), mx⟩ w u m')) (fun _ i _ => M - (intOf i).toNat)
  case atStart => exact ⟨0, m, a0, rfl, rfl, Nat.zero_le _, HCC, HV2, HS2⟩
  case round =>
    clear HS2 HV2 HCC
    obtain ⟨j, m', a', rfl, rfl, hjn, HRj, HVj, HSj⟩ := hrel
    by_cases hlt : j < M
    · have hlt' : (j : Int) < (M : Int) := by omega
      obtain ⟨z0, z1, z2, z3, z4, z5, z6, z7⟩ := HVj.out.cells
      have HRn : Hid (rounds (lay t) (M - (j + 1)) (lay t m' a') = C) := by
        show _ = _
        rw [← HRj.out, show M - j = (M - (j + 1)) + 1 by omega, rounds_one]
      have hle := rounds_le (lay_le t) (M - (j + 1)) (lay t m' a')
      rw [HRn.out] at hle
      have HC : Hid (Calls Try.prog 29 #[.pointer (some ⟨B, 0, none⟩), v.val, .int .i64 (a' : Nat)] wr _) := HLL.out wr b0 Y m' a' HSj.out.low H0.out HSj.out.sz HSj.out.bb (Nat.le_trans hle.1 (Nat.le_trans HCL.out.1 HBS.out.1)) (Nat.le_trans hle.2 (Nat.le_trans HCL.out.2 HBS.out.2))
      obtain ⟨r, hr⟩ : ∃ r, lay t m' a' = r := ⟨_, rfl⟩
      rw [hr] at HC HRn
      clear hr hle HRj
      unfold Nd.val at HC
      go_wp2_with fail
      refine HC.out.mono ?_
      rintro e w4 ⟨rfl, h4, f4⟩
      have HS4 : Hid (Sb w0 b0 B Y A ⟨5, s, some ⟨g, off, none⟩, 1, c, (M : Nat), mx⟩ w w4 r.1) := HSj.out.call h4 f4
      have HV4 : Hid (NB w4 A2 v) := f4.keep HVj.out (HSj.out.bb.ne ⟨_, _, HVj.out⟩ (by decide)) (by decide)
      clear h4 f4 HC HSj HVj z0 z1 z2 z3 z4 z5 z6 z7
      go_wp2
      go_roundw
      case rel => exact ⟨j + 1, r.1, r.2, rfl, by go_num, by omega, HRn, HV4, HS4⟩
      case measure => simp [intOf]; omega
    · have hlt' : ¬ (j : Int) < (M : Int) := by omega
      have HCE : Hid (C = (m', a')) := by
        show _ = _
        rw [← HRj.out, show M - j = 0 by omega, rounds]
      rw [HCE.out] at HRC
      clear HRj HCL HCE
      obtain ⟨z0, z1, z2, z3, z4, z5, z6, z7⟩ := HVj.out.cells
      obtain ⟨y0, y1, y2, y3, y4, y5, y6, y7⟩ := HSj.out.nb.cells
      simp only at y0 y1 y2 y3 y4 y5 y6 y7
      by_cases hm1 : mx = -1
      · subst hm1
        have HRA : Hid (R = again (lay t) (m', a')) := by show _ = _; rw [HRC.out, if_pos rfl]
        have HC : Hid (Calls Try.prog 71 #[.pointer (some ⟨B, 0, none⟩), v.val, .int .i64 (a' : Nat)] wr _) := bloop_any HLL.out wr b0 Y m' a' HSj.out.low H0.out HSj.out.sz HSj.out.bb (by rw [← HRA.out]; exact HBS.out.1) (by rw [← HRA.out]; exact HBS.out.2)
        rw [← HRA.out] at HC
        unfold Nd.val at HC
        clear HRC HRA
        go_wp2_with fail
        refine HC.out.mono ?_
        rintro e w4 ⟨rfl, h4, f4⟩
        have HS4 : Hid (Sb w0 b0 B Y A ⟨5, s, some ⟨g, off, none⟩, 1, c, (M : Nat), -1⟩ w w4 R.1) := HSj.out.call h4 f4
        clear h4 f4 HC HSj HVj z0 z1 z2 z3 z4 z5 z6 z7 y0 y1 y2 y3 y4 y5 y6 y7
        go_wp2
        go_ret
        exact ⟨rfl, HS4.out.bb, HS4.out.fm⟩
      · obtain ⟨X, rfl⟩ : ∃ X : Nat, mx = (X : Nat) := ⟨mx.toNat, by omega⟩
        have hX1 : ¬ ((X : Nat) : Int) = -1 := by omega
        have hX3 : (((X : Nat) : Int) == -1) = false := by rw [beq_eq_false_iff_ne]; omega
        have hX2 : X ≤ 255 := by omega
        have hX4 : M ≤ X := by omega
        by_cases hXM : X = M
        · subst hXM
          have HRE : Hid (R = (m', a')) := by show _ = _; rw [HRC.out, if_neg hX1, if_pos rfl]
          go_wp2
          go_ret
          rw [HRE.out]
          exact ⟨rfl, HSj.out.bb, HSj.out.fm⟩
        have hXM' : ¬ ((X : Nat) : Int) = ((M : Nat) : Int) := by omega
        have hXM2 : ((M : Nat) : Int) < ((X : Nat) : Int) := by omega
        obtain ⟨Z, hZ⟩ : ∃ Z : Nat, ((X : Nat) : Int) - ((M : Nat) : Int) = ((Z : Nat) : Int) := ⟨X - M, by omega⟩
        have HZZ : Hid (((X : Nat) : Int) - ((M : Nat) : Int) = ((Z : Nat) : Int)) := hZ
        have hZ2 : Z ≤ 255 := by omega
        have HRE : Hid (R = joint (tails (lay t) Z (m', a') [a'])) := by
          show _ = _
          rw [HRC.out, if_neg hX1, if_neg hXM', hZ, Int.toNat_natCast]
        clear hZ HRC
        have HC : Hid (Calls Try.prog 72 #[.pointer (some ⟨B, 0, none⟩), v.val, .int .i64 (Z : Nat), .int .i64 (a' : Nat)] wr _) := bupTo_any HLL.out Z hZ2 wr b0 Y m' a' HSj.out.low H0.out HSj.out.sz HSj.out.bb (by rw [← HRE.out]; exact HBS.out.1) (by rw [← HRE.out]; exact HBS.out.2)
        rw [← HRE.out, ← HZZ.out] at HC
        unfold Nd.val at HC
        clear HRE
        go_wp2_with fail
        refine HC.out.mono ?_
        rintro e w4 ⟨rfl, h4, f4⟩
        have HS4 : Hid (Sb w0 b0 B Y A ⟨5, s, some ⟨g, off, none⟩, 1, c, (M : Nat), (X : Nat)⟩ w w4 R.1) := HSj.out.call h4 f4
        clear h4 f4 HC HSj HVj z0 z1 z2 z3 z4 z5 z6 z7 y0 y1 y2 y3 y4 y5 y6 y7
        go_wp2
        go_ret
        exact ⟨rfl, HS4.out.bb, HS4.out.fm⟩
end Go.Proofs.Ytjmbimgofceanaa
