/- The program's loop and upTo. -/
import Derived.Test.YtjmbimgofceanaaG22
import Derived.Test.YtjmbimgofceanaaG16
namespace Go.Proofs.Ytjmbimgofceanaa
open Go.RowKit
attribute [local go_sem ↓] Go.wp_at_zero Go.wp_at_succ

theorem tails_one (F : Mk → Nat → Mk × Nat) (j : Nat) (x : Mk × Nat) (l : List Nat) : tails F (j + 1) x l = tails F j (F x.1 x.2) (l ++ [(F x.1 x.2).2]) := rfl
theorem rowI_first (w : World) (base a : Nat) (hb : base ≤ w.heap.size) : RowI (w.alloc (.cells #[.int .i64 (a : Nat)] 3)) base (.slice (some ⟨w.heap.size, 0, none⟩) 1 1) [a] := by
  refine ⟨rfl, Or.inr ⟨w.heap.size, 1, _, rfl, hb, heap_alloc_new w _, Nat.le_refl _, by decide, rfl, rfl⟩⟩
set_option maxRecDepth 4000 in
set_option maxHeartbeats 8000000 in
theorem bloop_any {w0 : World} {B : Nat} {t : Tn} {v : Nd} (HL : LayV w0 B t v) (w : World) (b0 Y : Nat) (m : Mk) (a : Nat) (hlow : Kp B w0 w) (h0 : w0.heap.size ≤ b0) (hb : b0 ≤ w.heap.size) (hbb : BB w b0 B Y m) (hS : (again (lay t) (m, a)).1.S ≤ 1000000) (hE : (again (lay t) (m, a)).1.es.length ≤ 1000000) : Calls Try.prog 71 #[.pointer (some ⟨B, 0, none⟩), v.val, .int .i64 (a : Nat)] w fun e w' => e = .returned (.int .i64 ((again (lay t) (m, a)).2 : Nat)) ∧ BB w' b0 B Y (again (lay t) (m, a)).1 ∧ Fm b0 B w w' := by
  obtain ⟨r, hr⟩ : ∃ r, lay t (m.st.fr a m.S) m.S = r := ⟨_, rfl⟩
  have HRR : Hid (lay t (m.st.fr a m.S) m.S = r) := hr
  have HA : Hid (again (lay t) (m, a) = (((r.1.fr r.2 m.S).st).fr m.S r.1.S, r.1.S)) := by show _ = _; rw [← hr]; rfl
  have hle := lay_le t (m.st.fr a m.S) m.S
  rw [hr] at hle
  rw [HA.out] at hS hE ⊢
  have hS2 : r.1.S + 1 ≤ 1000000 := hS
  have hE2 : r.1.es.length + 1 + 1 ≤ 1000000 := by simpa [Mk.fr, Mk.ed, Mk.st] using hE
  have hS1 : m.S + 1 ≤ r.1.S := hle.1
  have hE1 : m.es.length + 1 ≤ r.1.es.length := by simpa [Mk.fr, Mk.ed, Mk.st] using hle.2
  have HLL : Hid (LayV w0 B t v) := HL
  clear HL hr hle HA hS hE
  have HSB : Hid (Sb w0 b0 B Y w.heap.size v w (w.alloc (.cells #[.int .i64 v.k, .int .u64 (Oct.word v.s 0 : Nat), .int .u64 (Oct.word v.s 1 : Nat), .int .u64 (Oct.word v.s 2 : Nat), .int .u64 (Oct.word v.s 3 : Nat), .slice v.a v.n v.c, .int .i64 v.mn, .int .i64 v.mx] 30)) m) := sb_start w0 v hbb hlow hb h0
  obtain ⟨w1, hw1⟩ : ∃ w1, w.alloc (.cells #[.int .i64 v.k, .int .u64 (Oct.word v.s 0 : Nat), .int .u64 (Oct.word v.s 1 : Nat), .int .u64 (Oct.word v.s 2 : Nat), .int .u64 (Oct.word v.s 3 : Nat), .slice v.a v.n v.c, .int .i64 v.mn, .int .i64 v.mx] 30) = w1 := ⟨_, rfl⟩
  rw [hw1] at HSB
  obtain ⟨A, hA⟩ : ∃ A, w.heap.size = A := ⟨_, rfl⟩
  rw [hA] at HSB
  have HW1 : Hid (w.alloc (.cells #[.int .i64 v.k, .int .u64 (Oct.word v.s 0 : Nat), .int .u64 (Oct.word v.s 1 : Nat), .int .u64 (Oct.word v.s 2 : Nat), .int .u64 (Oct.word v.s 3 : Nat), .slice v.a v.n v.c, .int .i64 v.mn, .int .i64 v.mx] 30) = w1) := hw1
  have HAA : Hid (w.heap.size = A) := hA
  have HB : Hid (b0 ≤ w.heap.size) := hb
  have H0 : Hid (w0.heap.size ≤ b0) := h0
  clear hw1 hA hb h0 hlow hbb
  obtain ⟨y0, y1, y2, y3, y4, y5, y6, y7⟩ := HSB.out.nb.cells
  unfold Nd.val
  go_enter Try.func71, Try.ntmps71
  go_upto_region 1 with fail
  rw [HW1.out, HAA.out]
  clear HW1
  go_wp2_with fail
  refine (fork_any B b0 Y m a w1 HSB.out.bb HSB.out.sz (by omega) (by omega)).mono ?_
  rintro e w2 ⟨rfl, h2, f2⟩
  have HS2 : Hid (Sb w0 b0 B Y A v w w2 (m.st.fr a m.S)) := HSB.out.call h2 f2
  clear h2 f2 HSB y0 y1 y2 y3 y4 y5 y6 y7
  obtain ⟨y0, y1, y2, y3, y4, y5, y6, y7⟩ := HS2.out.nb.cells
  have HC : Hid (Calls Try.prog 29 #[.pointer (some ⟨B, 0, none⟩), v.val, .int .i64 (m.S : Nat)] w2 _) := HLL.out w2 b0 Y (m.st.fr a m.S) m.S HS2.out.low H0.out HS2.out.sz HS2.out.bb (by rw [HRR.out]; omega) (by rw [HRR.out]; omega)
  rw [HRR.out] at HC
  unfold Nd.val at HC
  go_wp2_with fail
  refine HC.out.mono ?_
  rintro e w3 ⟨rfl, h3, f3⟩
  have HS3 : Hid (Sb w0 b0 B Y A v w w3 r.1) := HS2.out.call h3 f3
  clear h3 f3 HS2 HC y0 y1 y2 y3 y4 y5 y6 y7
  go_wp2_with fail
  refine (bfree_any B b0 Y r.1 r.2 m.S w3 HS3.out.bb HS3.out.sz (by omega)).mono ?_
  rintro e w4 ⟨rfl, h4, f4⟩
  have HS4 : Hid (Sb w0 b0 B Y A v w w4 (r.1.fr r.2 m.S)) := HS3.out.call h4 f4
  clear h4 f4 HS3
  have HC : Hid (Calls Try.prog 69 #[.pointer (some ⟨B, 0, none⟩), .int .i64 (m.S : Nat)] w4 fun e w' => e = .returned (.int .i64 (r.1.S : Nat)) ∧ BB w' b0 B Y ((r.1.fr r.2 m.S).st.fr m.S r.1.S) ∧ Fm b0 B w4 w') := fork_any B b0 Y (r.1.fr r.2 m.S) m.S w4 HS4.out.bb HS4.out.sz (by show r.1.S ≤ _; omega) (by simp [Mk.fr, Mk.ed]; omega)
  go_wp2_with fail
  refine HC.out.mono ?_
  rintro e w5 ⟨rfl, h5, f5⟩
  have HS5 : Hid (Sb w0 b0 B Y A v w w5 ((r.1.fr r.2 m.S).st.fr m.S r.1.S)) := HS4.out.call h5 f5
  clear h5 f5 HS4 HC
  go_wp2
  go_ret
  exact ⟨rfl, HS5.out.bb, HS5.out.fm⟩
set_option maxRecDepth 4000 in
set_option maxHeartbeats 8000000 in
theorem bupTo_any {w0 : World} {B : Nat} {t : Tn} {v : Nd} (HL : LayV w0 B t v) (X : Nat) (hX : X ≤ 255) (w : World) (b0 Y : Nat) (m : Mk) (a : Nat) (hlow : Kp B w0 w) (h0 : w0.heap.size ≤ b0) (hb : b0 ≤ w.heap.size) (hbb : BB w b0 B Y m) (hS : (joint (tails (lay t) X (m, a) [a])).1.S ≤ 1000000) (hE : (joint (tails (lay t) X (m, a) [a])).1.es.length ≤ 1000000) : Calls Try.prog 72 #[.pointer (some ⟨B, 0, none⟩), v.val, .int .i64 (X : Nat), .int .i64 (a : Nat)] w fun e w' => e = .returned (.int .i64 ((joint (tails (lay t) X (m, a) [a])).2 : Nat)) ∧ BB w' b0 B Y (joint (tails (lay t) X (m, a) [a])).1 ∧ Fm b0 B w w' := by
  obtain ⟨R, hR⟩ : ∃ R, tails (lay t) X (m, a) [a] = R := ⟨_, rfl⟩
  have HR : Hid (tails (lay t) (X - 0) (m, a) [a] = R) := hR
  rw [hR] at hS hE ⊢
  have HJS : Hid ((joint R).1.S ≤ 1000000 ∧ (joint R).1.es.length ≤ 1000000) := ⟨hS, hE⟩
  have hJ := joint_le R
  have HRS : Hid (R.1.S ≤ 1000000 ∧ R.1.es.length ≤ 1000000) := ⟨Nat.le_trans hJ.1 hS, Nat.le_trans hJ.2 hE⟩
  have HLL : Hid (LayV w0 B t v) := HL
  clear HL hR hJ hS hE
  have HSB : Hid (Sb w0 b0 B Y w.heap.size v w (w.alloc (.cells #[.int .i64 v.k, .int .u64 (Oct.word v.s 0 : Nat), .int .u64 (Oct.word v.s 1 : Nat), .int .u64 (Oct.word v.s 2 : Nat), .int .u64 (Oct.word v.s 3 : Nat), .slice v.a v.n v.c, .int .i64 v.mn, .int .i64 v.mx] 30)) m) := sb_start w0 v hbb hlow hb h0
  obtain ⟨w1, hw1⟩ : ∃ w1, w.alloc (.cells #[.int .i64 v.k, .int .u64 (Oct.word v.s 0 : Nat), .int .u64 (Oct.word v.s 1 : Nat), .int .u64 (Oct.word v.s 2 : Nat), .int .u64 (Oct.word v.s 3 : Nat), .slice v.a v.n v.c, .int .i64 v.mn, .int .i64 v.mx] 30) = w1 := ⟨_, rfl⟩
  rw [hw1] at HSB
  obtain ⟨A, hA⟩ : ∃ A, w.heap.size = A := ⟨_, rfl⟩
  rw [hA] at HSB
  have HW1 : Hid (w.alloc (.cells #[.int .i64 v.k, .int .u64 (Oct.word v.s 0 : Nat), .int .u64 (Oct.word v.s 1 : Nat), .int .u64 (Oct.word v.s 2 : Nat), .int .u64 (Oct.word v.s 3 : Nat), .slice v.a v.n v.c, .int .i64 v.mn, .int .i64 v.mx] 30) = w1) := hw1
  have HAA : Hid (w.heap.size = A) := hA
  have HB : Hid (b0 ≤ w.heap.size) := hb
  have H0 : Hid (w0.heap.size ≤ b0) := h0
  clear hw1 hA hb h0 hlow hbb
  obtain ⟨y0, y1, y2, y3, y4, y5, y6, y7⟩ := HSB.out.nb.cells
  unfold Nd.val
  go_enter Try.func72, Try.ntmps72
  go_upto_region 1 with fail
  rw [HW1.out, HAA.out]
  clear HW1
  have kk : Below w1.heap.size w1 (w1.alloc (.cells #[.int .i64 (a : Nat)] 3)) := (Below.refl _ _).alloc (Nat.le_refl _) _
  have HS2 : Hid (Sb w0 b0 B Y A v w (w1.alloc (.cells #[.int .i64 (a : Nat)] 3)) m) := HSB.out.later kk
  have HI2 : Hid (RowI (w1.alloc (.cells #[.int .i64 (a : Nat)] 3)) w.heap.size (.slice (some ⟨w1.heap.size, 0, none⟩) 1 1) [a]) := rowI_first w1 w.heap.size a HSB.out.fm.size
  clear kk
  go_upto_region 2 with fail
  obtain ⟨w2, hw2⟩ : ∃ w2, w1.alloc (.cells #[.int .i64 (a : Nat)] 3) = w2 := ⟨_, rfl⟩
  rw [hw2] at HS2 HI2 ⊢
  clear hw2 HSB y0 y1 y2 y3 y4 y5 y6 y7
  go_wp2_with fail
  go_loopw [3, 9, 13] (fun va ve i q => ∃ (j : Nat) (m' : Mk) (a' : Nat) (l : List Nat), va = .int .i64 (a' : Nat) ∧ i = .int .i64 (j : Nat) ∧ j ≤ X ∧ Hid (l.length = j + 1) ∧ Hid (tails (lay t) (X - j) (m', a') l = R) ∧ Hid (RowI q w.heap.size ve l) ∧ Hid (Sb w0 b0 B Y A v w q m')) (fun _ _ i _ => X - (intOf i).toNat)
  case atStart => exact ⟨0, m, a, [a], rfl, rfl, Nat.zero_le _, rfl, HR, HI2, HS2⟩
  case round =>
    clear HS2 HI2 HR
    obtain ⟨j, m', a', l, rfl, rfl, hjn, HLJ, HRj, HIj, HSj⟩ := hrel
    obtain ⟨y0, y1, y2, y3, y4, y5, y6, y7⟩ := HSj.out.nb.cells
    by_cases hlt : j < X
    · have hlt' : (j : Int) < (X : Int) := by omega
      have HRn : Hid (tails (lay t) (X - (j + 1)) (lay t m' a') (l ++ [(lay t m' a').2]) = R) := by
        show _ = _
        rw [← HRj.out, show X - j = (X - (j + 1)) + 1 by omega, tails_one]
      have HLE : Hid ((lay t m' a').1.le R.1) := by have h1 := tails_le (lay_le t) (X - (j + 1)) (lay t m' a') (l ++ [(lay t m' a').2]); rw [HRn.out] at h1; exact h1
      have HC : Hid (Calls Try.prog 29 #[.pointer (some ⟨B, 0, none⟩), v.val, .int .i64 (a' : Nat)] wr _) := HLL.out wr b0 Y m' a' HSj.out.low H0.out HSj.out.sz HSj.out.bb (Nat.le_trans HLE.out.1 HRS.out.1) (Nat.le_trans HLE.out.2 HRS.out.2)
      obtain ⟨r, hr⟩ : ∃ r, lay t m' a' = r := ⟨_, rfl⟩
      rw [hr] at HC HRn
      clear hr HLE HRj
      unfold Nd.val at HC
      go_wp2_with fail
      refine HC.out.mono ?_
      rintro e w4 ⟨rfl, h4, f4⟩
      have HS4 : Hid (Sb w0 b0 B Y A v w w4 r.1) := HSj.out.call h4 f4
      have HI4 : Hid (RowI w4 w.heap.size u9 l) := HIj.out.fmb HSj.out.bb f4
      clear h4 f4 HC HSj HIj y0 y1 y2 y3 y4 y5 y6 y7
      have kk : Below w4.heap.size w4 (w4.alloc (.cells #[.int .i64 (r.2 : Nat)] 3)) := (Below.refl _ _).alloc (Nat.le_refl _) _
      have HS5 : Hid (Sb w0 b0 B Y A v w (w4.alloc (.cells #[.int .i64 (r.2 : Nat)] 3)) r.1) := HS4.out.later kk
      have HI5 : Hid (RowI (w4.alloc (.cells #[.int .i64 (r.2 : Nat)] 3)) w.heap.size u9 l) := HI4.out.keep (fun b _ hlt _ => kk.block b hlt)
      have HC5 : Hid ((w4.alloc (.cells #[.int .i64 (r.2 : Nat)] 3)).cell? ⟨w4.heap.size, 0, none⟩ = some (.int .i64 (r.2 : Nat))) := by show _ = _; rw [World.cell?_alloc_mark]; rfl
      have HLQ2 : Hid (l.length ≤ 2000000) := by have := HLJ.out; show _ ≤ _; omega
      have HZ5 : Hid (w.heap.size ≤ (w4.alloc (.cells #[.int .i64 (r.2 : Nat)] 3)).heap.size) := HS5.out.fm.size
      clear kk
      go_wp2_with (at_builtin; go_must (refine wpList_append_int rfl _ _ rfl w.heap.size _ l rfl HI5.out ⟨w4.heap.size, 0, none⟩ 1 r.2 rfl HC5.out HLQ2.out HZ5.out ?_; intro g' cap' w6 hn6 hg6; have HI6 : Hid (RowI w6 w.heap.size _ (l ++ [r.2])) := hn6; have HG6 : Hid ((w4.alloc (.cells #[.int .i64 (r.2 : Nat)] 3)).grownBy w6 u9.ownBlock) := hg6; clear hn6 hg6))
      have HS6 : Hid (Sb w0 b0 B Y A v w w6 r.1) := HS5.out.own HG6.out (HI5.out.ty) HB.out
      go_roundw
      case rel => exact ⟨j + 1, r.1, r.2, l ++ [r.2], rfl, by go_num, by omega, (by have := HLJ.out; show _ = _; simp; omega), HRn, HI6, HS6⟩
      case measure => simp [intOf]; omega
    · have hlt' : ¬ (j : Int) < (X : Int) := by omega
      have HRF : Hid (R = (m', l)) := by
        show _ = _
        rw [← HRj.out, show X - j = 0 by omega, tails]
      obtain ⟨oa, oc, hV, hlc, hcm⟩ := HIj.out.form
      subst hV
      obtain ⟨N, hN⟩ : ∃ N, l.length = N := ⟨_, rfl⟩
      rw [hN] at HIj hlc ⊢
      simp only [maxLen] at hcm
      have HC : Hid (Calls Try.prog 70 #[.pointer (some ⟨B, 0, none⟩), .slice oa N oc] wr _) := bjoin_any B b0 Y w.heap.size m' l oa N oc wr hN HSj.out.bb HSj.out.sz HIj.out (by rw [← HRF.out]; exact HJS.out.1) (by rw [← HRF.out]; exact HJS.out.2)
      rw [← HRF.out] at HC
      clear hN hlc hcm
      go_wp2_with fail
      refine HC.out.mono ?_
      rintro e w4 ⟨rfl, h4, f4⟩
      have HS4 : Hid (Sb w0 b0 B Y A v w w4 (joint R).1) := HSj.out.call h4 f4
      clear h4 f4 HC HSj HIj HRj
      go_wp2
      go_ret
      exact ⟨rfl, HS4.out.bb, HS4.out.fm⟩
end Go.Proofs.Ytjmbimgofceanaa

/- The program's way of a repeat. -/
namespace Go.Proofs.Ytjmbimgofceanaa
open Go.RowKit
attribute [local go_sem ↓] Go.wp_at_zero Go.wp_at_succ

theorem rounds_one (F : Mk → Nat → Mk × Nat) (j : Nat) (x : Mk × Nat) : rounds F (j + 1) x = rounds F j (F x.1 x.2) := rfl
set_option maxRecDepth 4000 in
set_option maxHeartbeats 16000000 in
theorem way_times {w0 : World} {B : Nat} {s : Oct.S} {t : Tn} {v : Nd} {mn mx : Int} {a : Option Addr} {c : Nat} (hr : RowAt (fun b => b ≠ B) w0 a [v]) (HL : LayV w0 B t v) (hp : placesOf t ≠ 1) (hmn : 0 ≤ mn ∧ mn ≤ 255) (hmx : mx = -1 ∨ mn ≤ mx ∧ mx ≤ 255) : WayV 49 w0 B (.mk 5 s [t] mn mx) ⟨5, s, a, 1, c, mn, mx⟩ := by
  intro w b0 Y m a0 hlow h0 hb hbb hS hE
  obtain ⟨R, hR⟩ : ∃ R, lay (.mk 5 s [t] mn mx) m a0 = R := ⟨_, rfl⟩
  rw [hR] at hS hE ⊢
  obtain ⟨M, rfl⟩ : ∃ M : Nat, mn = (M : Nat) := ⟨mn.toNat, by omega⟩
  have hM : M ≤ 255 := by omega
  have HRC : Hid (R = if mx = -1 then again (lay t) (rounds (lay t) M (m, a0)) else if mx = (M : Nat) then rounds (lay t) M (m, a0) else joint (tails (lay t) (mx - (M : Nat)).toNat (rounds (lay t) M (m, a0)) [(rounds (lay t) M (m, a0)).2])) := by
    show _ = _
    rw [← hR, lay_mk]
    simp only [show ¬ ((5 : Int) = 2 ∨ (5 : Int) = 6 ∨ (5 : Int) = 7) by decide, show ¬ (5 : Int) = 3 by decide, show ¬ (5 : Int) = 4 by decide, if_false, if_true, hd]
    unfold timesOf
    rw [if_neg hp, Int.toNat_natCast]
  have HRO : Hid (RowAt (fun b => b ≠ B) w0 a [v]) := hr
  have HLL : Hid (LayV w0 B t v) := HL
  have HBS : Hid (R.1.S ≤ 1000000 ∧ R.1.es.length ≤ 1000000) := ⟨hS, hE⟩
  obtain ⟨C, hC⟩ : ∃ C, rounds (lay t) M (m, a0) = C := ⟨_, rfl⟩
  have HCC : Hid (rounds (lay t) (M - 0) (m, a0) = C) := hC
  rw [hC] at HRC
  have HCL : Hid (C.1.le R.1) := by
    show C.1.le R.1
    rw [HRC.out]
    split
    · exact again_le (lay_le t) C
    split
    · exact .refl _
    · exact (tails_le (lay_le t) _ _ _).trans (joint_le _)
  clear hr HL hS hE hR hC hp
  have HSB : Hid (Sb w0 b0 B Y w.heap.size ⟨5, s, a, 1, c, (M : Nat), mx⟩ w (w.alloc (.cells #[.int .i64 5, .int .u64 (Oct.word s 0 : Nat), .int .u64 (Oct.word s 1 : Nat), .int .u64 (Oct.word s 2 : Nat), .int .u64 (Oct.word s 3 : Nat), .slice a 1 c, .int .i64 (M : Nat), .int .i64 mx] 30)) m) := sb_start w0 ⟨5, s, a, 1, c, (M : Nat), mx⟩ hbb hlow hb h0
  obtain ⟨w1, hw1⟩ : ∃ w1, w.alloc (.cells #[.int .i64 5, .int .u64 (Oct.word s 0 : Nat), .int .u64 (Oct.word s 1 : Nat), .int .u64 (Oct.word s 2 : Nat), .int .u64 (Oct.word s 3 : Nat), .slice a 1 c, .int .i64 (M : Nat), .int .i64 mx] 30) = w1 := ⟨_, rfl⟩
  rw [hw1] at HSB
  obtain ⟨A, hA⟩ : ∃ A, w.heap.size = A := ⟨_, rfl⟩
  rw [hA] at HSB
  have HW1 : Hid (w.alloc (.cells #[.int .i64 5, .int .u64 (Oct.word s 0 : Nat), .int .u64 (Oct.word s 1 : Nat), .int .u64 (Oct.word s 2 : Nat), .int .u64 (Oct.word s 3 : Nat), .slice a 1 c, .int .i64 (M : Nat), .int .i64 mx] 30) = w1) := hw1
  have HAA : Hid (w.heap.size = A) := hA
  have HB : Hid (b0 ≤ w.heap.size) := hb
  have H0 : Hid (w0.heap.size ≤ b0) := h0
  clear hw1 hA hb h0 hlow hbb
  obtain ⟨y0, y1, y2, y3, y4, y5, y6, y7⟩ := HSB.out.nb.cells
  simp only at y0 y1 y2 y3 y4 y5 y6 y7
  unfold Nd.val
  simp only
  go_enter Try.func49, Try.ntmps49
  go_upto_region 1 with fail
  rw [HW1.out, HAA.out]
  clear HW1
  have hrow := (HRO.out.keep (w' := w1) (Y := fun _ => True) (fun _ _ _ => trivial) (fun b hb hlt => HSB.out.low.2 b hlt hb)).nth (i := 0) rfl
  obtain ⟨g, off, hgo, e0, e1, e2, e3, e4, e5, e6, e7⟩ := hrow
  cases hgo
  simp only [Nat.zero_mul, Nat.add_zero] at e0 e1 e2 e3 e4 e5 e6 e7
  have kk : Below w1.heap.size w1 (w1.alloc (.cells #[.int .i64 v.k, .int .u64 (Oct.word v.s 0 : Nat), .int .u64 (Oct.word v.s 1 : Nat), .int .u64 (Oct.word v.s 2 : Nat), .int .u64 (Oct.word v.s 3 : Nat), .slice v.a v.n v.c, .int .i64 v.mn, .int .i64 v.mx] 30)) := (Below.refl _ _).alloc (Nat.le_refl _) _
  have HS2 : Hid (Sb w0 b0 B Y A ⟨5, s, some ⟨g, off, none⟩, 1, c, (M : Nat), mx⟩ w (w1.alloc (.cells #[.int .i64 v.k, .int .u64 (Oct.word v.s 0 : Nat), .int .u64 (Oct.word v.s 1 : Nat), .int .u64 (Oct.word v.s 2 : Nat), .int .u64 (Oct.word v.s 3 : Nat), .slice v.a v.n v.c, .int .i64 v.mn, .int .i64 v.mx] 30)) m) := HSB.out.later kk
  have HV2 : Hid (NB (w1.alloc (.cells #[.int .i64 v.k, .int .u64 (Oct.word v.s 0 : Nat), .int .u64 (Oct.word v.s 1 : Nat), .int .u64 (Oct.word v.s 2 : Nat), .int .u64 (Oct.word v.s 3 : Nat), .slice v.a v.n v.c, .int .i64 v.mn, .int .i64 v.mx] 30)) w1.heap.size v) := nb_new w1 v
  go_upto_region 2 with fail
  obtain ⟨w2, hw2⟩ : ∃ w2, w1.alloc (.cells #[.int .i64 v.k, .int .u64 (Oct.word v.s 0 : Nat), .int .u64 (Oct.word v.s 1 : Nat), .int .u64 (Oct.word v.s 2 : Nat), .int .u64 (Oct.word v.s 3 : Nat), .slice v.a v.n v.c, .int .i64 v.mn, .int .i64 v.mx] 30) = w2 := ⟨_, rfl⟩
  obtain ⟨A2, hA2⟩ : ∃ A2, w1.heap.size = A2 := ⟨_, rfl⟩
  rw [hw2] at HS2 HV2 ⊢
  rw [hA2] at HV2 ⊢
  clear hw2 hA2 kk HSB e0 e1 e2 e3 e4 e5 e6 e7 y0 y1 y2 y3 y4 y5 y6 y7
  obtain ⟨y0, y1, y2, y3, y4, y5, y6, y7⟩ := HS2.out.nb.cells
  simp only at y0 y1 y2 y3 y4 y5 y6 y7
  go_wp2_with fail
  clear y0 y1 y2 y3 y4 y5 y6 y7
  go_loopw [2, 14] (fun va i u => ∃ (j : Nat) (m' : Mk) (a' : Nat), va = .int .i64 (a' : Nat) ∧ i = .int .i64 (j : Nat) ∧ j ≤ M ∧ Hid (rounds (lay t) (M - j) (m', a') = C) ∧ Hid (NB u A2 v) ∧ Hid (Sb w0 b0 B Y A ⟨5, s, some ⟨g, off, none⟩, 1, c, (M : Nat), mx⟩ w u m')) (fun _ i _ => M - (intOf i).toNat)
  case atStart => exact ⟨0, m, a0, rfl, rfl, Nat.zero_le _, HCC, HV2, HS2⟩
  case round =>
    clear HS2 HV2 HCC
    obtain ⟨j, m', a', rfl, rfl, hjn, HRj, HVj, HSj⟩ := hrel
    by_cases hlt : j < M
    · have hlt' : (j : Int) < (M : Int) := by omega
      obtain ⟨z0, z1, z2, z3, z4, z5, z6, z7⟩ := HVj.out.cells
      have HRn : Hid (rounds (lay t) (M - (j + 1)) (lay t m' a') = C) := by
        show _ = _
        rw [← HRj.out, show M - j = (M - (j + 1)) + 1 by omega, rounds_one]
      have hle := rounds_le (lay_le t) (M - (j + 1)) (lay t m' a')
      rw [HRn.out] at hle
      have HC : Hid (Calls Try.prog 29 #[.pointer (some ⟨B, 0, none⟩), v.val, .int .i64 (a' : Nat)] wr _) := HLL.out wr b0 Y m' a' HSj.out.low H0.out HSj.out.sz HSj.out.bb (Nat.le_trans hle.1 (Nat.le_trans HCL.out.1 HBS.out.1)) (Nat.le_trans hle.2 (Nat.le_trans HCL.out.2 HBS.out.2))
      obtain ⟨r, hr⟩ : ∃ r, lay t m' a' = r := ⟨_, rfl⟩
      rw [hr] at HC HRn
      clear hr hle HRj
      unfold Nd.val at HC
      go_wp2_with fail
      refine HC.out.mono ?_
      rintro e w4 ⟨rfl, h4, f4⟩
      have HS4 : Hid (Sb w0 b0 B Y A ⟨5, s, some ⟨g, off, none⟩, 1, c, (M : Nat), mx⟩ w w4 r.1) := HSj.out.call h4 f4
      have HV4 : Hid (NB w4 A2 v) := f4.keep HVj.out (HSj.out.bb.ne ⟨_, _, HVj.out⟩ (by decide)) (by decide)
      clear h4 f4 HC HSj HVj z0 z1 z2 z3 z4 z5 z6 z7
      go_wp2
      go_roundw
      case rel => exact ⟨j + 1, r.1, r.2, rfl, by go_num, by omega, HRn, HV4, HS4⟩
      case measure => simp [intOf]; omega
    · have hlt' : ¬ (j : Int) < (M : Int) := by omega
      have HCE : Hid (C = (m', a')) := by
        show _ = _
        rw [← HRj.out, show M - j = 0 by omega, rounds]
      rw [HCE.out] at HRC
      clear HRj HCL HCE
      obtain ⟨z0, z1, z2, z3, z4, z5, z6, z7⟩ := HVj.out.cells
      obtain ⟨y0, y1, y2, y3, y4, y5, y6, y7⟩ := HSj.out.nb.cells
      simp only at y0 y1 y2 y3 y4 y5 y6 y7
      by_cases hm1 : mx = -1
      · subst hm1
        have HRA : Hid (R = again (lay t) (m', a')) := by show _ = _; rw [HRC.out, if_pos rfl]
        have HC : Hid (Calls Try.prog 71 #[.pointer (some ⟨B, 0, none⟩), v.val, .int .i64 (a' : Nat)] wr _) := bloop_any HLL.out wr b0 Y m' a' HSj.out.low H0.out HSj.out.sz HSj.out.bb (by rw [← HRA.out]; exact HBS.out.1) (by rw [← HRA.out]; exact HBS.out.2)
        rw [← HRA.out] at HC
        unfold Nd.val at HC
        clear HRC HRA
        go_wp2_with fail
        refine HC.out.mono ?_
        rintro e w4 ⟨rfl, h4, f4⟩
        have HS4 : Hid (Sb w0 b0 B Y A ⟨5, s, some ⟨g, off, none⟩, 1, c, (M : Nat), -1⟩ w w4 R.1) := HSj.out.call h4 f4
        clear h4 f4 HC HSj HVj z0 z1 z2 z3 z4 z5 z6 z7 y0 y1 y2 y3 y4 y5 y6 y7
        go_wp2
        go_ret
        exact ⟨rfl, HS4.out.bb, HS4.out.fm⟩
      · obtain ⟨X, rfl⟩ : ∃ X : Nat, mx = (X : Nat) := ⟨mx.toNat, by omega⟩
        have hX1 : ¬ ((X : Nat) : Int) = -1 := by omega
        have hX3 : (((X : Nat) : Int) == -1) = false := by rw [beq_eq_false_iff_ne]; omega
        have hX2 : X ≤ 255 := by omega
        have hX4 : M ≤ X := by omega
        by_cases hXM : X = M
        · subst hXM
          have HRE : Hid (R = (m', a')) := by show _ = _; rw [HRC.out, if_neg hX1, if_pos rfl]
          go_wp2
          go_ret
          rw [HRE.out]
          exact ⟨rfl, HSj.out.bb, HSj.out.fm⟩
        have hXM' : ¬ ((X : Nat) : Int) = ((M : Nat) : Int) := by omega
        have hXM2 : ((M : Nat) : Int) < ((X : Nat) : Int) := by omega
        obtain ⟨Z, hZ⟩ : ∃ Z : Nat, ((X : Nat) : Int) - ((M : Nat) : Int) = ((Z : Nat) : Int) := ⟨X - M, by omega⟩
        have HZZ : Hid (((X : Nat) : Int) - ((M : Nat) : Int) = ((Z : Nat) : Int)) := hZ
        have hZ2 : Z ≤ 255 := by omega
        have HRE : Hid (R = joint (tails (lay t) Z (m', a') [a'])) := by
          show _ = _
          rw [HRC.out, if_neg hX1, if_neg hXM', hZ, Int.toNat_natCast]
        clear hZ HRC
        have HC : Hid (Calls Try.prog 72 #[.pointer (some ⟨B, 0, none⟩), v.val, .int .i64 (Z : Nat), .int .i64 (a' : Nat)] wr _) := bupTo_any HLL.out Z hZ2 wr b0 Y m' a' HSj.out.low H0.out HSj.out.sz HSj.out.bb (by rw [← HRE.out]; exact HBS.out.1) (by rw [← HRE.out]; exact HBS.out.2)
        rw [← HRE.out, ← HZZ.out] at HC
        unfold Nd.val at HC
        clear HRE
        go_wp2_with fail
        refine HC.out.mono ?_
        rintro e w4 ⟨rfl, h4, f4⟩
        have HS4 : Hid (Sb w0 b0 B Y A ⟨5, s, some ⟨g, off, none⟩, 1, c, (M : Nat), (X : Nat)⟩ w w4 R.1) := HSj.out.call h4 f4
        clear h4 f4 HC HSj HVj z0 z1 z2 z3 z4 z5 z6 z7 y0 y1 y2 y3 y4 y5 y6 y7
        go_wp2
        go_ret
        exact ⟨rfl, HS4.out.bb, HS4.out.fm⟩
end Go.Proofs.Ytjmbimgofceanaa

/- Trees without the nodes that lay nothing: plain. They lay the same. -/
namespace Go.Proofs.Ytjmbimgofceanaa

def kindT : Tn → Int
  | .mk k _ _ _ _ => k
def emptyT : Tn := .mk 1 Oct.none [] 0 0
def packT : List Tn → Tn
  | [] => emptyT
  | [t] => t
  | t :: u :: ts => .mk 3 Oct.none (t :: u :: ts) 0 0
def timesT (u : Tn) (mn mx : Int) : Tn := if mx = 0 then emptyT else if kindT u = 1 ∨ (mn = 1 ∧ mx = 1) then u else .mk 5 Oct.none [u] mn mx
mutual
def trim : Tn → Tn
  | .mk k s subs mn mx =>
    if k = 3 then packT (trims subs)
    else if k = 4 then .mk 4 Oct.none (trimA subs) 0 0
    else if k = 5 then timesT (trimH subs) mn mx
    else .mk k s subs mn mx
def trims : List Tn → List Tn
  | [] => []
  | t :: ts => if kindT (trim t) = 1 then trims ts else trim t :: trims ts
def trimA : List Tn → List Tn
  | [] => []
  | t :: ts => trim t :: trimA ts
def trimH : List Tn → Tn
  | [] => emptyT
  | t :: _ => trim t
end
theorem trimA_map : ∀ ts : List Tn, trimA ts = ts.map trim
  | [] => by rw [trimA]; rfl
  | t :: ts => by rw [trimA, trimA_map ts]; rfl
theorem trimA_length (ts : List Tn) : (trimA ts).length = ts.length := by rw [trimA_map, List.length_map]
theorem trims_le : ∀ ts : List Tn, (trims ts).length ≤ ts.length
  | [] => by rw [trims]; exact Nat.le_refl _
  | t :: ts => by
    rw [trims]
    have := trims_le ts
    split
    · simp only [List.length_cons]; omega
    · simp only [List.length_cons]; omega
theorem shp_kind {k : Int} {s : Oct.S} {n : Nat} {mn mx : Int} (h : shapedT k s n mn mx = true) : k = 1 ∨ k = 2 ∨ k = 3 ∨ k = 4 ∨ k = 5 ∨ k = 6 ∨ k = 7 := by
  unfold shapedT at h
  by_cases h1 : k = 1 ∨ k = 6 ∨ k = 7
  · omega
  · rw [if_neg h1] at h
    by_cases h2 : k = 2
    · omega
    · rw [if_neg h2] at h
      by_cases h3 : k = 3 ∨ k = 4
      · omega
      · rw [if_neg h3] at h
        by_cases h5 : k = 5
        · omega
        · rw [if_neg h5] at h
          cases h
theorem shp_five {s : Oct.S} {n : Nat} {mn mx : Int} (h : shapedT 5 s n mn mx = true) : n = 1 ∧ (0 ≤ mn ∧ mn ≤ 255) ∧ (mx = -1 ∨ mn ≤ mx ∧ mx ≤ 255) := by
  unfold shapedT at h
  simp [counted] at h
  omega
theorem shp_leaf {k : Int} {s : Oct.S} {n : Nat} {mn mx : Int} (h : shapedT k s n mn mx = true) (hk : k = 1 ∨ k = 2 ∨ k = 6 ∨ k = 7) : n = 0 := by
  unfold shapedT at h
  rcases hk with rfl | rfl | rfl | rfl <;> simp at h <;> omega
theorem raw_empty : raw emptyT = 0 := by unfold emptyT; rw [raw, raws]; rfl
theorem plc_empty : (plc emptyT).2 = true := by
  unfold emptyT
  rw [plc_snd]
  unfold shapedT
  simp [noSet_none, plainT]
theorem raw_pack : ∀ ts : List Tn, raw (packT ts) = raws ts
  | [] => by rw [raws]; exact raw_empty
  | [t] => by rw [raws, raws]; rfl
  | t :: u :: ts => by
    show raw (.mk 3 Oct.none (t :: u :: ts) 0 0) = _
    rw [raw]
    rfl
theorem plc_pack : ∀ ts : List Tn, (∀ t ∈ ts, (plc t).2 = true) → (plc (packT ts)).2 = true
  | [], _ => plc_empty
  | [t], h => h t (by simp)
  | t :: u :: ts, h => by
    show (plc (.mk 3 Oct.none (t :: u :: ts) 0 0)).2 = true
    rw [plc_snd]
    unfold shapedT
    simp only [noSet_none, plainT, Bool.and_eq_true, List.all_eq_true]
    refine ⟨by simp, h⟩
theorem raw_one {t : Tn} (h : (plc t).2 = true) (hk : kindT t = 1) : raw t = 0 := by
  obtain ⟨k, s, subs, mn, mx⟩ := t
  have hk : k = 1 := hk
  subst hk
  obtain ⟨hsh, _⟩ := plc_subs h
  have hn := shp_leaf hsh (Or.inl rfl)
  have hs : subs = [] := List.length_eq_zero_iff.1 hn
  subst hs
  rw [raw, raws]
  rfl
theorem repT_one (r : Nat) : (repT r (1 : Int).toNat 1).toNat = r := by
  unfold repT
  split
  · simp; omega
  · simp
theorem repT_zero (r : Nat) {mn : Int} (h0 : 0 ≤ mn) (h : mn ≤ 0) : (repT r mn.toNat 0).toNat = 0 := by
  have e : mn = 0 := by omega
  subst e
  unfold repT
  split
  · rfl
  · simp
theorem repT_pos {r : Nat} {mn mx : Int} (hr : r ≠ 0) (h0 : 0 ≤ mn) (h1 : mx = -1 ∨ mn ≤ mx) (h2 : mx ≠ 0) : (repT r mn.toNat mx).toNat ≠ 0 := by
  have hp : ∀ m : Int, 0 ≤ m → 0 ≤ m * (r : Int) := fun m hm => Int.mul_nonneg hm (by omega)
  have hq : ∀ m : Int, 1 ≤ m → (r : Int) ≤ m * (r : Int) := fun m hm => by
    have := Int.mul_le_mul_of_nonneg_right hm (by omega : (0 : Int) ≤ (r : Int))
    omega
  unfold repT
  rw [if_neg hr]
  by_cases hm : mx = -1
  · rw [if_pos hm]
    have := hp (mn.toNat : Int) (by omega)
    omega
  · rw [if_neg hm]
    by_cases hl : ((mn.toNat : Nat) : Int) < mx
    · rw [if_pos hl]
      have := hp mx (by omega)
      omega
    · rw [if_neg hl]
      have := hq (mn.toNat : Int) (by omega)
      omega
theorem plc_times {u : Tn} {s : Oct.S} {n : Nat} {mn mx : Int} (hu : (plc u).2 = true) (h : shapedT 5 s n mn mx = true) : (plc (.mk 5 Oct.none [u] mn mx)).2 = true := by
  rw [plc_snd]
  have hc : counted mn mx = true := by
    unfold shapedT at h
    simp at h
    exact h.2
  unfold shapedT
  simp [noSet_none, hc, hu]
theorem trims_mem : ∀ {ts : List Tn} {u : Tn}, u ∈ trims ts → ∃ t ∈ ts, u = trim t ∧ kindT u ≠ 1
  | [], u, h => by rw [trims] at h; cases h
  | t :: ts, u, h => by
    rw [trims] at h
    split at h
    · obtain ⟨x, hx, e⟩ := trims_mem h
      exact ⟨x, by simp [hx], e⟩
    · rename_i hk
      rcases List.mem_cons.1 h with rfl | h
      · exact ⟨t, by simp, rfl, hk⟩
      · obtain ⟨x, hx, e⟩ := trims_mem h
        exact ⟨x, by simp [hx], e⟩
theorem raws_map {f : Tn → Tn} : ∀ ts : List Tn, (∀ t ∈ ts, raw (f t) = raw t) → raws (ts.map f) = raws ts
  | [], _ => rfl
  | t :: ts, h => by
    rw [List.map_cons, raws, raws, h t (by simp), raws_map ts (fun u hu => h u (by simp [hu]))]
theorem raws_trims : ∀ ts : List Tn, (∀ t ∈ ts, (plc (trim t)).2 = true ∧ raw (trim t) = raw t) → raws (trims ts) = raws ts
  | [], _ => by rw [trims]
  | t :: ts, h => by
    have ih := raws_trims ts (fun u hu => h u (by simp [hu]))
    obtain ⟨h1, h2⟩ := h t (by simp)
    rw [trims, raws]
    split
    · rename_i hk
      rw [ih, ← h2, raw_one h1 hk, Nat.zero_add]
    · rw [raws, ih, h2]
/-- trimmed, it is a tree of as many places -/
theorem trim_tree : ∀ (z : Nat) (t : Tn), SizeOf.sizeOf t ≤ z → (plc t).2 = true → (plc (trim t)).2 = true ∧ raw (trim t) = raw t
  | 0, .mk k s subs mn mx, hz, _ => by simp at hz
  | z + 1, .mk k s subs mn mx, hz, h => by
    obtain ⟨hsh, hsub⟩ := plc_subs h
    have ih : ∀ t ∈ subs, (plc (trim t)).2 = true ∧ raw (trim t) = raw t := fun t ht => trim_tree z t (by
      have := List.sizeOf_lt_of_mem ht
      simp at hz
      omega) (hsub t ht)
    rw [trim]
    rcases shp_kind hsh with rfl | rfl | rfl | rfl | rfl | rfl | rfl
    · simp [h]
    · simp [h]
    · rw [if_pos rfl]
      refine ⟨plc_pack _ (fun u hu => ?_), ?_⟩
      · obtain ⟨t, ht, rfl, _⟩ := trims_mem hu
        exact (ih t ht).1
      · rw [raw_pack, raws_trims subs ih, raw]
        rfl
    · rw [if_neg (by decide), if_pos rfl]
      refine ⟨?_, ?_⟩
      · rw [plc_snd]
        have hn : 2 ≤ subs.length := by
          unfold shapedT at hsh
          simp at hsh
          omega
        unfold shapedT
        simp only [noSet_none, plainT, Bool.and_eq_true, List.all_eq_true, trimA_length]
        refine ⟨by simp [hn], fun u hu => ?_⟩
        rw [trimA_map] at hu
        obtain ⟨t, ht, rfl⟩ := List.mem_map.1 hu
        exact (ih t ht).1
      · rw [raw, raw, trimA_length, trimA_map, raws_map subs (fun t ht => (ih t ht).2)]
        rfl
    · rw [if_neg (by decide), if_neg (by decide), if_pos rfl]
      obtain ⟨h1, ⟨h0, _⟩, hx⟩ := shp_five hsh
      match subs, h1, ih, hsub with
      | [u], _, ih, hsub =>
        obtain ⟨i1, i2⟩ := ih u (by simp)
        have e : raw (.mk 5 s [u] mn mx) = (repT (raw u) mn.toNat mx).toNat := by
          rw [raw, raws, raws]
          rfl
        rw [trimH, e]
        unfold timesT
        by_cases hm : mx = 0
        · rw [if_pos hm, hm]
          exact ⟨plc_empty, by rw [raw_empty, repT_zero (raw u) h0 (by omega)]⟩
        rw [if_neg hm]
        by_cases hk : kindT (trim u) = 1 ∨ (mn = 1 ∧ mx = 1)
        · rw [if_pos hk]
          refine ⟨i1, ?_⟩
          rcases hk with hk | ⟨rfl, rfl⟩
          · rw [raw_one i1 hk]
            have h2 : raw u = 0 := by rw [← i2]; exact raw_one i1 hk
            unfold repT
            rw [if_pos h2]
            rfl
          · rw [repT_one, i2]
        · rw [if_neg hk]
          refine ⟨plc_times i1 hsh, ?_⟩
          rw [raw, raws, raws, i2]
          rfl
    · simp [h]
    · simp [h]
theorem trim_plc {t : Tn} (h : (plc t).2 = true) : (plc (trim t)).2 = true := (trim_tree _ t (Nat.le_refl _) h).1
theorem trim_raw {t : Tn} (h : (plc t).2 = true) : raw (trim t) = raw t := (trim_tree _ t (Nat.le_refl _) h).2
theorem places_raw {t : Tn} (h : (plc t).2 = true) : placesOf t = min (raw t) 2048 + 1 := by unfold placesOf; rw [if_pos h, plc_raw t h]
theorem trim_places {t : Tn} (h : (plc t).2 = true) : placesOf (trim t) = placesOf t := by rw [places_raw h, places_raw (trim_plc h), trim_raw h]
theorem raws_mem : ∀ {ts : List Tn} {t : Tn}, t ∈ ts → raw t ≤ raws ts
  | [], t, h => by cases h
  | u :: ts, t, h => by
    rw [raws]
    rcases List.mem_cons.1 h with rfl | h
    · omega
    · have := raws_mem h
      omega
/-- what is not NodeEmpty lays something -/
theorem trim_lays : ∀ (z : Nat) (t : Tn), SizeOf.sizeOf t ≤ z → (plc t).2 = true → kindT (trim t) ≠ 1 → raw t ≠ 0
  | 0, .mk k s subs mn mx, hz, _, _ => by simp at hz
  | z + 1, .mk k s subs mn mx, hz, h, hk1 => by
    obtain ⟨hsh, hsub⟩ := plc_subs h
    have ih : ∀ t ∈ subs, kindT (trim t) ≠ 1 → raw t ≠ 0 := fun t ht => trim_lays z t (by
      have := List.sizeOf_lt_of_mem ht
      simp at hz
      omega) (hsub t ht)
    rw [trim] at hk1
    rcases shp_kind hsh with rfl | rfl | rfl | rfl | rfl | rfl | rfl
    · exact absurd rfl hk1
    · rw [raw]; exact Nat.one_ne_zero
    · rw [if_pos rfl] at hk1
      rw [raw]
      show raws subs ≠ 0
      cases hts : trims subs with
      | nil => rw [hts] at hk1; exact absurd rfl hk1
      | cons u us =>
        obtain ⟨t, ht, rfl, hk⟩ := trims_mem (ts := subs) (u := u) (by rw [hts]; simp)
        have h1 := ih t ht hk
        have h2 := raws_mem ht
        omega
    · rw [raw]
      exact Nat.succ_ne_zero _
    · rw [if_neg (by decide), if_neg (by decide), if_pos rfl] at hk1
      obtain ⟨h1, ⟨h0, _⟩, hx⟩ := shp_five hsh
      match subs, h1, ih, hk1, hsub with
      | [u], _, ih, hk1, hsub =>
        have e : raw (.mk 5 s [u] mn mx) = (repT (raw u) mn.toNat mx).toNat := by
          rw [raw, raws, raws]
          rfl
        rw [e]
        rw [trimH] at hk1
        unfold timesT at hk1
        by_cases hm : mx = 0
        · rw [if_pos hm] at hk1; exact absurd rfl hk1
        rw [if_neg hm] at hk1
        have hku : kindT (trim u) ≠ 1 := by
          by_cases hk : kindT (trim u) = 1 ∨ (mn = 1 ∧ mx = 1)
          · rw [if_pos hk] at hk1; exact hk1
          · exact fun e => hk (Or.inl e)
        exact repT_pos (ih u (by simp) hku) h0 (by omega) hm
    · rw [raw]; exact Nat.one_ne_zero
    · rw [raw]; exact Nat.one_ne_zero
theorem lay_empty (m : Mk) (a : Nat) : lay emptyT m a = (m, a) := by unfold emptyT; rw [lay_mk]; simp
theorem lay_kind1 {t : Tn} (h : kindT t = 1) (m : Mk) (a : Nat) : lay t m a = (m, a) := by
  obtain ⟨k, s, subs, mn, mx⟩ := t
  have h : k = 1 := h
  subst h
  rw [lay_mk]
  simp
theorem lay_pack : ∀ (ts : List Tn) (m : Mk) (a : Nat), lay (packT ts) m a = seqs ts m a
  | [], m, a => by rw [seqs]; exact lay_empty m a
  | [t], m, a => by rw [seqs, seqs]; rfl
  | t :: u :: ts, m, a => by
    show lay (.mk 3 Oct.none (t :: u :: ts) 0 0) m a = _
    rw [lay_mk]
    simp
theorem seqs_trims : ∀ (ts : List Tn), (∀ t ∈ ts, ∀ m a, lay (trim t) m a = lay t m a) → ∀ (m : Mk) (a : Nat), seqs (trims ts) m a = seqs ts m a
  | [], _, m, a => by rw [trims]
  | t :: ts, h, m, a => by
    have ih := seqs_trims ts (fun u hu => h u (by simp [hu]))
    have h1 := h t (by simp)
    rw [trims, seqs]
    split
    · rename_i hk
      rw [← h1, lay_kind1 hk]
      exact ih m a
    · rw [seqs, h1]
      exact ih _ _
theorem alts_trim : ∀ (ts : List Tn), (∀ t ∈ ts, ∀ m a, lay (trim t) m a = lay t m a) → ∀ (m : Mk) (a : Nat) (l : List Nat), alts (trimA ts) m a l = alts ts m a l
  | [], _, m, a, l => by rw [trimA]
  | t :: ts, h, m, a, l => by
    rw [trimA, alts, alts, h t (by simp)]
    exact alts_trim ts (fun u hu => h u (by simp [hu])) _ _ _
/-- TRIMMED, IT LAYS THE SAME. -/
theorem trim_lay : ∀ (z : Nat) (t : Tn), SizeOf.sizeOf t ≤ z → (plc t).2 = true → ∀ (m : Mk) (a : Nat), lay (trim t) m a = lay t m a
  | 0, .mk k s subs mn mx, hz, _ => by simp at hz
  | z + 1, .mk k s subs mn mx, hz, h => fun m a => by
    obtain ⟨hsh, hsub⟩ := plc_subs h
    have ih : ∀ t ∈ subs, ∀ m a, lay (trim t) m a = lay t m a := fun t ht => trim_lay z t (by
      have := List.sizeOf_lt_of_mem ht
      simp at hz
      omega) (hsub t ht)
    rw [trim]
    rcases shp_kind hsh with rfl | rfl | rfl | rfl | rfl | rfl | rfl
    · simp
    · simp
    · rw [if_pos rfl, lay_pack, seqs_trims subs ih, lay_mk]
      simp
    · rw [if_neg (by decide), if_pos rfl, lay_mk, lay_mk]
      simp [alts_trim subs ih]
    · rw [if_neg (by decide), if_neg (by decide), if_pos rfl]
      obtain ⟨h1, ⟨h0, _⟩, hx⟩ := shp_five hsh
      match subs, h1, ih, hsub with
      | [u], _, ih, hsub =>
        have hu := hsub u (by simp)
        have hl : lay (trim u) = lay u := by funext m a; exact ih u (by simp) m a
        have e : lay (.mk 5 s [u] mn mx) m a = timesOf (lay u) (placesOf u) mn mx m a := by rw [lay_mk]; simp [hd]
        rw [trimH, e]
        unfold timesT
        by_cases hm : mx = 0
        · rw [if_pos hm, lay_empty]
          have hn : mn = 0 := by omega
          subst hm hn
          unfold timesOf
          split
          · rfl
          · simp [rounds]
        rw [if_neg hm]
        by_cases hk : kindT (trim u) = 1
        · rw [if_pos (Or.inl hk), lay_kind1 hk]
          have hr : raw u = 0 := by rw [← trim_raw hu]; exact raw_one (trim_plc hu) hk
          unfold timesOf
          rw [if_pos (by rw [places_raw hu, hr]; simp)]
        have hp : placesOf u ≠ 1 := by
          have := trim_lays _ u (Nat.le_refl _) hu hk
          rw [places_raw hu]
          omega
        by_cases h11 : mn = 1 ∧ mx = 1
        · rw [if_pos (Or.inr h11), hl]
          obtain ⟨rfl, rfl⟩ := h11
          unfold timesOf
          rw [if_neg hp]
          simp [rounds]
        · rw [if_neg (by rintro (h | h) <;> contradiction), lay_mk]
          simp only [show ¬ ((5 : Int) = 2 ∨ (5 : Int) = 6 ∨ (5 : Int) = 7) by decide, show ¬ (5 : Int) = 3 by decide, show ¬ (5 : Int) = 4 by decide, if_false, if_true, hd]
          rw [hl, trim_places hu]
    · simp
    · simp
mutual
/-- no repeat of what lays nothing -/
def tidy : Tn → Bool
  | .mk k _ subs _ _ => (decide (k ≠ 5) || decide (placesOf (hd subs) ≠ 1)) && tidys subs
def tidys : List Tn → Bool
  | [] => true
  | t :: ts => tidy t && tidys ts
end
theorem tidys_iff : ∀ ts : List Tn, tidys ts = true ↔ ∀ t ∈ ts, tidy t = true
  | [] => by simp [tidys]
  | t :: ts => by simp [tidys, tidys_iff ts]
theorem tidy_pack : ∀ ts : List Tn, (∀ t ∈ ts, tidy t = true) → tidy (packT ts) = true
  | [], _ => by
    show tidy emptyT = true
    unfold emptyT
    rw [tidy, tidys]
    simp
  | [t], h => h t (by simp)
  | t :: u :: ts, h => by
    show tidy (.mk 3 Oct.none (t :: u :: ts) 0 0) = true
    rw [tidy, (tidys_iff _).2 h]
    simp
theorem trim_tidy : ∀ (z : Nat) (t : Tn), SizeOf.sizeOf t ≤ z → (plc t).2 = true → tidy (trim t) = true
  | 0, .mk k s subs mn mx, hz, _ => by simp at hz
  | z + 1, .mk k s subs mn mx, hz, h => by
    obtain ⟨hsh, hsub⟩ := plc_subs h
    have ih : ∀ t ∈ subs, tidy (trim t) = true := fun t ht => trim_tidy z t (by
      have := List.sizeOf_lt_of_mem ht
      simp at hz
      omega) (hsub t ht)
    have hleaf : (k = 1 ∨ k = 2 ∨ k = 6 ∨ k = 7) → tidy (.mk k s subs mn mx) = true := fun hk => by
      have hn : subs = [] := List.length_eq_zero_iff.1 (shp_leaf hsh hk)
      subst hn
      rw [tidy, tidys]
      simp
      omega
    rw [trim]
    rcases shp_kind hsh with rfl | rfl | rfl | rfl | rfl | rfl | rfl
    · simpa using hleaf (by decide)
    · simpa using hleaf (by decide)
    · rw [if_pos rfl]
      refine tidy_pack _ (fun u hu => ?_)
      obtain ⟨t, ht, rfl, _⟩ := trims_mem hu
      exact ih t ht
    · rw [if_neg (by decide), if_pos rfl, tidy, (tidys_iff _).2 (fun u hu => ?_)]
      · simp
      · rw [trimA_map] at hu
        obtain ⟨t, ht, rfl⟩ := List.mem_map.1 hu
        exact ih t ht
    · rw [if_neg (by decide), if_neg (by decide), if_pos rfl]
      obtain ⟨h1, ⟨h0, _⟩, hx⟩ := shp_five hsh
      match subs, h1, ih, hsub with
      | [u], _, ih, hsub =>
        have hu := hsub u (by simp)
        rw [trimH]
        unfold timesT
        by_cases hm : mx = 0
        · rw [if_pos hm]; exact tidy_pack [] (by simp)
        rw [if_neg hm]
        by_cases hk : kindT (trim u) = 1 ∨ (mn = 1 ∧ mx = 1)
        · rw [if_pos hk]; exact ih u (by simp)
        · rw [if_neg hk, tidy, tidys, tidys]
          have hp : placesOf (trim u) ≠ 1 := by
            have := trim_lays _ u (Nat.le_refl _) hu (fun e => hk (Or.inl e))
            rw [trim_places hu, places_raw hu]
            omega
          simp [hd, hp, ih u (by simp)]
    · simpa using hleaf (by decide)
    · simpa using hleaf (by decide)
end Go.Proofs.Ytjmbimgofceanaa

