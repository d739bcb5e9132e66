/- heronref07's times. -/
import Derived.Test.YtjmbimgofceanaaG27
namespace Go.Proofs.Ytjmbimgofceanaa
open Go.RowKit
attribute [local go_sem ↓] Go.wp_at_zero Go.wp_at_succ

theorem rounds_step {F : Mk → Nat → Mk × Nat} {M j : Nat} (h : j < M) (x : Mk × Nat) : rounds F (M - j) x = rounds F (M - (j + 1)) (F x.1 x.2) := by
  obtain ⟨d, hd⟩ : ∃ d, M - j = d + 1 := ⟨M - j - 1, by omega⟩
  rw [hd, show M - (j + 1) = d by omega, rounds]
theorem tails_step {F : Mk → Nat → Mk × Nat} {M j : Nat} (h : j < M) (x : Mk × Nat) (l : List Nat) : tails F (M - j) x l = tails F (M - (j + 1)) (F x.1 x.2) (l ++ [(F x.1 x.2).2]) := by
  obtain ⟨d, hd⟩ : ∃ d, M - j = d + 1 := ⟨M - j - 1, by omega⟩
  rw [hd, show M - (j + 1) = d by omega, tails]
theorem rowI_one (u : World) (base x : Nat) (hb : base ≤ u.heap.size) : RowI (u.alloc (.cells #[.int .i64 (x : Nat)] 3)) base (.slice (some ⟨u.heap.size, 0, none⟩) 1 1) [x] :=
  ⟨rfl, Or.inr ⟨u.heap.size, 1, _, rfl, hb, heap_alloc_new u _, Nat.le_refl _, by decide, rfl, rfl⟩⟩
set_option maxRecDepth 4000 in
set_option maxHeartbeats 32000000 in
theorem times_any {w0 : World} {s : Oct.S} {u : Tn} {mn mx : Int} {a : Option Addr} {c : Nat} {v : Nd} (hr : RowAt (fun _ => True) w0 a [v]) (hin : InAt w0 u v) (hs : LayOK w0 u v) (hmn : 0 ≤ mn ∧ mn ≤ 255) (hmx : mx = -1 ∨ mn ≤ mx ∧ mx ≤ 255) (w : World) (b0 B : Nat) (m : Mk) (a0 : Nat) (hlow : Below w0.heap.size w0 w) (h0 : w0.heap.size ≤ b0) (hb : b0 ≤ w.heap.size) (hmb : MB w b0 B m) (hS : (timesOf (lay u) (placesOf u) mn mx m a0).1.S ≤ 1000000) (hE : (timesOf (lay u) (placesOf u) mn mx m a0).1.es.length ≤ 1000000) :
    Calls Try.prog 62 #[.pointer (some ⟨B, 0, none⟩), Nd.val ⟨5, s, a, 1, c, mn, mx⟩, .int .i64 (a0 : Nat)] w fun e w' => e = .returned (.int .i64 ((timesOf (lay u) (placesOf u) mn mx m a0).2 : Nat)) ∧ MB w' b0 B (timesOf (lay u) (placesOf u) mn mx m a0).1 ∧ Fm b0 B w w' := by
  obtain ⟨M, rfl⟩ : ∃ M : Nat, mn = (M : Nat) := ⟨mn.toNat, by omega⟩
  obtain ⟨R, hR⟩ : ∃ R, timesOf (lay u) (placesOf u) (M : Nat) mx m a0 = R := ⟨_, rfl⟩
  rw [hR] at hS hE ⊢
  obtain ⟨P, hP⟩ : ∃ P, placesOf u = P := ⟨_, rfl⟩
  rw [hP] at hR
  have HR : Hid (timesOf (lay u) P (M : Nat) mx m a0 = R) := hR
  have HPP : Hid (placesOf u = P) := hP
  obtain ⟨g, off, ha, _⟩ := hr.nth (i := 0) rfl
  subst ha
  have hM : M ≤ 255 := by omega
  have HSM : Hid (Sm w0 b0 B w.heap.size ⟨5, s, some ⟨g, off, none⟩, 1, c, (M : Nat), mx⟩ w (w.alloc (.cells #[.int .i64 5, .int .u64 (Oct.word s 0 : Nat), .int .u64 (Oct.word s 1 : Nat), .int .u64 (Oct.word s 2 : Nat), .int .u64 (Oct.word s 3 : Nat), .slice (some ⟨g, off, none⟩) 1 c, .int .i64 (M : Nat), .int .i64 mx] 30)) m) := sm_start w0 ⟨5, s, some ⟨g, off, none⟩, 1, c, (M : Nat), mx⟩ hmb hlow hb h0
  obtain ⟨w1, hw1⟩ : ∃ w1, w.alloc (.cells #[.int .i64 5, .int .u64 (Oct.word s 0 : Nat), .int .u64 (Oct.word s 1 : Nat), .int .u64 (Oct.word s 2 : Nat), .int .u64 (Oct.word s 3 : Nat), .slice (some ⟨g, off, none⟩) 1 c, .int .i64 (M : Nat), .int .i64 mx] 30) = w1 := ⟨_, rfl⟩
  rw [hw1] at HSM
  obtain ⟨A, hA⟩ : ∃ A, w.heap.size = A := ⟨_, rfl⟩
  rw [hA] at HSM
  have HW1 : Hid (w.alloc (.cells #[.int .i64 5, .int .u64 (Oct.word s 0 : Nat), .int .u64 (Oct.word s 1 : Nat), .int .u64 (Oct.word s 2 : Nat), .int .u64 (Oct.word s 3 : Nat), .slice (some ⟨g, off, none⟩) 1 c, .int .i64 (M : Nat), .int .i64 mx] 30) = w1) := hw1
  have HAA : Hid (w.heap.size = A) := hA
  have HLO : Hid (LayOK w0 u v) := hs
  have HIN : Hid (InAt w0 u v) := hin
  have HRO : Hid (RowAt (fun _ => True) w0 (some ⟨g, off, none⟩) [v]) := hr
  have HB : Hid (b0 ≤ w.heap.size) := hb
  have H0 : Hid (w0.heap.size ≤ b0) := h0
  have HBS : Hid (R.1.S ≤ 1000000 ∧ R.1.es.length ≤ 1000000) := ⟨hS, hE⟩
  have HMX : Hid (mx = -1 ∨ ((M : Nat) : Int) ≤ mx ∧ mx ≤ 255) := hmx
  clear hw1 hA hs hr hb h0 hS hE hlow hmb hR hP hin hmn hmx
  obtain ⟨y0, y1, y2, y3, y4, y5, y6, y7⟩ := HSM.out.nb.cells
  simp only at y0 y1 y2 y3 y4 y5 y6 y7
  unfold Nd.val
  simp only
  go_enter Try.func62, Try.ntmps62
  go_upto_region 1 with fail
  rw [HW1.out, HAA.out]
  clear HW1
  have hrow := (HRO.out.keep (w' := w1) (Y := fun _ => True) (fun _ _ _ => trivial) (fun b hb hlt => HSM.out.low.block b hlt)).nth (i := 0) rfl
  obtain ⟨g', off', hgo, e0, e1, e2, e3, e4, e5, e6, e7⟩ := hrow
  cases hgo
  simp only [Nat.zero_mul, Nat.add_zero] at e0 e1 e2 e3 e4 e5 e6 e7
  have HCP : Hid (Calls Try.prog 38 #[v.val] w1 _) := rPlaces_any w1 (HIN.out.later HSM.out.low)
  rw [HPP.out] at HCP
  unfold Nd.val at HCP
  go_wp2_with fail
  refine HCP.out.mono ?_
  rintro e w2 ⟨rfl, kk⟩
  have HS2 : Hid (Sm w0 b0 B A ⟨5, s, some ⟨g, off, none⟩, 1, c, (M : Nat), mx⟩ w w2 m) := HSM.out.later kk
  clear kk HSM HCP HIN y0 y1 y2 y3 y4 y5 y6 y7 e0 e1 e2 e3 e4 e5 e6 e7
  by_cases hp : P = 1
  · subst hp
    have HE : Hid (R = (m, a0)) := by show _ = _; rw [← HR.out]; unfold timesOf; rw [if_pos rfl]
    go_wp2
    go_ret
    rw [HE.out]
    exact ⟨rfl, HS2.out.mb, HS2.out.fm⟩
  have hp' : ¬ (P : Int) = 1 := by omega
  have hpd : decide ((P : Int) = 1) = false := decide_eq_false hp'
  have hpe : ((P : Int) == 1) = false := by simp [hp']
  obtain ⟨C, hC⟩ : ∃ C, rounds (lay u) M (m, a0) = C := ⟨_, rfl⟩
  have HRC : Hid (R = if mx = -1 then again (lay u) C else if mx = (M : Nat) then C else joint (tails (lay u) (mx - (M : Nat)).toNat C [C.2])) := by
    show _ = _
    rw [← HR.out]
    unfold timesOf
    rw [if_neg hp, Int.toNat_natCast, hC]
  have HCR : Hid (C.1.le R.1) := by
    rw [HRC.out]
    split
    · exact again_le (lay_le u) C
    · split
      · exact .refl _
      · exact (tails_le (lay_le u) _ _ _).trans (joint_le _)
  have HC0 : Hid (rounds (lay u) (M - 0) (m, a0) = C) := hC
  clear hC HR HPP
  obtain ⟨y0, y1, y2, y3, y4, y5, y6, y7⟩ := HS2.out.nb.cells
  simp only at y0 y1 y2 y3 y4 y5 y6 y7
  go_wp2_with fail
  clear y0 y1 y2 y3 y4 y5 y6 y7
  go_loopw [2, 7] (fun va i q => ∃ (j : Nat) (m' : Mk) (a' : Nat), va = .int .i64 (a' : Nat) ∧ i = .int .i64 (j : Nat) ∧ j ≤ M ∧ Hid (rounds (lay u) (M - j) (m', a') = C) ∧ Hid (Sm w0 b0 B A ⟨5, s, some ⟨g, off, none⟩, 1, c, (M : Nat), mx⟩ w q m')) (fun _ i _ => M - (intOf i).toNat)
  case atStart => exact ⟨0, m, a0, rfl, rfl, Nat.zero_le _, HC0, HS2⟩
  case round =>
    clear HS2 HC0
    obtain ⟨j, m', a', rfl, rfl, hjn, HRj, HSj⟩ := hrel
    obtain ⟨y0, y1, y2, y3, y4, y5, y6, y7⟩ := HSj.out.nb.cells
    simp only at y0 y1 y2 y3 y4 y5 y6 y7
    by_cases hlt : j < M
    · have hlt' : (j : Int) < (M : Int) := by omega
      have hrow := (HRO.out.keep (w' := wr) (Y := fun _ => True) (fun _ _ _ => trivial) (fun b hb hlt => HSj.out.low.block b hlt)).nth (i := 0) rfl
      obtain ⟨g', off', hgo, e0, e1, e2, e3, e4, e5, e6, e7⟩ := hrow
      cases hgo
      simp only [Nat.zero_mul, Nat.add_zero] at e0 e1 e2 e3 e4 e5 e6 e7
      have HRn : Hid (rounds (lay u) (M - (j + 1)) (lay u m' a') = C) := (rounds_step hlt (m', a')).symm.trans HRj.out
      have HLE : Hid ((lay u m' a').1.le R.1) := by have h1 := rounds_le (lay_le u) (M - (j + 1)) (lay u m' a'); rw [HRn.out] at h1; exact h1.trans HCR.out
      have HC : Hid (Calls Try.prog 39 #[.pointer (some ⟨B, 0, none⟩), v.val, .int .i64 (a' : Nat)] wr _) := HLO.out wr b0 B m' a' HSj.out.low H0.out HSj.out.sz HSj.out.mb (Nat.le_trans HLE.out.1 HBS.out.1) (Nat.le_trans HLE.out.2 HBS.out.2)
      obtain ⟨r, hr⟩ : ∃ r, lay u m' a' = r := ⟨_, rfl⟩
      have HRR : Hid (lay u m' a' = r) := hr
      rw [hr] at HC
      clear hr HLE
      unfold Nd.val at HC
      go_wp2_with fail
      refine HC.out.mono ?_
      rintro e w4 ⟨rfl, h4, f4⟩
      have HS4 : Hid (Sm w0 b0 B A ⟨5, s, some ⟨g, off, none⟩, 1, c, (M : Nat), mx⟩ w w4 r.1) := HSj.out.call h4 f4
      rw [HRR.out] at HRn
      clear h4 f4 HC HSj HRR HRj e0 e1 e2 e3 e4 e5 e6 e7 y0 y1 y2 y3 y4 y5 y6 y7
      go_wp2
      go_roundw
      case rel => exact ⟨j + 1, r.1, r.2, rfl, by go_num, by omega, HRn, HS4⟩
      case measure => simp [intOf]; omega
    · have hlt' : ¬ (j : Int) < (M : Int) := by omega
      have hCe : C = (m', a') := by
        have h1 := HRj.out
        rw [show M - j = 0 by omega, rounds] at h1
        exact h1.symm
      subst hCe
      clear HRj
      rcases HMX.out with hx | hx
      · subst hx
        have HRE : Hid (R = again (lay u) (m', a')) := by show _ = _; rw [HRC.out, if_pos rfl]
        clear HRC
        obtain ⟨q, hq⟩ : ∃ q, m'.st.fr a' m'.S = q := ⟨_, rfl⟩
        have HQ : Hid (m'.st.fr a' m'.S = q) := hq
        have HRA : Hid (R = ((((lay u q m'.S).1.fr (lay u q m'.S).2 m'.S).st).fr m'.S (lay u q m'.S).1.S, (lay u q m'.S).1.S)) := by show _ = _; rw [HRE.out]; unfold again; rw [hq]
        have HLQ : Hid ((lay u q m'.S).1.le R.1) := by rw [HRA.out]; exact (Mk.le_fr _ _ _).trans ((Mk.le_st _).trans (Mk.le_fr _ _ _))
        have HL0 : Hid (q.le (lay u q m'.S).1) := lay_le u _ _
        have hS : m'.S + 1 ≤ 1000000 := by have h1 := Nat.le_trans (Nat.le_trans HL0.out.1 HLQ.out.1) HBS.out.1; rw [← hq] at h1; exact h1
        have hE : m'.es.length + 1 ≤ 1000000 := by have h1 := Nat.le_trans (Nat.le_trans HL0.out.2 HLQ.out.2) HBS.out.2; rw [← hq] at h1; simpa [Mk.st, Mk.fr, Mk.ed] using h1
        clear hq HRE
        go_wp2_with fail
        refine (state_any B b0 m' wr HSj.out.mb (by omega)).mono ?_
        rintro e w2 ⟨rfl, h2, f2⟩
        have HS2 : Hid (Sm w0 b0 B A ⟨5, s, some ⟨g, off, none⟩, 1, c, (M : Nat), -1⟩ w w2 m'.st) := HSj.out.call h2 f2
        clear h2 f2 HSj y0 y1 y2 y3 y4 y5 y6 y7
        go_wp2_with fail
        refine (free_any B b0 m'.st a' m'.S w2 HS2.out.mb HS2.out.sz (by show m'.es.length ≤ _; omega)).mono ?_
        rintro e w3 ⟨rfl, h3, f3⟩
        rw [HQ.out] at h3
        have HS3 : Hid (Sm w0 b0 B A ⟨5, s, some ⟨g, off, none⟩, 1, c, (M : Nat), -1⟩ w w3 q) := HS2.out.call h3 f3
        clear h3 f3 HS2
        obtain ⟨y0, y1, y2, y3, y4, y5, y6, y7⟩ := HS3.out.nb.cells
        simp only at y0 y1 y2 y3 y4 y5 y6 y7
        have hrow := (HRO.out.keep (w' := w3) (Y := fun _ => True) (fun _ _ _ => trivial) (fun b hb hlt => HS3.out.low.block b hlt)).nth (i := 0) rfl
        obtain ⟨g', off', hgo, e0, e1, e2, e3, e4, e5, e6, e7⟩ := hrow
        cases hgo
        simp only [Nat.zero_mul, Nat.add_zero] at e0 e1 e2 e3 e4 e5 e6 e7
        have HLE : Hid ((lay u q m'.S).1.le R.1) := HLQ.out
        have HC : Hid (Calls Try.prog 39 #[.pointer (some ⟨B, 0, none⟩), v.val, .int .i64 (m'.S : Nat)] w3 _) := HLO.out w3 b0 B q m'.S HS3.out.low H0.out HS3.out.sz HS3.out.mb (Nat.le_trans HLE.out.1 HBS.out.1) (Nat.le_trans HLE.out.2 HBS.out.2)
        obtain ⟨r, hr⟩ : ∃ r, lay u q m'.S = r := ⟨_, rfl⟩
        have HRR : Hid (lay u q m'.S = r) := hr
        rw [hr] at HC
        clear hr HLE
        unfold Nd.val at HC
        go_wp2_with fail
        refine HC.out.mono ?_
        rintro e w4 ⟨rfl, h4, f4⟩
        have HS4 : Hid (Sm w0 b0 B A ⟨5, s, some ⟨g, off, none⟩, 1, c, (M : Nat), -1⟩ w w4 r.1) := HS3.out.call h4 f4
        rw [HRR.out] at HRA
        have hS2 : r.1.S + 1 ≤ 1000000 := by have h1 := HBS.out.1; rw [HRA.out] at h1; exact h1
        have hE2 : r.1.es.length + 2 ≤ 1000000 := by have h1 := HBS.out.2; rw [HRA.out] at h1; simp [Mk.fr, Mk.ed, Mk.st] at h1; omega
        clear h4 f4 HC HS3 HRR HLQ HL0 HQ e0 e1 e2 e3 e4 e5 e6 e7 y0 y1 y2 y3 y4 y5 y6 y7
        go_wp2_with fail
        refine (free_any B b0 r.1 r.2 m'.S w4 HS4.out.mb HS4.out.sz (by omega)).mono ?_
        rintro e w5 ⟨rfl, h5, f5⟩
        have HS5 : Hid (Sm w0 b0 B A ⟨5, s, some ⟨g, off, none⟩, 1, c, (M : Nat), -1⟩ w w5 (r.1.fr r.2 m'.S)) := HS4.out.call h5 f5
        clear h5 f5 HS4
        go_wp2_with fail
        refine (state_any B b0 (r.1.fr r.2 m'.S) w5 HS5.out.mb (by show r.1.S ≤ _; omega)).mono ?_
        rintro e w6 ⟨rfl, h6, f6⟩
        have HS6 : Hid (Sm w0 b0 B A ⟨5, s, some ⟨g, off, none⟩, 1, c, (M : Nat), -1⟩ w w6 (r.1.fr r.2 m'.S).st) := HS5.out.call h6 f6
        clear h6 f6 HS5
        have hfs : (r.1.fr r.2 m'.S).S = r.1.S := rfl
        rw [hfs]
        go_wp2_with fail
        refine (free_any B b0 (r.1.fr r.2 m'.S).st m'.S r.1.S w6 HS6.out.mb HS6.out.sz (by simp [Mk.fr, Mk.ed, Mk.st]; omega)).mono ?_
        rintro e w7 ⟨rfl, h7, f7⟩
        have HS7 : Hid (Sm w0 b0 B A ⟨5, s, some ⟨g, off, none⟩, 1, c, (M : Nat), -1⟩ w w7 ((r.1.fr r.2 m'.S).st.fr m'.S r.1.S)) := HS6.out.call h7 f7
        clear h7 f7 HS6
        go_wp2
        go_ret
        rw [HRA.out]
        exact ⟨rfl, HS7.out.mb, HS7.out.fm⟩
      · obtain ⟨X, rfl⟩ : ∃ X : Nat, mx = (X : Nat) := ⟨mx.toNat, by omega⟩
        have hX1 : ¬ ((X : Nat) : Int) = -1 := by omega
        have hX2 : X ≤ 255 := by omega
        by_cases hXM : X = M
        · subst hXM
          have HRE : Hid (R = (m', a')) := by show _ = _; rw [HRC.out, if_neg hX1, if_pos rfl]
          go_wp2
          go_ret
          rw [HRE.out]
          exact ⟨rfl, HSj.out.mb, HSj.out.fm⟩
        have hXM' : ¬ ((X : Nat) : Int) = ((M : Nat) : Int) := by omega
        have HRE : Hid (R = joint (tails (lay u) (X - M - 0) (m', a') [a'])) := by
          show _ = _
          rw [HRC.out, if_neg hX1, if_neg hXM']
          congr 2
          omega
        clear HRC
        have kk : Below wr.heap.size wr (wr.alloc (.cells #[.int .i64 (a' : Nat)] 3)) := (Below.refl _ _).alloc (Nat.le_refl _) _
        have HS2 : Hid (Sm w0 b0 B A ⟨5, s, some ⟨g, off, none⟩, 1, c, (M : Nat), (X : Nat)⟩ w (wr.alloc (.cells #[.int .i64 (a' : Nat)] 3)) m') := HSj.out.later kk
        have HI2 : Hid (RowI (wr.alloc (.cells #[.int .i64 (a' : Nat)] 3)) w.heap.size (.slice (some ⟨wr.heap.size, 0, none⟩) 1 1) [a']) := rowI_one wr w.heap.size a' HSj.out.fm.size
        have hle : M ≤ X := by omega
        clear kk
        go_upto_region 18 with fail
        obtain ⟨w2, hw2⟩ : ∃ w2, wr.alloc (.cells #[.int .i64 (a' : Nat)] 3) = w2 := ⟨_, rfl⟩
        rw [hw2] at HS2 HI2 ⊢
        clear hw2 HSj y0 y1 y2 y3 y4 y5 y6 y7
        obtain ⟨y0, y1, y2, y3, y4, y5, y6, y7⟩ := HS2.out.nb.cells
        simp only at y0 y1 y2 y3 y4 y5 y6 y7
        go_wp2_with fail
        clear y0 y1 y2 y3 y4 y5 y6 y7
        go_loopw [2, 11, 12] (fun va ve i q => ∃ (j : Nat) (m' : Mk) (a' : Nat) (l : List Nat), va = .int .i64 (a' : Nat) ∧ i = .int .i64 ((M + j : Nat) : Int) ∧ M + j ≤ X ∧ Hid (l.length = j + 1) ∧ Hid (R = joint (tails (lay u) (X - M - j) (m', a') l)) ∧ Hid (RowI q w.heap.size ve l) ∧ Hid (Sm w0 b0 B A ⟨5, s, some ⟨g, off, none⟩, 1, c, (M : Nat), (X : Nat)⟩ w q m')) (fun _ _ i _ => X - (intOf i).toNat)
        case atStart => exact ⟨0, m', a', [a'], rfl, rfl, by omega, rfl, HRE, HI2, HS2⟩
        case round =>
          clear HS2 HI2 HRE
          obtain ⟨j, m', a', l, rfl, rfl, hjn, HLJ, HRj, HIj, HSj⟩ := hrel
          obtain ⟨I, hI⟩ : ∃ I, M + j = I := ⟨_, rfl⟩
          have HII : Hid (M + j = I) := hI
          rw [hI] at hjn ⊢
          clear hI
          obtain ⟨y0, y1, y2, y3, y4, y5, y6, y7⟩ := HSj.out.nb.cells
          simp only at y0 y1 y2 y3 y4 y5 y6 y7
          by_cases hlt : I < X
          · have hlt' : (I : Int) < (X : Int) := by omega
            have hrow := (HRO.out.keep (w' := wr) (Y := fun _ => True) (fun _ _ _ => trivial) (fun b hb hlt => HSj.out.low.block b hlt)).nth (i := 0) rfl
            obtain ⟨g', off', hgo, e0, e1, e2, e3, e4, e5, e6, e7⟩ := hrow
            cases hgo
            simp only [Nat.zero_mul, Nat.add_zero] at e0 e1 e2 e3 e4 e5 e6 e7
            have HRn : Hid (R = joint (tails (lay u) (X - M - (j + 1)) (lay u m' a') (l ++ [(lay u m' a').2]))) := by
              show _ = _
              rw [HRj.out, tails_step (F := lay u) (M := X - M) (j := j) (by have := HII.out; omega) (m', a') l]
            have HLE : Hid ((lay u m' a').1.le R.1) := by have h1 := (tails_le (lay_le u) (X - M - (j + 1)) (lay u m' a') (l ++ [(lay u m' a').2])).trans (joint_le _); rw [← HRn.out] at h1; exact h1
            have HC : Hid (Calls Try.prog 39 #[.pointer (some ⟨B, 0, none⟩), v.val, .int .i64 (a' : Nat)] wr _) := HLO.out wr b0 B m' a' HSj.out.low H0.out HSj.out.sz HSj.out.mb (Nat.le_trans HLE.out.1 HBS.out.1) (Nat.le_trans HLE.out.2 HBS.out.2)
            obtain ⟨r, hr⟩ : ∃ r, lay u m' a' = r := ⟨_, rfl⟩
            have HRR : Hid (lay u m' a' = r) := hr
            rw [hr] at HC
            clear hr HLE
            unfold Nd.val at HC
            go_wp2_with fail
            refine HC.out.mono ?_
            rintro e w4 ⟨rfl, h4, f4⟩
            have HS4 : Hid (Sm w0 b0 B A ⟨5, s, some ⟨g, off, none⟩, 1, c, (M : Nat), (X : Nat)⟩ w w4 r.1) := HSj.out.call h4 f4
            rw [HRR.out] at HRn
            have HI4 : Hid (RowI w4 w.heap.size u11 l) := HIj.out.fm HSj.out.mb f4
            clear h4 f4 HC HSj HIj HRR HRj e0 e1 e2 e3 e4 e5 e6 e7 y0 y1 y2 y3 y4 y5 y6 y7
            have kk : Below w4.heap.size w4 (w4.alloc (.cells #[.int .i64 (r.2 : Nat)] 3)) := (Below.refl _ _).alloc (Nat.le_refl _) _
            have HS5 : Hid (Sm w0 b0 B A ⟨5, s, some ⟨g, off, none⟩, 1, c, (M : Nat), (X : Nat)⟩ w (w4.alloc (.cells #[.int .i64 (r.2 : Nat)] 3)) r.1) := HS4.out.later kk
            have HI5 : Hid (RowI (w4.alloc (.cells #[.int .i64 (r.2 : Nat)] 3)) w.heap.size u11 l) := HI4.out.keep (fun b _ hlt _ => kk.block b hlt)
            have HC5 : Hid ((w4.alloc (.cells #[.int .i64 (r.2 : Nat)] 3)).cell? ⟨w4.heap.size, 0, none⟩ = some (.int .i64 (r.2 : Nat))) := by show _ = _; rw [World.cell?_alloc_mark]; rfl
            have HLQ2 : Hid (l.length ≤ 2000000) := by have := HLJ.out; have := HII.out; show _ ≤ _; omega
            have HZ5 : Hid (w.heap.size ≤ (w4.alloc (.cells #[.int .i64 (r.2 : Nat)] 3)).heap.size) := HS5.out.fm.size
            clear kk
            go_wp2_with (at_builtin; go_must (refine wpList_append_int rfl _ _ rfl w.heap.size _ l rfl HI5.out ⟨w4.heap.size, 0, none⟩ 1 r.2 rfl HC5.out HLQ2.out HZ5.out ?_; intro g' cap' w6 hn6 hg6; have HI6 : Hid (RowI w6 w.heap.size _ (l ++ [r.2])) := hn6; have HG6 : Hid ((w4.alloc (.cells #[.int .i64 (r.2 : Nat)] 3)).grownBy w6 u11.ownBlock) := hg6; clear hn6 hg6))
            have HS6 : Hid (Sm w0 b0 B A ⟨5, s, some ⟨g, off, none⟩, 1, c, (M : Nat), (X : Nat)⟩ w w6 r.1) := HS5.out.own HG6.out (HI5.out.ty) HB.out
            go_roundw
            case rel => exact ⟨j + 1, r.1, r.2, l ++ [r.2], rfl, (by have := HII.out; go_num), by have := HII.out; omega, (by have := HLJ.out; show _ = _; simp; omega), HRn, HI6, HS6⟩
            case measure => simp [intOf]; omega
          · have hlt' : ¬ (I : Int) < (X : Int) := by omega
            have HRF : Hid (R = joint (m', l)) := by
              show _ = _
              rw [HRj.out, show X - M - j = 0 by have := HII.out; omega, tails]
            have hlen : l.length ≤ 2000000 := by have := HLJ.out; have := HII.out; omega
            clear HRj HLO HRO
            have HR1 : Hid (frees l m'.S m'.st = R.1 ∧ R.2 = m'.S) := by rw [HRF.out]; exact ⟨rfl, rfl⟩
            have hgr : m'.S + 1 ≤ 1000000 := by
              have h1 := (frees_le l m'.S m'.st).1
              rw [HR1.out.1] at h1
              exact Nat.le_trans h1 HBS.out.1
            obtain ⟨oa, oc, hV, hlc, hcm⟩ := HIj.out.form
            subst hV
            obtain ⟨N, hN⟩ : ∃ N, l.length = N := ⟨_, rfl⟩
            rw [hN] at HIj hlc
            have HNN : Hid (l.length = N) := hN
            have hN2 : N ≤ 2000000 := by omega
            simp only [maxLen] at hcm
            rw [hN]
            clear hN hlen
            go_wp2_with fail
            refine (state_any B b0 m' wr HSj.out.mb (by omega)).mono ?_
            rintro e w2 ⟨rfl, h2, f2⟩
            have HS2 : Hid (Sm w0 b0 B A ⟨5, s, some ⟨g, off, none⟩, 1, c, (M : Nat), (X : Nat)⟩ w w2 m'.st) := HSj.out.call h2 f2
            have HI2 : Hid (RowI w2 w.heap.size (.slice oa N oc) l) := HIj.out.fm HSj.out.mb f2
            clear h2 f2 HSj HIj y0 y1 y2 y3 y4 y5 y6 y7
            go_wp2_with fail
            go_loopw [14] (fun i u => ∃ (j2 : Nat) (m3 : Mk), i = .int .i64 (j2 : Nat) ∧ j2 ≤ N ∧ Hid (frees (l.drop j2) m'.S m3 = R.1) ∧ Hid (RowI u w.heap.size (.slice oa N oc) l) ∧ Hid (Sm w0 b0 B A ⟨5, s, some ⟨g, off, none⟩, 1, c, (M : Nat), (X : Nat)⟩ w u m3)) (fun i _ => N - (intOf i).toNat)
            case atStart => exact ⟨0, m'.st, rfl, Nat.zero_le _, HR1.out.1, HI2, HS2⟩
            case round =>
              clear HS2 HI2
              obtain ⟨j2, m3, rfl, hj2, HR3, HI3, HS3⟩ := hrel
              by_cases hlt2 : j2 < N
              · have hlt2' : (j2 : Int) < (N : Int) := by omega
                obtain ⟨x, hx⟩ : ∃ x, l[j2]? = some x := ⟨_, List.getElem?_eq_getElem (by rw [HNN.out]; exact hlt2)⟩
                obtain ⟨g2, hg2, hc2⟩ := HI3.out.at hx
                subst hg2
                have HR4 : Hid (frees (l.drop (j2 + 1)) m'.S (m3.fr x m'.S) = R.1) := (frees_step hx m'.S m3).symm.trans HR3.out
                have hge : m3.es.length + 1 ≤ 1000000 := by
                  have h1 := (frees_le (l.drop (j2 + 1)) m'.S (m3.fr x m'.S)).2
                  rw [HR4.out] at h1
                  have h2 := Nat.le_trans h1 HBS.out.2
                  simpa [Mk.fr, Mk.ed] using h2
                clear hx
                go_wp2_with fail
                refine (free_any B b0 m3 x m'.S wr HS3.out.mb HS3.out.sz (by omega)).mono ?_
                rintro e w4 ⟨rfl, h4, f4⟩
                have HS4 : Hid (Sm w0 b0 B A ⟨5, s, some ⟨g, off, none⟩, 1, c, (M : Nat), (X : Nat)⟩ w w4 (m3.fr x m'.S)) := HS3.out.call h4 f4
                have HI4 : Hid (RowI w4 w.heap.size (.slice (some ⟨g2, 0, none⟩) N oc) l) := HI3.out.fm HS3.out.mb f4
                clear h4 f4 HS3 HI3 hc2
                go_wp2
                go_roundw
                case rel => exact ⟨j2 + 1, m3.fr x m'.S, by go_num, by omega, HR4, HI4, HS4⟩
                case measure => simp [intOf]; omega
              · have hlt2' : ¬ (j2 : Int) < (N : Int) := by omega
                have HE : Hid (R.1 = m3) := by
                  show _ = _
                  rw [← HR3.out, List.drop_of_length_le (by rw [HNN.out]; omega), frees]
                have HM : Hid (MB wr b0 B m3 ∧ Fm b0 B w wr) := ⟨HS3.out.mb, HS3.out.fm⟩
                clear HR3
                go_wp2
                go_ret
                rw [HE.out, HR1.out.2]
                exact ⟨rfl, HM.out.1, HM.out.2⟩
end Go.Proofs.Ytjmbimgofceanaa
