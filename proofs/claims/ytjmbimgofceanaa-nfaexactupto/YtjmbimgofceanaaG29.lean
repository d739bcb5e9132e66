/- heronref07's lay of alternatives. -/
import Derived.Test.YtjmbimgofceanaaG27
import Derived.Test.YtjmbimgofceanaaG28
namespace Go.Proofs.Ytjmbimgofceanaa
open Go.RowKit
attribute [local go_sem ↓] Go.wp_at_zero Go.wp_at_succ

theorem alts_step {ts : List Tn} {i : Nat} {t : Tn} (h : ts[i]? = some t) (m : Mk) (a : Nat) (l : List Nat) : alts (ts.drop i) m a l = alts (ts.drop (i + 1)) (lay t (m.st.fr a m.S) m.S).1 a (l ++ [(lay t (m.st.fr a m.S) m.S).2]) := by
  have hlt := (List.getElem?_eq_some_iff.1 h).1
  rw [List.drop_eq_getElem_cons hlt, (List.getElem?_eq_some_iff.1 h).2, alts]
set_option maxRecDepth 4000 in
set_option maxHeartbeats 16000000 in
theorem lay_alt {w0 : World} {s : Oct.S} {subs : List Tn} {mn mx : Int} {a : Option Addr} {n c : Nat} {vs : List Nd} (hn : n = subs.length) (hl : vs.length = n) (hm : n ≤ 1000000) (hr : RowAt (fun _ => True) w0 a vs) (hs : ∀ (i : Nat) (t : Tn) (v : Nd), subs[i]? = some t → vs[i]? = some v → LayOK w0 t v) : LayOK w0 (.mk 4 s subs mn mx) ⟨4, s, a, n, c, mn, mx⟩ := by
  intro w b0 B m a0 hlow h0 hb hmb hS hE
  obtain ⟨R, hR⟩ : ∃ R, lay (.mk 4 s subs mn mx) m a0 = R := ⟨_, rfl⟩
  rw [hR] at hS hE ⊢
  have HR : Hid (joint (alts subs m a0 []) = R) := by show _ = _; rw [← hR, lay_mk]; simp
  have HSM : Hid (Sm w0 b0 B w.heap.size ⟨4, s, a, n, c, mn, mx⟩ w (w.alloc (.cells #[.int .i64 4, .int .u64 (Oct.word s 0 : Nat), .int .u64 (Oct.word s 1 : Nat), .int .u64 (Oct.word s 2 : Nat), .int .u64 (Oct.word s 3 : Nat), .slice a n c, .int .i64 mn, .int .i64 mx] 30)) m) := sm_start w0 ⟨4, s, a, n, c, mn, mx⟩ hmb hlow hb h0
  obtain ⟨w1, hw1⟩ : ∃ w1, w.alloc (.cells #[.int .i64 4, .int .u64 (Oct.word s 0 : Nat), .int .u64 (Oct.word s 1 : Nat), .int .u64 (Oct.word s 2 : Nat), .int .u64 (Oct.word s 3 : Nat), .slice a n c, .int .i64 mn, .int .i64 mx] 30) = w1 := ⟨_, rfl⟩
  rw [hw1] at HSM
  obtain ⟨A, hA⟩ : ∃ A, w.heap.size = A := ⟨_, rfl⟩
  rw [hA] at HSM
  have HW1 : Hid (w.alloc (.cells #[.int .i64 4, .int .u64 (Oct.word s 0 : Nat), .int .u64 (Oct.word s 1 : Nat), .int .u64 (Oct.word s 2 : Nat), .int .u64 (Oct.word s 3 : Nat), .slice a n c, .int .i64 mn, .int .i64 mx] 30) = w1) := hw1
  have HAA : Hid (w.heap.size = A) := hA
  have HIH : Hid (∀ (i : Nat) (t : Tn) (v : Nd), subs[i]? = some t → vs[i]? = some v → LayOK w0 t v) := hs
  have HRO : Hid (RowAt (fun _ => True) w0 a vs) := hr
  have HN : Hid (n = subs.length) := hn
  have HL : Hid (vs.length = n) := hl
  have HB : Hid (b0 ≤ w.heap.size) := hb
  have H0 : Hid (w0.heap.size ≤ b0) := h0
  have HBS : Hid (R.1.S ≤ 1000000 ∧ R.1.es.length ≤ 1000000) := ⟨hS, hE⟩
  have HM0 : Hid (n ≤ 1000000) := hm
  clear hw1 hA hs hr hn hl hb h0 hS hE hlow hmb hR
  obtain ⟨y0, y1, y2, y3, y4, y5, y6, y7⟩ := HSM.out.nb.cells
  simp only at y0 y1 y2 y3 y4 y5 y6 y7
  unfold Nd.val
  simp only
  go_enter Try.func39, Try.ntmps39
  go_upto_region 1 with fail
  rw [HW1.out, HAA.out]
  clear HW1
  go_wp2_with fail
  clear y0 y1 y2 y3 y4 y5 y6 y7
  go_loopw [10, 11] (fun ve i u => ∃ (j : Nat) (m' : Mk) (l : List Nat), i = .int .i64 (j : Nat) ∧ j ≤ n ∧ Hid (l.length = j) ∧ Hid (joint (alts (subs.drop j) m' a0 l) = R) ∧ Hid (RowI u w.heap.size ve l) ∧ Hid (Sm w0 b0 B A ⟨4, s, a, n, c, mn, mx⟩ w u m')) (fun _ i _ => n - (intOf i).toNat)
  case atStart => exact ⟨0, m, [], rfl, Nat.zero_le _, rfl, HR, rowI_nil _ _, HSM⟩
  case round =>
    clear HSM HR
    obtain ⟨j, m', l, rfl, hjn, HLJ, HRj, HIj, HSj⟩ := hrel
    obtain ⟨y0, y1, y2, y3, y4, y5, y6, y7⟩ := HSj.out.nb.cells
    simp only at y0 y1 y2 y3 y4 y5 y6 y7
    by_cases hlt : j < n
    · have hlt' : (j : Int) < (n : Int) := by omega
      obtain ⟨t, ht⟩ : ∃ t, subs[j]? = some t := ⟨_, List.getElem?_eq_getElem (by rw [← HN.out]; exact hlt)⟩
      obtain ⟨v, hv⟩ : ∃ v, vs[j]? = some v := ⟨_, List.getElem?_eq_getElem (by rw [HL.out]; exact hlt)⟩
      have HT : Hid (subs[j]? = some t ∧ vs[j]? = some v) := ⟨ht, hv⟩
      clear ht hv
      have HRn : Hid (joint (alts (subs.drop (j + 1)) (lay t (m'.st.fr a0 m'.S) m'.S).1 a0 (l ++ [(lay t (m'.st.fr a0 m'.S) m'.S).2])) = R) := by show _ = _; rw [← alts_step HT.out.1]; exact HRj.out
      have HLE : Hid ((lay t (m'.st.fr a0 m'.S) m'.S).1.le R.1) := by rw [← HRn.out]; exact (alts_le _ _ _ _).trans (joint_le _)
      have HLQ : Hid ((m'.st.fr a0 m'.S).le (lay t (m'.st.fr a0 m'.S) m'.S).1) := lay_le t _ _
      have hS : m'.S + 1 ≤ 1000000 := Nat.le_trans (Nat.le_trans HLQ.out.1 HLE.out.1) HBS.out.1
      have hE : m'.es.length + 1 ≤ 1000000 := by have := Nat.le_trans (Nat.le_trans HLQ.out.2 HLE.out.2) HBS.out.2; simpa [Mk.st, Mk.fr, Mk.ed] using this
      go_wp2_with fail
      refine (state_any B b0 m' wr HSj.out.mb (by omega)).mono ?_
      rintro e w2 ⟨rfl, h2, f2⟩
      have HS2 : Hid (Sm w0 b0 B A ⟨4, s, a, n, c, mn, mx⟩ w w2 m'.st) := HSj.out.call h2 f2
      have HI2 : Hid (RowI w2 w.heap.size u10 l) := HIj.out.fm HSj.out.mb f2
      clear h2 f2 HSj HIj HRj y0 y1 y2 y3 y4 y5 y6 y7
      go_wp2_with fail
      refine (free_any B b0 m'.st a0 m'.S w2 HS2.out.mb HS2.out.sz (by show m'.es.length ≤ _; omega)).mono ?_
      rintro e w3 ⟨rfl, h3, f3⟩
      have HS3 : Hid (Sm w0 b0 B A ⟨4, s, a, n, c, mn, mx⟩ w w3 (m'.st.fr a0 m'.S)) := HS2.out.call h3 f3
      have HI3 : Hid (RowI w3 w.heap.size u10 l) := HI2.out.fm HS2.out.mb f3
      clear h3 f3 HS2 HI2
      obtain ⟨y0, y1, y2, y3, y4, y5, y6, y7⟩ := HS3.out.nb.cells
      simp only at y0 y1 y2 y3 y4 y5 y6 y7
      have hrow := (HRO.out.keep (w' := w3) (Y := fun _ => True) (fun _ _ _ => trivial) (fun b hb hlt => HS3.out.low.block b hlt)).nth HT.out.2
      obtain ⟨g, off, rfl, e0, e1, e2, e3, e4, e5, e6, e7⟩ := hrow
      have HC : Hid (Calls Try.prog 39 #[.pointer (some ⟨B, 0, none⟩), v.val, .int .i64 (m'.S : Nat)] w3 _) := HIH.out j t v HT.out.1 HT.out.2 w3 b0 B (m'.st.fr a0 m'.S) m'.S HS3.out.low H0.out HS3.out.sz HS3.out.mb (Nat.le_trans HLE.out.1 HBS.out.1) (Nat.le_trans HLE.out.2 HBS.out.2)
      obtain ⟨r, hr⟩ : ∃ r, lay t (m'.st.fr a0 m'.S) m'.S = r := ⟨_, rfl⟩
      rw [hr] at HC HRn
      clear hr HLE HLQ HT
      unfold Nd.val at HC
      go_wp2_with fail
      refine HC.out.mono ?_
      rintro e w4 ⟨rfl, h4, f4⟩
      have HS4 : Hid (Sm w0 b0 B A ⟨4, s, some ⟨g, off, none⟩, n, c, mn, mx⟩ w w4 r.1) := HS3.out.call h4 f4
      have HI4 : Hid (RowI w4 w.heap.size u10 l) := HI3.out.fm HS3.out.mb f4
      clear h4 f4 HC HS3 HI3 e0 e1 e2 e3 e4 e5 e6 e7 y0 y1 y2 y3 y4 y5 y6 y7
      have kk : Below w4.heap.size w4 (w4.alloc (.cells #[.int .i64 (r.2 : Nat)] 3)) := (Below.refl _ _).alloc (Nat.le_refl _) _
      have HS5 : Hid (Sm w0 b0 B A ⟨4, s, some ⟨g, off, none⟩, n, c, mn, mx⟩ w (w4.alloc (.cells #[.int .i64 (r.2 : Nat)] 3)) r.1) := HS4.out.later kk
      have HI5 : Hid (RowI (w4.alloc (.cells #[.int .i64 (r.2 : Nat)] 3)) w.heap.size u10 l) := HI4.out.keep (fun b _ hlt _ => kk.block b hlt)
      have HC5 : Hid ((w4.alloc (.cells #[.int .i64 (r.2 : Nat)] 3)).cell? ⟨w4.heap.size, 0, none⟩ = some (.int .i64 (r.2 : Nat))) := by show _ = _; rw [World.cell?_alloc_mark]; rfl
      have HLQ2 : Hid (l.length ≤ 2000000) := by have := HLJ.out; have := HM0.out; show _ ≤ _; omega
      have HZ5 : Hid (w.heap.size ≤ (w4.alloc (.cells #[.int .i64 (r.2 : Nat)] 3)).heap.size) := HS5.out.fm.size
      clear kk
      go_wp2_with (at_builtin; go_must (refine wpList_append_int rfl _ _ rfl w.heap.size _ l rfl HI5.out ⟨w4.heap.size, 0, none⟩ 1 r.2 rfl HC5.out HLQ2.out HZ5.out ?_; intro g' cap' w6 hn6 hg6; have HI6 : Hid (RowI w6 w.heap.size _ (l ++ [r.2])) := hn6; have HG6 : Hid ((w4.alloc (.cells #[.int .i64 (r.2 : Nat)] 3)).grownBy w6 u10.ownBlock) := hg6; clear hn6 hg6))
      have HS6 : Hid (Sm w0 b0 B A ⟨4, s, some ⟨g, off, none⟩, n, c, mn, mx⟩ w w6 r.1) := HS5.out.own HG6.out (HI5.out.ty) HB.out
      go_roundw
      case rel => exact ⟨j + 1, r.1, l ++ [r.2], by go_num, by omega, (by have := HLJ.out; show _ = _; simp; omega), HRn, HI6, HS6⟩
      case measure => simp [intOf]; omega
    · have hlt' : ¬ (j : Int) < (n : Int) := by omega
      have HRF : Hid (R = joint (m', l)) := by
        show _ = _
        rw [← HRj.out, List.drop_of_length_le (by rw [← HN.out]; omega), alts]
      have hlen : l.length ≤ 2000000 := by have := HLJ.out; have := HM0.out; omega
      clear HIH HRO HRj
      have HR1 : Hid (frees l m'.S m'.st = R.1 ∧ R.2 = m'.S) := by rw [HRF.out]; exact ⟨rfl, rfl⟩
      have hgr : m'.S + 1 ≤ 1000000 := by
        have h1 := (frees_le l m'.S m'.st).1
        rw [HR1.out.1] at h1
        exact Nat.le_trans h1 HBS.out.1
      obtain ⟨oa, oc, hV, hlc, hcm⟩ := HIj.out.form
      subst hV
      obtain ⟨N, hN⟩ : ∃ N, l.length = N := ⟨_, rfl⟩
      rw [hN] at HIj hlc
      have HNN : Hid (l.length = N) := hN
      have hN2 : N ≤ 2000000 := by omega
      simp only [maxLen] at hcm
      rw [hN]
      clear hN hlen
      go_wp2_with fail
      refine (state_any B b0 m' wr HSj.out.mb (by omega)).mono ?_
      rintro e w2 ⟨rfl, h2, f2⟩
      have HS2 : Hid (Sm w0 b0 B A ⟨4, s, a, n, c, mn, mx⟩ w w2 m'.st) := HSj.out.call h2 f2
      have HI2 : Hid (RowI w2 w.heap.size (.slice oa N oc) l) := HIj.out.fm HSj.out.mb f2
      clear h2 f2 HSj HIj y0 y1 y2 y3 y4 y5 y6 y7
      go_wp2_with fail
      go_loopw [14] (fun i u => ∃ (j2 : Nat) (m3 : Mk), i = .int .i64 (j2 : Nat) ∧ j2 ≤ N ∧ Hid (frees (l.drop j2) m'.S m3 = R.1) ∧ Hid (RowI u w.heap.size (.slice oa N oc) l) ∧ Hid (Sm w0 b0 B A ⟨4, s, a, n, c, mn, mx⟩ w u m3)) (fun i _ => N - (intOf i).toNat)
      case atStart => exact ⟨0, m'.st, rfl, Nat.zero_le _, HR1.out.1, HI2, HS2⟩
      case round =>
        clear HS2 HI2
        obtain ⟨j2, m3, rfl, hj2, HR3, HI3, HS3⟩ := hrel
        by_cases hlt2 : j2 < N
        · have hlt2' : (j2 : Int) < (N : Int) := by omega
          obtain ⟨x, hx⟩ : ∃ x, l[j2]? = some x := ⟨_, List.getElem?_eq_getElem (by rw [HNN.out]; exact hlt2)⟩
          obtain ⟨g2, hg2, hc2⟩ := HI3.out.at hx
          subst hg2
          have HR4 : Hid (frees (l.drop (j2 + 1)) m'.S (m3.fr x m'.S) = R.1) := (frees_step hx m'.S m3).symm.trans HR3.out
          have hge : m3.es.length + 1 ≤ 1000000 := by
            have h1 := (frees_le (l.drop (j2 + 1)) m'.S (m3.fr x m'.S)).2
            rw [HR4.out] at h1
            have h2 := Nat.le_trans h1 HBS.out.2
            simpa [Mk.fr, Mk.ed] using h2
          clear hx
          go_wp2_with fail
          refine (free_any B b0 m3 x m'.S wr HS3.out.mb HS3.out.sz (by omega)).mono ?_
          rintro e w4 ⟨rfl, h4, f4⟩
          have HS4 : Hid (Sm w0 b0 B A ⟨4, s, a, n, c, mn, mx⟩ w w4 (m3.fr x m'.S)) := HS3.out.call h4 f4
          have HI4 : Hid (RowI w4 w.heap.size (.slice (some ⟨g2, 0, none⟩) N oc) l) := HI3.out.fm HS3.out.mb f4
          clear h4 f4 HS3 HI3 hc2
          go_wp2
          go_roundw
          case rel => exact ⟨j2 + 1, m3.fr x m'.S, by go_num, by omega, HR4, HI4, HS4⟩
          case measure => simp [intOf]; omega
        · have hlt2' : ¬ (j2 : Int) < (N : Int) := by omega
          have HE : Hid (R.1 = m3) := by
            show _ = _
            rw [← HR3.out, List.drop_of_length_le (by rw [HNN.out]; omega), frees]
          have HM : Hid (MB wr b0 B m3 ∧ Fm b0 B w wr) := ⟨HS3.out.mb, HS3.out.fm⟩
          clear HR3
          go_wp2
          go_ret
          rw [HE.out, HR1.out.2]
          exact ⟨rfl, HM.out.1, HM.out.2⟩
end Go.Proofs.Ytjmbimgofceanaa

/- heronref07's lay of a row. -/
namespace Go.Proofs.Ytjmbimgofceanaa
open Go.RowKit
attribute [local go_sem ↓] Go.wp_at_zero Go.wp_at_succ

theorem seqs_step {ts : List Tn} {i : Nat} {t : Tn} (h : ts[i]? = some t) (m : Mk) (a : Nat) : seqs (ts.drop i) m a = seqs (ts.drop (i + 1)) (lay t m a).1 (lay t m a).2 := by
  have hlt := (List.getElem?_eq_some_iff.1 h).1
  rw [List.drop_eq_getElem_cons hlt, (List.getElem?_eq_some_iff.1 h).2, seqs]
set_option maxRecDepth 4000 in
set_option maxHeartbeats 8000000 in
theorem lay_seq {w0 : World} {s : Oct.S} {subs : List Tn} {mn mx : Int} {a : Option Addr} {n c : Nat} {vs : List Nd} (hn : n = subs.length) (hl : vs.length = n) (hm : n ≤ 1000000) (hr : RowAt (fun _ => True) w0 a vs) (hs : ∀ (i : Nat) (t : Tn) (v : Nd), subs[i]? = some t → vs[i]? = some v → LayOK w0 t v) : LayOK w0 (.mk 3 s subs mn mx) ⟨3, s, a, n, c, mn, mx⟩ := by
  intro w b0 B m a0 hlow h0 hb hmb hS hE
  obtain ⟨R, hR⟩ : ∃ R, lay (.mk 3 s subs mn mx) m a0 = R := ⟨_, rfl⟩
  rw [hR] at hS hE ⊢
  have HR : Hid (seqs subs m a0 = R) := by show _ = _; rw [← hR, lay_mk]; simp
  have HSM : Hid (Sm w0 b0 B w.heap.size ⟨3, s, a, n, c, mn, mx⟩ w (w.alloc (.cells #[.int .i64 3, .int .u64 (Oct.word s 0 : Nat), .int .u64 (Oct.word s 1 : Nat), .int .u64 (Oct.word s 2 : Nat), .int .u64 (Oct.word s 3 : Nat), .slice a n c, .int .i64 mn, .int .i64 mx] 30)) m) := sm_start w0 ⟨3, s, a, n, c, mn, mx⟩ hmb hlow hb h0
  obtain ⟨w1, hw1⟩ : ∃ w1, w.alloc (.cells #[.int .i64 3, .int .u64 (Oct.word s 0 : Nat), .int .u64 (Oct.word s 1 : Nat), .int .u64 (Oct.word s 2 : Nat), .int .u64 (Oct.word s 3 : Nat), .slice a n c, .int .i64 mn, .int .i64 mx] 30) = w1 := ⟨_, rfl⟩
  rw [hw1] at HSM
  obtain ⟨A, hA⟩ : ∃ A, w.heap.size = A := ⟨_, rfl⟩
  rw [hA] at HSM
  have HW1 : Hid (w.alloc (.cells #[.int .i64 3, .int .u64 (Oct.word s 0 : Nat), .int .u64 (Oct.word s 1 : Nat), .int .u64 (Oct.word s 2 : Nat), .int .u64 (Oct.word s 3 : Nat), .slice a n c, .int .i64 mn, .int .i64 mx] 30) = w1) := hw1
  have HAA : Hid (w.heap.size = A) := hA
  have HIH : Hid (∀ (i : Nat) (t : Tn) (v : Nd), subs[i]? = some t → vs[i]? = some v → LayOK w0 t v) := hs
  have HRO : Hid (RowAt (fun _ => True) w0 a vs) := hr
  have HN : Hid (n = subs.length) := hn
  have HL : Hid (vs.length = n) := hl
  have HB : Hid (b0 ≤ w.heap.size) := hb
  have H0 : Hid (w0.heap.size ≤ b0) := h0
  have HBS : Hid (R.1.S ≤ 1000000 ∧ R.1.es.length ≤ 1000000) := ⟨hS, hE⟩
  have HM0 : Hid (n ≤ 1000000) := hm
  clear hw1 hA hs hr hn hl hb h0 hS hE hlow hmb hR
  obtain ⟨y0, y1, y2, y3, y4, y5, y6, y7⟩ := HSM.out.nb.cells
  simp only at y0 y1 y2 y3 y4 y5 y6 y7
  unfold Nd.val
  simp only
  go_enter Try.func39, Try.ntmps39
  go_upto_region 1 with fail
  rw [HW1.out, HAA.out]
  clear HW1
  go_wp2_with fail
  clear y0 y1 y2 y3 y4 y5 y6 y7
  go_loopw [2, 9] (fun va i u => ∃ (j : Nat) (m' : Mk) (a' : Nat), va = .int .i64 (a' : Nat) ∧ i = .int .i64 (j : Nat) ∧ j ≤ n ∧ Hid (seqs (subs.drop j) m' a' = R) ∧ Hid (Sm w0 b0 B A ⟨3, s, a, n, c, mn, mx⟩ w u m')) (fun _ i _ => n - (intOf i).toNat)
  case atStart => exact ⟨0, m, a0, rfl, rfl, Nat.zero_le _, HR, HSM⟩
  case round =>
    clear HSM HR
    obtain ⟨j, m', a', rfl, rfl, hjn, HRj, HSj⟩ := hrel
    obtain ⟨y0, y1, y2, y3, y4, y5, y6, y7⟩ := HSj.out.nb.cells
    simp only at y0 y1 y2 y3 y4 y5 y6 y7
    by_cases hlt : j < n
    · have hlt' : (j : Int) < (n : Int) := by omega
      obtain ⟨t, ht⟩ : ∃ t, subs[j]? = some t := ⟨_, List.getElem?_eq_getElem (by rw [← HN.out]; exact hlt)⟩
      obtain ⟨v, hv⟩ : ∃ v, vs[j]? = some v := ⟨_, List.getElem?_eq_getElem (by rw [HL.out]; exact hlt)⟩
      have hrow := (HRO.out.keep (w' := wr) (Y := fun _ => True) (fun _ _ _ => trivial) (fun b hb hlt => HSj.out.low.block b hlt)).nth hv
      obtain ⟨g, off, rfl, e0, e1, e2, e3, e4, e5, e6, e7⟩ := hrow
      have HRn : Hid (seqs (subs.drop (j + 1)) (lay t m' a').1 (lay t m' a').2 = R) := (seqs_step ht m' a').symm.trans HRj.out
      have hle := seqs_le (subs.drop (j + 1)) (lay t m' a').1 (lay t m' a').2
      rw [HRn.out] at hle
      have HC : Hid (Calls Try.prog 39 #[.pointer (some ⟨B, 0, none⟩), v.val, .int .i64 (a' : Nat)] wr _) := HIH.out j t v ht hv wr b0 B m' a' HSj.out.low H0.out HSj.out.sz HSj.out.mb (Nat.le_trans hle.1 HBS.out.1) (Nat.le_trans hle.2 HBS.out.2)
      obtain ⟨r, hr⟩ : ∃ r, lay t m' a' = r := ⟨_, rfl⟩
      rw [hr] at HC HRn
      clear hr hle ht hv HRj
      unfold Nd.val at HC
      go_wp2_with fail
      refine HC.out.mono ?_
      rintro e w4 ⟨rfl, h4, f4⟩
      have HS4 : Hid (Sm w0 b0 B A ⟨3, s, some ⟨g, off, none⟩, n, c, mn, mx⟩ w w4 r.1) := HSj.out.call h4 f4
      clear h4 f4 HC HSj e0 e1 e2 e3 e4 e5 e6 e7 y0 y1 y2 y3 y4 y5 y6 y7
      go_wp2
      go_roundw
      case rel => exact ⟨j + 1, r.1, r.2, rfl, by go_num, by omega, HRn, HS4⟩
      case measure => simp [intOf]; omega
    · have hlt' : ¬ (j : Int) < (n : Int) := by omega
      have HE : Hid (R = (m', a')) := by
        show _ = _
        rw [← HRj.out, List.drop_of_length_le (by rw [← HN.out]; omega), seqs]
      have HM : Hid (MB wr b0 B m' ∧ Fm b0 B w wr) := ⟨HSj.out.mb, HSj.out.fm⟩
      clear HIH HRO HBS HRj
      go_wp2
      go_ret
      rw [HE.out]
      exact ⟨rfl, HM.out.1, HM.out.2⟩
end Go.Proofs.Ytjmbimgofceanaa

/- heronref07's lay of a set, an anchor, of nothing. -/
namespace Go.Proofs.Ytjmbimgofceanaa
open Go.RowKit
attribute [local go_sem ↓] Go.wp_at_zero Go.wp_at_succ

set_option maxRecDepth 4000 in
set_option maxHeartbeats 8000000 in
theorem lay_leaf2 {w0 : World} {s : Oct.S} {subs : List Tn} {mn mx : Int} {a : Option Addr} {n c : Nat} {vs : List Nd} (hn : n = subs.length) (hl : vs.length = n) (hm : n ≤ 1000000) (hr : RowAt (fun _ => True) w0 a vs) (hs : ∀ (i : Nat) (t : Tn) (v : Nd), subs[i]? = some t → vs[i]? = some v → LayOK w0 t v) : LayOK w0 (.mk 2 s subs mn mx) ⟨2, s, a, n, c, mn, mx⟩ := by
  intro w b0 B m a0 hlow h0 hb hmb hS hE
  obtain ⟨R, hR⟩ : ∃ R, lay (.mk 2 s subs mn mx) m a0 = R := ⟨_, rfl⟩
  rw [hR] at hS hE ⊢
  have HR : Hid ((m.st.ed ⟨2, a0, m.S, s⟩, m.S) = R) := by show _ = _; rw [← hR, lay_mk]; simp
  have HSM : Hid (Sm w0 b0 B w.heap.size ⟨2, s, a, n, c, mn, mx⟩ w (w.alloc (.cells #[.int .i64 2, .int .u64 (Oct.word s 0 : Nat), .int .u64 (Oct.word s 1 : Nat), .int .u64 (Oct.word s 2 : Nat), .int .u64 (Oct.word s 3 : Nat), .slice a n c, .int .i64 mn, .int .i64 mx] 30)) m) := sm_start w0 ⟨2, s, a, n, c, mn, mx⟩ hmb hlow hb h0
  obtain ⟨w1, hw1⟩ : ∃ w1, w.alloc (.cells #[.int .i64 2, .int .u64 (Oct.word s 0 : Nat), .int .u64 (Oct.word s 1 : Nat), .int .u64 (Oct.word s 2 : Nat), .int .u64 (Oct.word s 3 : Nat), .slice a n c, .int .i64 mn, .int .i64 mx] 30) = w1 := ⟨_, rfl⟩
  rw [hw1] at HSM
  obtain ⟨A, hA⟩ : ∃ A, w.heap.size = A := ⟨_, rfl⟩
  rw [hA] at HSM
  have HW1 : Hid (w.alloc (.cells #[.int .i64 2, .int .u64 (Oct.word s 0 : Nat), .int .u64 (Oct.word s 1 : Nat), .int .u64 (Oct.word s 2 : Nat), .int .u64 (Oct.word s 3 : Nat), .slice a n c, .int .i64 mn, .int .i64 mx] 30) = w1) := hw1
  have HAA : Hid (w.heap.size = A) := hA
  have HIH : Hid (∀ (i : Nat) (t : Tn) (v : Nd), subs[i]? = some t → vs[i]? = some v → LayOK w0 t v) := hs
  have HRO : Hid (RowAt (fun _ => True) w0 a vs) := hr
  have HN : Hid (n = subs.length) := hn
  have HL : Hid (vs.length = n) := hl
  have HB : Hid (b0 ≤ w.heap.size) := hb
  have H0 : Hid (w0.heap.size ≤ b0) := h0
  have HBS : Hid (R.1.S ≤ 1000000 ∧ R.1.es.length ≤ 1000000) := ⟨hS, hE⟩
  have HM0 : Hid (n ≤ 1000000) := hm
  clear hw1 hA hs hr hn hl hb h0 hS hE hlow hmb hR
  obtain ⟨y0, y1, y2, y3, y4, y5, y6, y7⟩ := HSM.out.nb.cells
  simp only at y0 y1 y2 y3 y4 y5 y6 y7
  unfold Nd.val
  simp only
  go_enter Try.func39, Try.ntmps39
  go_upto_region 1 with fail
  rw [HW1.out, HAA.out]
  clear HW1
  go_wp2_with fail
  clear HIH HRO
  have hgr : m.S + 1 ≤ 1000000 := by have := HBS.out.1; rw [← HR.out] at this; exact this
  have hge : m.es.length + 1 ≤ 1000000 := by have := HBS.out.2; rw [← HR.out] at this; simpa [Mk.st, Mk.ed] using this
  refine (state_any B b0 m w1 HSM.out.mb (by omega)).mono ?_
  rintro e w2 ⟨rfl, h2, f2⟩
  have HS2 : Hid (Sm w0 b0 B A ⟨2, s, a, n, c, mn, mx⟩ w w2 m.st) := HSM.out.call h2 f2
  clear h2 f2 HSM y0 y1 y2 y3 y4 y5 y6 y7
  obtain ⟨y0, y1, y2, y3, y4, y5, y6, y7⟩ := HS2.out.nb.cells
  simp only at y0 y1 y2 y3 y4 y5 y6 y7
  have HC : Hid (Calls Try.prog 60 #[.pointer (some ⟨B, 0, none⟩), .int .i64 2, .int .i64 (a0 : Nat), .int .i64 (m.S : Nat), setV s] w2 _) := edge_any B b0 m.st ⟨2, a0, m.S, s⟩ w2 HS2.out.mb HS2.out.sz (by show m.es.length ≤ _; omega)
  unfold setV at HC
  go_wp2_with fail
  refine HC.out.mono ?_
  rintro e w3 ⟨rfl, h3, f3⟩
  have HS3 : Hid (Sm w0 b0 B A ⟨2, s, a, n, c, mn, mx⟩ w w3 (m.st.ed ⟨2, a0, m.S, s⟩)) := HS2.out.call h3 f3
  clear h3 f3 HS2 y0 y1 y2 y3 y4 y5 y6 y7
  go_wp2
  go_ret
  rw [← HR.out]
  exact ⟨rfl, HS3.out.mb, HS3.out.fm⟩
set_option maxRecDepth 4000 in
set_option maxHeartbeats 8000000 in
theorem lay_leaf6 {w0 : World} {s : Oct.S} {subs : List Tn} {mn mx : Int} {a : Option Addr} {n c : Nat} {vs : List Nd} (hn : n = subs.length) (hl : vs.length = n) (hm : n ≤ 1000000) (hr : RowAt (fun _ => True) w0 a vs) (hs : ∀ (i : Nat) (t : Tn) (v : Nd), subs[i]? = some t → vs[i]? = some v → LayOK w0 t v) : LayOK w0 (.mk 6 s subs mn mx) ⟨6, s, a, n, c, mn, mx⟩ := by
  intro w b0 B m a0 hlow h0 hb hmb hS hE
  obtain ⟨R, hR⟩ : ∃ R, lay (.mk 6 s subs mn mx) m a0 = R := ⟨_, rfl⟩
  rw [hR] at hS hE ⊢
  have HR : Hid ((m.st.ed ⟨3, a0, m.S, s⟩, m.S) = R) := by show _ = _; rw [← hR, lay_mk]; simp
  have HSM : Hid (Sm w0 b0 B w.heap.size ⟨6, s, a, n, c, mn, mx⟩ w (w.alloc (.cells #[.int .i64 6, .int .u64 (Oct.word s 0 : Nat), .int .u64 (Oct.word s 1 : Nat), .int .u64 (Oct.word s 2 : Nat), .int .u64 (Oct.word s 3 : Nat), .slice a n c, .int .i64 mn, .int .i64 mx] 30)) m) := sm_start w0 ⟨6, s, a, n, c, mn, mx⟩ hmb hlow hb h0
  obtain ⟨w1, hw1⟩ : ∃ w1, w.alloc (.cells #[.int .i64 6, .int .u64 (Oct.word s 0 : Nat), .int .u64 (Oct.word s 1 : Nat), .int .u64 (Oct.word s 2 : Nat), .int .u64 (Oct.word s 3 : Nat), .slice a n c, .int .i64 mn, .int .i64 mx] 30) = w1 := ⟨_, rfl⟩
  rw [hw1] at HSM
  obtain ⟨A, hA⟩ : ∃ A, w.heap.size = A := ⟨_, rfl⟩
  rw [hA] at HSM
  have HW1 : Hid (w.alloc (.cells #[.int .i64 6, .int .u64 (Oct.word s 0 : Nat), .int .u64 (Oct.word s 1 : Nat), .int .u64 (Oct.word s 2 : Nat), .int .u64 (Oct.word s 3 : Nat), .slice a n c, .int .i64 mn, .int .i64 mx] 30) = w1) := hw1
  have HAA : Hid (w.heap.size = A) := hA
  have HIH : Hid (∀ (i : Nat) (t : Tn) (v : Nd), subs[i]? = some t → vs[i]? = some v → LayOK w0 t v) := hs
  have HRO : Hid (RowAt (fun _ => True) w0 a vs) := hr
  have HN : Hid (n = subs.length) := hn
  have HL : Hid (vs.length = n) := hl
  have HB : Hid (b0 ≤ w.heap.size) := hb
  have H0 : Hid (w0.heap.size ≤ b0) := h0
  have HBS : Hid (R.1.S ≤ 1000000 ∧ R.1.es.length ≤ 1000000) := ⟨hS, hE⟩
  have HM0 : Hid (n ≤ 1000000) := hm
  clear hw1 hA hs hr hn hl hb h0 hS hE hlow hmb hR
  obtain ⟨y0, y1, y2, y3, y4, y5, y6, y7⟩ := HSM.out.nb.cells
  simp only at y0 y1 y2 y3 y4 y5 y6 y7
  unfold Nd.val
  simp only
  go_enter Try.func39, Try.ntmps39
  go_upto_region 1 with fail
  rw [HW1.out, HAA.out]
  clear HW1
  go_wp2_with fail
  clear HIH HRO
  have hgr : m.S + 1 ≤ 1000000 := by have := HBS.out.1; rw [← HR.out] at this; exact this
  have hge : m.es.length + 1 ≤ 1000000 := by have := HBS.out.2; rw [← HR.out] at this; simpa [Mk.st, Mk.ed] using this
  refine (state_any B b0 m w1 HSM.out.mb (by omega)).mono ?_
  rintro e w2 ⟨rfl, h2, f2⟩
  have HS2 : Hid (Sm w0 b0 B A ⟨6, s, a, n, c, mn, mx⟩ w w2 m.st) := HSM.out.call h2 f2
  clear h2 f2 HSM y0 y1 y2 y3 y4 y5 y6 y7
  obtain ⟨y0, y1, y2, y3, y4, y5, y6, y7⟩ := HS2.out.nb.cells
  simp only at y0 y1 y2 y3 y4 y5 y6 y7
  have HC : Hid (Calls Try.prog 60 #[.pointer (some ⟨B, 0, none⟩), .int .i64 3, .int .i64 (a0 : Nat), .int .i64 (m.S : Nat), setV s] w2 _) := edge_any B b0 m.st ⟨3, a0, m.S, s⟩ w2 HS2.out.mb HS2.out.sz (by show m.es.length ≤ _; omega)
  unfold setV at HC
  go_wp2_with fail
  refine HC.out.mono ?_
  rintro e w3 ⟨rfl, h3, f3⟩
  have HS3 : Hid (Sm w0 b0 B A ⟨6, s, a, n, c, mn, mx⟩ w w3 (m.st.ed ⟨3, a0, m.S, s⟩)) := HS2.out.call h3 f3
  clear h3 f3 HS2 y0 y1 y2 y3 y4 y5 y6 y7
  go_wp2
  go_ret
  rw [← HR.out]
  exact ⟨rfl, HS3.out.mb, HS3.out.fm⟩
set_option maxRecDepth 4000 in
set_option maxHeartbeats 8000000 in
theorem lay_leaf7 {w0 : World} {s : Oct.S} {subs : List Tn} {mn mx : Int} {a : Option Addr} {n c : Nat} {vs : List Nd} (hn : n = subs.length) (hl : vs.length = n) (hm : n ≤ 1000000) (hr : RowAt (fun _ => True) w0 a vs) (hs : ∀ (i : Nat) (t : Tn) (v : Nd), subs[i]? = some t → vs[i]? = some v → LayOK w0 t v) : LayOK w0 (.mk 7 s subs mn mx) ⟨7, s, a, n, c, mn, mx⟩ := by
  intro w b0 B m a0 hlow h0 hb hmb hS hE
  obtain ⟨R, hR⟩ : ∃ R, lay (.mk 7 s subs mn mx) m a0 = R := ⟨_, rfl⟩
  rw [hR] at hS hE ⊢
  have HR : Hid ((m.st.ed ⟨4, a0, m.S, s⟩, m.S) = R) := by show _ = _; rw [← hR, lay_mk]; simp
  have HSM : Hid (Sm w0 b0 B w.heap.size ⟨7, s, a, n, c, mn, mx⟩ w (w.alloc (.cells #[.int .i64 7, .int .u64 (Oct.word s 0 : Nat), .int .u64 (Oct.word s 1 : Nat), .int .u64 (Oct.word s 2 : Nat), .int .u64 (Oct.word s 3 : Nat), .slice a n c, .int .i64 mn, .int .i64 mx] 30)) m) := sm_start w0 ⟨7, s, a, n, c, mn, mx⟩ hmb hlow hb h0
  obtain ⟨w1, hw1⟩ : ∃ w1, w.alloc (.cells #[.int .i64 7, .int .u64 (Oct.word s 0 : Nat), .int .u64 (Oct.word s 1 : Nat), .int .u64 (Oct.word s 2 : Nat), .int .u64 (Oct.word s 3 : Nat), .slice a n c, .int .i64 mn, .int .i64 mx] 30) = w1 := ⟨_, rfl⟩
  rw [hw1] at HSM
  obtain ⟨A, hA⟩ : ∃ A, w.heap.size = A := ⟨_, rfl⟩
  rw [hA] at HSM
  have HW1 : Hid (w.alloc (.cells #[.int .i64 7, .int .u64 (Oct.word s 0 : Nat), .int .u64 (Oct.word s 1 : Nat), .int .u64 (Oct.word s 2 : Nat), .int .u64 (Oct.word s 3 : Nat), .slice a n c, .int .i64 mn, .int .i64 mx] 30) = w1) := hw1
  have HAA : Hid (w.heap.size = A) := hA
  have HIH : Hid (∀ (i : Nat) (t : Tn) (v : Nd), subs[i]? = some t → vs[i]? = some v → LayOK w0 t v) := hs
  have HRO : Hid (RowAt (fun _ => True) w0 a vs) := hr
  have HN : Hid (n = subs.length) := hn
  have HL : Hid (vs.length = n) := hl
  have HB : Hid (b0 ≤ w.heap.size) := hb
  have H0 : Hid (w0.heap.size ≤ b0) := h0
  have HBS : Hid (R.1.S ≤ 1000000 ∧ R.1.es.length ≤ 1000000) := ⟨hS, hE⟩
  have HM0 : Hid (n ≤ 1000000) := hm
  clear hw1 hA hs hr hn hl hb h0 hS hE hlow hmb hR
  obtain ⟨y0, y1, y2, y3, y4, y5, y6, y7⟩ := HSM.out.nb.cells
  simp only at y0 y1 y2 y3 y4 y5 y6 y7
  unfold Nd.val
  simp only
  go_enter Try.func39, Try.ntmps39
  go_upto_region 1 with fail
  rw [HW1.out, HAA.out]
  clear HW1
  go_wp2_with fail
  clear HIH HRO
  have hgr : m.S + 1 ≤ 1000000 := by have := HBS.out.1; rw [← HR.out] at this; exact this
  have hge : m.es.length + 1 ≤ 1000000 := by have := HBS.out.2; rw [← HR.out] at this; simpa [Mk.st, Mk.ed] using this
  refine (state_any B b0 m w1 HSM.out.mb (by omega)).mono ?_
  rintro e w2 ⟨rfl, h2, f2⟩
  have HS2 : Hid (Sm w0 b0 B A ⟨7, s, a, n, c, mn, mx⟩ w w2 m.st) := HSM.out.call h2 f2
  clear h2 f2 HSM y0 y1 y2 y3 y4 y5 y6 y7
  obtain ⟨y0, y1, y2, y3, y4, y5, y6, y7⟩ := HS2.out.nb.cells
  simp only at y0 y1 y2 y3 y4 y5 y6 y7
  have HC : Hid (Calls Try.prog 60 #[.pointer (some ⟨B, 0, none⟩), .int .i64 4, .int .i64 (a0 : Nat), .int .i64 (m.S : Nat), setV s] w2 _) := edge_any B b0 m.st ⟨4, a0, m.S, s⟩ w2 HS2.out.mb HS2.out.sz (by show m.es.length ≤ _; omega)
  unfold setV at HC
  go_wp2_with fail
  refine HC.out.mono ?_
  rintro e w3 ⟨rfl, h3, f3⟩
  have HS3 : Hid (Sm w0 b0 B A ⟨7, s, a, n, c, mn, mx⟩ w w3 (m.st.ed ⟨4, a0, m.S, s⟩)) := HS2.out.call h3 f3
  clear h3 f3 HS2 y0 y1 y2 y3 y4 y5 y6 y7
  go_wp2
  go_ret
  rw [← HR.out]
  exact ⟨rfl, HS3.out.mb, HS3.out.fm⟩
set_option maxRecDepth 4000 in
set_option maxHeartbeats 8000000 in
theorem lay_none {w0 : World} {s : Oct.S} {subs : List Tn} {mn mx : Int} {a : Option Addr} {n c : Nat} {vs : List Nd} (hn : n = subs.length) (hl : vs.length = n) (hm : n ≤ 1000000) (hr : RowAt (fun _ => True) w0 a vs) (hs : ∀ (i : Nat) (t : Tn) (v : Nd), subs[i]? = some t → vs[i]? = some v → LayOK w0 t v) : LayOK w0 (.mk 1 s subs mn mx) ⟨1, s, a, n, c, mn, mx⟩ := by
  intro w b0 B m a0 hlow h0 hb hmb hS hE
  obtain ⟨R, hR⟩ : ∃ R, lay (.mk 1 s subs mn mx) m a0 = R := ⟨_, rfl⟩
  rw [hR] at hS hE ⊢
  have HR : Hid ((m, a0) = R) := by show _ = _; rw [← hR, lay_mk]; simp
  have HSM : Hid (Sm w0 b0 B w.heap.size ⟨1, s, a, n, c, mn, mx⟩ w (w.alloc (.cells #[.int .i64 1, .int .u64 (Oct.word s 0 : Nat), .int .u64 (Oct.word s 1 : Nat), .int .u64 (Oct.word s 2 : Nat), .int .u64 (Oct.word s 3 : Nat), .slice a n c, .int .i64 mn, .int .i64 mx] 30)) m) := sm_start w0 ⟨1, s, a, n, c, mn, mx⟩ hmb hlow hb h0
  obtain ⟨w1, hw1⟩ : ∃ w1, w.alloc (.cells #[.int .i64 1, .int .u64 (Oct.word s 0 : Nat), .int .u64 (Oct.word s 1 : Nat), .int .u64 (Oct.word s 2 : Nat), .int .u64 (Oct.word s 3 : Nat), .slice a n c, .int .i64 mn, .int .i64 mx] 30) = w1 := ⟨_, rfl⟩
  rw [hw1] at HSM
  obtain ⟨A, hA⟩ : ∃ A, w.heap.size = A := ⟨_, rfl⟩
  rw [hA] at HSM
  have HW1 : Hid (w.alloc (.cells #[.int .i64 1, .int .u64 (Oct.word s 0 : Nat), .int .u64 (Oct.word s 1 : Nat), .int .u64 (Oct.word s 2 : Nat), .int .u64 (Oct.word s 3 : Nat), .slice a n c, .int .i64 mn, .int .i64 mx] 30) = w1) := hw1
  have HAA : Hid (w.heap.size = A) := hA
  have HIH : Hid (∀ (i : Nat) (t : Tn) (v : Nd), subs[i]? = some t → vs[i]? = some v → LayOK w0 t v) := hs
  have HRO : Hid (RowAt (fun _ => True) w0 a vs) := hr
  have HN : Hid (n = subs.length) := hn
  have HL : Hid (vs.length = n) := hl
  have HB : Hid (b0 ≤ w.heap.size) := hb
  have H0 : Hid (w0.heap.size ≤ b0) := h0
  have HBS : Hid (R.1.S ≤ 1000000 ∧ R.1.es.length ≤ 1000000) := ⟨hS, hE⟩
  have HM0 : Hid (n ≤ 1000000) := hm
  clear hw1 hA hs hr hn hl hb h0 hS hE hlow hmb hR
  obtain ⟨y0, y1, y2, y3, y4, y5, y6, y7⟩ := HSM.out.nb.cells
  simp only at y0 y1 y2 y3 y4 y5 y6 y7
  unfold Nd.val
  simp only
  go_enter Try.func39, Try.ntmps39
  go_upto_region 1 with fail
  rw [HW1.out, HAA.out]
  clear HW1
  clear HIH HRO
  go_wp2
  go_ret
  rw [← HR.out]
  exact ⟨rfl, HSM.out.mb, HSM.out.fm⟩
end Go.Proofs.Ytjmbimgofceanaa

/- heronref07's lay of any tree. -/
namespace Go.Proofs.Ytjmbimgofceanaa
open Go.RowKit
attribute [local go_sem ↓] Go.wp_at_zero Go.wp_at_succ

set_option maxRecDepth 4000 in
set_option maxHeartbeats 8000000 in
theorem lay_times {w0 : World} {s : Oct.S} {u : Tn} {mn mx : Int} {a : Option Addr} {c : Nat} {v : Nd} (hr : RowAt (fun _ => True) w0 a [v]) (hin : InAt w0 u v) (hs : LayOK w0 u v) (hmn : 0 ≤ mn ∧ mn ≤ 255) (hmx : mx = -1 ∨ mn ≤ mx ∧ mx ≤ 255) : LayOK w0 (.mk 5 s [u] mn mx) ⟨5, s, a, 1, c, mn, mx⟩ := by
  intro w b0 B m a0 hlow h0 hb hmb hS hE
  have e : lay (.mk 5 s [u] mn mx) m a0 = timesOf (lay u) (placesOf u) mn mx m a0 := by rw [lay_mk]; simp [hd]
  rw [e] at hS hE ⊢
  have HSM : Hid (Sm w0 b0 B w.heap.size ⟨5, s, a, 1, c, mn, mx⟩ w (w.alloc (.cells #[.int .i64 5, .int .u64 (Oct.word s 0 : Nat), .int .u64 (Oct.word s 1 : Nat), .int .u64 (Oct.word s 2 : Nat), .int .u64 (Oct.word s 3 : Nat), .slice a 1 c, .int .i64 mn, .int .i64 mx] 30)) m) := sm_start w0 ⟨5, s, a, 1, c, mn, mx⟩ hmb hlow hb h0
  obtain ⟨w1, hw1⟩ : ∃ w1, w.alloc (.cells #[.int .i64 5, .int .u64 (Oct.word s 0 : Nat), .int .u64 (Oct.word s 1 : Nat), .int .u64 (Oct.word s 2 : Nat), .int .u64 (Oct.word s 3 : Nat), .slice a 1 c, .int .i64 mn, .int .i64 mx] 30) = w1 := ⟨_, rfl⟩
  rw [hw1] at HSM
  obtain ⟨A, hA⟩ : ∃ A, w.heap.size = A := ⟨_, rfl⟩
  rw [hA] at HSM
  have HW1 : Hid (w.alloc (.cells #[.int .i64 5, .int .u64 (Oct.word s 0 : Nat), .int .u64 (Oct.word s 1 : Nat), .int .u64 (Oct.word s 2 : Nat), .int .u64 (Oct.word s 3 : Nat), .slice a 1 c, .int .i64 mn, .int .i64 mx] 30) = w1) := hw1
  have HAA : Hid (w.heap.size = A) := hA
  have HC : Hid (Calls Try.prog 62 #[.pointer (some ⟨B, 0, none⟩), Nd.val ⟨5, s, a, 1, c, mn, mx⟩, .int .i64 (a0 : Nat)] w1 _) := times_any (s := s) (c := c) hr hin hs hmn hmx w1 b0 B m a0 HSM.out.low h0 HSM.out.sz HSM.out.mb hS hE
  obtain ⟨R, hR⟩ : ∃ R, timesOf (lay u) (placesOf u) mn mx m a0 = R := ⟨_, rfl⟩
  rw [hR] at HC ⊢
  unfold Nd.val at HC
  simp only at HC
  clear hw1 hA hr hin hs hb h0 hS hE hlow hmb hR e hmn hmx
  obtain ⟨y0, y1, y2, y3, y4, y5, y6, y7⟩ := HSM.out.nb.cells
  simp only at y0 y1 y2 y3 y4 y5 y6 y7
  unfold Nd.val
  simp only
  go_enter Try.func39, Try.ntmps39
  go_upto_region 1 with fail
  rw [HW1.out, HAA.out]
  clear HW1
  go_wp2_with fail
  refine HC.out.mono ?_
  rintro e w2 ⟨rfl, h2, f2⟩
  have H2 : Hid (MB w2 b0 B R.1 ∧ Fm b0 B w w2) := ⟨h2, HSM.out.fm.trans f2⟩
  clear h2 f2 HC HSM y0 y1 y2 y3 y4 y5 y6 y7
  go_wp2
  go_ret
  exact ⟨rfl, H2.out.1, H2.out.2⟩
theorem shaped_kind {k : Int} {s : Oct.S} {n : Nat} {mn mx : Int} (h : shapedT k s n mn mx = true) : k = 1 ∨ k = 2 ∨ k = 3 ∨ k = 4 ∨ k = 5 ∨ k = 6 ∨ k = 7 := by
  unfold shapedT at h
  by_cases h1 : k = 1 ∨ k = 6 ∨ k = 7
  · omega
  · rw [if_neg h1] at h
    by_cases h2 : k = 2
    · omega
    · rw [if_neg h2] at h
      by_cases h3 : k = 3 ∨ k = 4
      · omega
      · rw [if_neg h3] at h
        by_cases h5 : k = 5
        · omega
        · rw [if_neg h5] at h
          cases h
theorem shaped_max {s : Oct.S} {n : Nat} {mn mx : Int} (h : shapedT 5 s n mn mx = true) : n = 1 ∧ (0 ≤ mn ∧ mn ≤ 255) ∧ (mx = -1 ∨ mn ≤ mx ∧ mx ≤ 255) := by
  unfold shapedT at h
  simp [counted] at h
  omega
theorem lay_any {w0 : World} {t : Tn} {x : Nd} (h : InAt w0 t x) : (plc t).2 = true → LayOK w0 t x := by
  induction h with
  | mk k s subs mn mx a n c vs hn hl hm hr hin ih =>
    intro hp
    obtain ⟨hsh, hsub⟩ := plc_subs hp
    have hs : ∀ (i : Nat) (t : Tn) (v : Nd), subs[i]? = some t → vs[i]? = some v → LayOK w0 t v := fun i t v ht hv => ih i t v ht hv (hsub t (List.mem_of_getElem? ht))
    rcases shaped_kind hsh with rfl | rfl | rfl | rfl | rfl | rfl | rfl
    · exact lay_none hn hl hm hr hs
    · exact lay_leaf2 hn hl hm hr hs
    · exact lay_seq hn hl hm hr hs
    · exact lay_alt hn hl hm hr hs
    · obtain ⟨h1, hmn, hmx⟩ := shaped_max hsh
      match subs, vs, hn, hl, h1 with
      | [u], [v], hn, hl, _ =>
        have hn : n = 1 := hn
        subst hn
        exact lay_times hr (hin 0 u v rfl rfl) (hs 0 u v rfl rfl) hmn hmx
      | [u], [], hn, hl, _ => simp at hn hl; omega
      | [u], _ :: _ :: _, hn, hl, _ => simp at hn hl; omega
    · exact lay_leaf6 hn hl hm hr hs
    · exact lay_leaf7 hn hl hm hr hs
end Go.Proofs.Ytjmbimgofceanaa

/- A machine in memory; what Build answers. -/
namespace Go.Proofs.Ytjmbimgofceanaa
open Go.RowKit

structure Ma where
  S : Int
  es : List Eg
  rs : List Nat
def zeroMa : Ma := ⟨0, [], []⟩
/-- edges one behind the other, from an address on -/
def EAt (X : Nat → Prop) (w : World) (a : Option Addr) (es : List Eg) : Prop := es = [] ∨ ∃ b off, a = some ⟨b, off, none⟩ ∧ X b ∧ ∀ j v, (flatE es)[j]? = some v → w.cell? ⟨b, off + j, none⟩ = some v
def UAt (X : Nat → Prop) (w : World) (a : Option Addr) (rs : List Nat) : Prop := rs = [] ∨ ∃ b off, a = some ⟨b, off, none⟩ ∧ X b ∧ ∀ j x, rs[j]? = some x → w.cell? ⟨b, off + j, none⟩ = some (.int .u32 (x : Nat))
structure Nf where
  S : Int
  ea : Option Addr
  en : Nat
  ec : Nat
  ra : Option Addr
  rn : Nat
  rc : Nat
def Nf.val (x : Nf) : Value := .agg #[.int .i64 x.S, .slice x.ea x.en x.ec, .slice x.ra x.rn x.rc]
def Nf.cells (x : Nf) : List Value := [.int .i64 x.S, .slice x.ea x.en x.ec, .slice x.ra x.rn x.rc]
/-- A MACHINE IN MEMORY, whose lists lie in blocks of a kind. -/
structure MaAt (X : Nat → Prop) (w : World) (M : Ma) (x : Nf) : Prop where
  s : x.S = M.S
  n : x.en = M.es.length
  r : x.rn = M.rs.length
  e : EAt X w x.ea M.es
  u : UAt X w x.ra M.rs
theorem lt_of_cell {w : World} {b j : Nat} {v : Value} (h : w.cell? ⟨b, j, none⟩ = some v) : b < w.heap.size := by
  cases hg : w.heap[b]? with
  | none => simp [World.cell?, hg] at h
  | some o => exact (Array.getElem?_eq_some_iff.1 hg).1
theorem EAt.keep {X Y : Nat → Prop} {w w' : World} {a : Option Addr} {es : List Eg} (h : EAt X w a es) (hXY : ∀ b, X b → b < w.heap.size → Y b) (hk : ∀ b, X b → b < w.heap.size → w'.heap[b]? = w.heap[b]?) : EAt Y w' a es := by
  rcases h with h | ⟨b, off, rfl, hX, hc⟩
  · exact Or.inl h
  · cases es with
    | nil => exact Or.inl rfl
    | cons e es =>
      have hlt : b < w.heap.size := lt_of_cell (hc 0 _ rfl)
      exact Or.inr ⟨b, off, rfl, hXY b hX hlt, fun j v hj => (World.cell?_of_block (a := ⟨b, off + j, none⟩) (hk b hX hlt)).trans (hc j v hj)⟩
theorem UAt.keep {X Y : Nat → Prop} {w w' : World} {a : Option Addr} {rs : List Nat} (h : UAt X w a rs) (hXY : ∀ b, X b → b < w.heap.size → Y b) (hk : ∀ b, X b → b < w.heap.size → w'.heap[b]? = w.heap[b]?) : UAt Y w' a rs := by
  rcases h with h | ⟨b, off, rfl, hX, hc⟩
  · exact Or.inl h
  · cases rs with
    | nil => exact Or.inl rfl
    | cons e es =>
      have hlt : b < w.heap.size := lt_of_cell (hc 0 _ rfl)
      exact Or.inr ⟨b, off, rfl, hXY b hX hlt, fun j v hj => (World.cell?_of_block (a := ⟨b, off + j, none⟩) (hk b hX hlt)).trans (hc j v hj)⟩
theorem MaAt.keep {X Y : Nat → Prop} {w w' : World} {M : Ma} {x : Nf} (h : MaAt X w M x) (hXY : ∀ b, X b → b < w.heap.size → Y b) (hk : ∀ b, X b → b < w.heap.size → w'.heap[b]? = w.heap[b]?) : MaAt Y w' M x :=
  ⟨h.s, h.n, h.r, h.e.keep hXY hk, h.u.keep hXY hk⟩
theorem MaAt.later {X : Nat → Prop} {w w' : World} {M : Ma} {x : Nf} (h : MaAt X w M x) (hb : Below w.heap.size w w') : MaAt X w' M x := h.keep (fun _ h _ => h) (fun b _ hlt => hb.block b hlt)
theorem zero_maAt (X : Nat → Prop) (w : World) : MaAt X w zeroMa ⟨0, none, 0, 0, none, 0, 0⟩ := ⟨rfl, rfl, rfl, Or.inl rfl, Or.inl rfl⟩
theorem RowE.at {w : World} {base : Nat} {a : Option Addr} {n c : Nat} {es : List Eg} (h : RowE w base (.slice a n c) es) : n = es.length ∧ EAt (fun b => base ≤ b) w a es := by
  rcases h.2 with ⟨hv, hn⟩ | ⟨g, cap, cur, hv, hbg, hg, h1, h2, h3, h4⟩
  · cases hv
    exact ⟨hn.symm, Or.inl (List.length_eq_zero_iff.1 hn)⟩
  · cases hv
    refine ⟨rfl, Or.inr ⟨g, 0, rfl, hbg, fun j v hj => ?_⟩⟩
    have hlt := (List.getElem?_eq_some_iff.1 hj).1
    rw [flatE_length] at hlt
    rw [← h4, List.getElem?_take_of_lt (by omega)] at hj
    simp only [World.cell?, hg, Nat.zero_add]
    simpa using hj
theorem RowE.at2 {w : World} {base : Nat} {a : Option Addr} {n c : Nat} {es : List Eg} (h : RowE w base (.slice a n c) es) : EAt (fun b => base ≤ b ∧ TyB w 57 b) w a es := by
  rcases h.at.2 with h1 | ⟨b, off, ha, hb, hc⟩
  · exact Or.inl h1
  · subst ha
    by_cases he : es = []
    · exact Or.inl he
    · refine Or.inr ⟨b, off, rfl, ⟨hb, ?_⟩, hc⟩
      rcases h.2 with ⟨hv, _⟩ | ⟨g, cap, cur, hv, _, hg, _⟩
      · cases hv
      · cases hv
        exact ⟨_, _, hg⟩
theorem RowE.later {w w' : World} {base : Nat} {V : Value} {es : List Eg} (h : RowE w base V es) (hb : Below w.heap.size w w') : RowE w' base V es := h.keep (fun b _ hlt _ => hb.block b hlt)
theorem RowE.set {w : World} {base : Nat} {V : Value} {es : List Eg} (h : RowE w base V es) {A : Nat} {t : TypeId} (hA : TyB w t A) (ht : t ≠ 57) (j : Nat) (v : Value) : RowE (w.setCell ⟨A, j, none⟩ v) base V es :=
  h.keep (fun b _ _ hb => Below.heap_setCell w ⟨A, j, none⟩ v b (fun e => by have e : b = A := e; subst e; exact ht (TyB.ne hA hb)))
/-- what Build answers -/
def mach (t : Tn) (rule : Nat) : Ma := ⟨(lay t ⟨1, []⟩ 0).1.S, (lay t ⟨1, []⟩ 0).1.es, (List.replicate (lay t ⟨1, []⟩ 0).1.S 0).set (lay t ⟨1, []⟩ 0).2 (2 ^ rule)⟩
def buildOf (t : Tn) (rule : Int) : Ma × Nat := if (plc t).2 = false then (zeroMa, 50) else if 2048 < placesOf t then (zeroMa, 48) else if rule < 0 ∨ 31 < rule then (zeroMa, 1) else (mach t rule.toNat, 0)
theorem frees_S (l : List Nat) (s : Nat) (m : Mk) : (frees l s m).S = m.S := (frees_size l s m).1
theorem joint_lt (r : Mk × List Nat) : (joint r).2 < (joint r).1.S := by
  unfold joint
  simp only [frees_S]
  exact Nat.lt_succ_self _
theorem rounds_lt {F : Mk → Nat → Mk × Nat} (h : ∀ (m : Mk) (a : Nat), a < m.S → (F m a).2 < (F m a).1.S) : ∀ (n : Nat) (x : Mk × Nat), x.2 < x.1.S → (rounds F n x).2 < (rounds F n x).1.S
  | 0, _, hx => hx
  | n + 1, x, hx => rounds_lt h n _ (h x.1 x.2 hx)
theorem times_lt {F : Mk → Nat → Mk × Nat} (h : ∀ (m : Mk) (a : Nat), a < m.S → (F m a).2 < (F m a).1.S) (p : Nat) (mn mx : Int) (m : Mk) (a : Nat) (ha : a < m.S) : (timesOf F p mn mx m a).2 < (timesOf F p mn mx m a).1.S := by
  unfold timesOf
  split
  · exact ha
  split
  · unfold again
    exact Nat.lt_succ_self _
  split
  · exact rounds_lt h _ (m, a) ha
  · exact joint_lt _
mutual
theorem lay_lt : ∀ (t : Tn) (m : Mk) (a : Nat), a < m.S → (lay t m a).2 < (lay t m a).1.S
  | .mk k s subs mn mx, m, a, ha => by
    rw [lay]
    split
    · exact Nat.lt_succ_self _
    split
    · exact seqs_lt subs m a ha
    split
    · exact joint_lt _
    split
    · exact times_lt (fun m a ha => heads_lt subs m a ha) _ _ _ _ _ ha
    · exact ha
theorem seqs_lt : ∀ (ts : List Tn) (m : Mk) (a : Nat), a < m.S → (seqs ts m a).2 < (seqs ts m a).1.S
  | [], m, a, ha => by rw [seqs]; exact ha
  | t :: ts, m, a, ha => by rw [seqs]; exact seqs_lt ts _ _ (lay_lt t m a ha)
theorem heads_lt : ∀ (ts : List Tn) (m : Mk) (a : Nat), a < m.S → (heads ts m a).2 < (heads ts m a).1.S
  | [], m, a, ha => by rw [heads]; exact ha
  | t :: _, m, a, ha => by rw [heads]; exact lay_lt t m a ha
end
/-- a tree of at most MaxPlaces places is laid in bounds -/
theorem lay_bounds {t : Tn} (h : (plc t).2 = true) (hp : ¬ 2048 < placesOf t) : (lay t ⟨1, []⟩ 0).1.S ≤ 2048 ∧ (lay t ⟨1, []⟩ 0).1.es.length ≤ 4096 := by
  obtain ⟨h1, h2⟩ := lay_size t h ⟨1, []⟩ 0
  have h3 := plc_raw t h
  unfold placesOf at hp
  rw [if_pos h, h3] at hp
  simp only [List.length_nil] at h1 h2
  omega
end Go.Proofs.Ytjmbimgofceanaa
