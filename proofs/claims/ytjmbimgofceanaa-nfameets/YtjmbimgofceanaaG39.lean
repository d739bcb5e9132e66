/- The program's way of alternatives. -/
import Derived.Test.YtjmbimgofceanaaG38
namespace Go.Proofs.Ytjmbimgofceanaa
open Go.RowKit
attribute [local go_sem ↓] Go.wp_at_zero Go.wp_at_succ

theorem alts_next {ts : List Tn} {i : Nat} {t : Tn} (h : ts[i]? = some t) (m : Mk) (a : Nat) (l : List Nat) : alts (ts.drop i) m a l = alts (ts.drop (i + 1)) (lay t (m.st.fr a m.S) m.S).1 a (l ++ [(lay t (m.st.fr a m.S) m.S).2]) := by
  have hlt := (List.getElem?_eq_some_iff.1 h).1
  rw [List.drop_eq_getElem_cons hlt, (List.getElem?_eq_some_iff.1 h).2, alts]
set_option maxRecDepth 20000 in
set_option maxHeartbeats 16000000 in
theorem way_alt {w0 : World} {B : Nat} {s : Oct.S} {subs : List Tn} {mn mx : Int} {a : Option Addr} {n c : Nat} {vs : List Nd} (hn : n = subs.length) (hl : vs.length = n) (hm : n ≤ 1000000) (hr : RowAt (fun b => b ≠ B) w0 a vs) (hs : ∀ (i : Nat) (t : Tn) (v : Nd), subs[i]? = some t → vs[i]? = some v → LayV w0 B t v) : WayV 48 w0 B (.mk 4 s subs mn mx) ⟨4, s, a, n, c, mn, mx⟩ := by
  intro w b0 Y m a0 hlow h0 hb hbb hS hE
  obtain ⟨R, hR⟩ : ∃ R, lay (.mk 4 s subs mn mx) m a0 = R := ⟨_, rfl⟩
  rw [hR] at hS hE ⊢
  have HR : Hid (joint (alts subs m a0 []) = R) := by show _ = _; rw [← hR, lay_mk]; simp
  have HIH : Hid (∀ (i : Nat) (t : Tn) (v : Nd), subs[i]? = some t → vs[i]? = some v → LayV w0 B t v) := hs
  have HRO : Hid (RowAt (fun b => b ≠ B) w0 a vs) := hr
  have HN : Hid (n = subs.length) := hn
  have HL : Hid (vs.length = n) := hl
  have HBS : Hid (R.1.S ≤ 1000000 ∧ R.1.es.length ≤ 1000000) := ⟨hS, hE⟩
  have HM0 : Hid (n ≤ 1000000) := hm
  clear hs hr hn hl hS hE hR
  have HSB : Hid (Sb w0 b0 B Y w.heap.size ⟨4, s, a, n, c, mn, mx⟩ w (w.alloc (.cells #[.int .i64 4, .int .u64 (Oct.word s 0 : Nat), .int .u64 (Oct.word s 1 : Nat), .int .u64 (Oct.word s 2 : Nat), .int .u64 (Oct.word s 3 : Nat), .slice a n c, .int .i64 mn, .int .i64 mx] 30)) m) := sb_start w0 ⟨4, s, a, n, c, mn, mx⟩ hbb hlow hb h0
  obtain ⟨w1, hw1⟩ : ∃ w1, w.alloc (.cells #[.int .i64 4, .int .u64 (Oct.word s 0 : Nat), .int .u64 (Oct.word s 1 : Nat), .int .u64 (Oct.word s 2 : Nat), .int .u64 (Oct.word s 3 : Nat), .slice a n c, .int .i64 mn, .int .i64 mx] 30) = w1 := ⟨_, rfl⟩
  rw [hw1] at HSB
  obtain ⟨A, hA⟩ : ∃ A, w.heap.size = A := ⟨_, rfl⟩
  rw [hA] at HSB
  have HW1 : Hid (w.alloc (.cells #[.int .i64 4, .int .u64 (Oct.word s 0 : Nat), .int .u64 (Oct.word s 1 : Nat), .int .u64 (Oct.word s 2 : Nat), .int .u64 (Oct.word s 3 : Nat), .slice a n c, .int .i64 mn, .int .i64 mx] 30) = w1) := hw1
  have HAA : Hid (w.heap.size = A) := hA
  have HB : Hid (b0 ≤ w.heap.size) := hb
  have H0 : Hid (w0.heap.size ≤ b0) := h0
  clear hw1 hA hb h0 hlow hbb
  obtain ⟨y0, y1, y2, y3, y4, y5, y6, y7⟩ := HSB.out.nb.cells
  simp only at y0 y1 y2 y3 y4 y5 y6 y7
  unfold Nd.val
  simp only
  go_enter Try.func48, Try.ntmps48
  go_upto_region 1 with fail
  rw [HW1.out, HAA.out]
  clear HW1
  go_wp2_with fail
  clear y0 y1 y2 y3 y4 y5 y6 y7
  go_loopw [7, 13] (fun ve i u => ∃ (j : Nat) (m' : Mk) (l : List Nat), i = .int .i64 (j : Nat) ∧ j ≤ n ∧ Hid (l.length = j) ∧ Hid (joint (alts (subs.drop j) m' a0 l) = R) ∧ Hid (RowI u w.heap.size ve l) ∧ Hid (Sb w0 b0 B Y A ⟨4, s, a, n, c, mn, mx⟩ w u m')) (fun _ i _ => n - (intOf i).toNat)
  case atStart => exact ⟨0, m, [], rfl, Nat.zero_le _, rfl, HR, rowI_nil _ _, HSB⟩
  case round =>
    clear HSB HR
    obtain ⟨j, m', l, rfl, hjn, HLJ, HRj, HIj, HSj⟩ := hrel
    by_cases hlt : j < n
    · have hlt' : (j : Int) < (n : Int) := by omega
      obtain ⟨t, ht⟩ : ∃ t, subs[j]? = some t := ⟨_, List.getElem?_eq_getElem (by rw [← HN.out]; exact hlt)⟩
      obtain ⟨v, hv⟩ : ∃ v, vs[j]? = some v := ⟨_, List.getElem?_eq_getElem (by rw [HL.out]; exact hlt)⟩
      have HT : Hid (subs[j]? = some t ∧ vs[j]? = some v) := ⟨ht, hv⟩
      clear ht hv
      have HRn : Hid (joint (alts (subs.drop (j + 1)) (lay t (m'.st.fr a0 m'.S) m'.S).1 a0 (l ++ [(lay t (m'.st.fr a0 m'.S) m'.S).2])) = R) := by show _ = _; rw [← alts_next HT.out.1]; exact HRj.out
      have HLE : Hid ((lay t (m'.st.fr a0 m'.S) m'.S).1.le R.1) := by rw [← HRn.out]; exact (alts_le _ _ _ _).trans (joint_le _)
      have HLQ : Hid ((m'.st.fr a0 m'.S).le (lay t (m'.st.fr a0 m'.S) m'.S).1) := lay_le t _ _
      have hS : m'.S + 1 ≤ 1000000 := Nat.le_trans (Nat.le_trans HLQ.out.1 HLE.out.1) HBS.out.1
      have hE : m'.es.length + 1 ≤ 1000000 := by have := Nat.le_trans (Nat.le_trans HLQ.out.2 HLE.out.2) HBS.out.2; simpa [Mk.st, Mk.fr, Mk.ed] using this
      obtain ⟨r, hr⟩ : ∃ r, lay t (m'.st.fr a0 m'.S) m'.S = r := ⟨_, rfl⟩
      have HRR : Hid (lay t (m'.st.fr a0 m'.S) m'.S = r) := hr
      rw [hr] at HRn HLE
      clear hr HLQ
      have hrow := (HRO.out.keep (w' := wr) (Y := fun _ => True) (fun _ _ _ => trivial) (fun b hb hlt => HSj.out.low.2 b hlt hb)).nth HT.out.2
      obtain ⟨g, off, rfl, e0, e1, e2, e3, e4, e5, e6, e7⟩ := hrow
      have kk : Below wr.heap.size wr (wr.alloc (.cells #[.int .i64 v.k, .int .u64 (Oct.word v.s 0 : Nat), .int .u64 (Oct.word v.s 1 : Nat), .int .u64 (Oct.word v.s 2 : Nat), .int .u64 (Oct.word v.s 3 : Nat), .slice v.a v.n v.c, .int .i64 v.mn, .int .i64 v.mx] 30)) := (Below.refl _ _).alloc (Nat.le_refl _) _
      have HS2 : Hid (Sb w0 b0 B Y A ⟨4, s, some ⟨g, off, none⟩, n, c, mn, mx⟩ w (wr.alloc (.cells #[.int .i64 v.k, .int .u64 (Oct.word v.s 0 : Nat), .int .u64 (Oct.word v.s 1 : Nat), .int .u64 (Oct.word v.s 2 : Nat), .int .u64 (Oct.word v.s 3 : Nat), .slice v.a v.n v.c, .int .i64 v.mn, .int .i64 v.mx] 30)) m') := HSj.out.later kk
      have HNV : Hid (NB (wr.alloc (.cells #[.int .i64 v.k, .int .u64 (Oct.word v.s 0 : Nat), .int .u64 (Oct.word v.s 1 : Nat), .int .u64 (Oct.word v.s 2 : Nat), .int .u64 (Oct.word v.s 3 : Nat), .slice v.a v.n v.c, .int .i64 v.mn, .int .i64 v.mx] 30)) wr.heap.size v) := nb_new wr v
      have HI2 : Hid (RowI (wr.alloc (.cells #[.int .i64 v.k, .int .u64 (Oct.word v.s 0 : Nat), .int .u64 (Oct.word v.s 1 : Nat), .int .u64 (Oct.word v.s 2 : Nat), .int .u64 (Oct.word v.s 3 : Nat), .slice v.a v.n v.c, .int .i64 v.mn, .int .i64 v.mx] 30)) w.heap.size u7 l) := HIj.out.keep (fun b _ hlt _ => kk.block b hlt)
      go_upto_region 5 with fail
      obtain ⟨w2, hw2⟩ : ∃ w2, wr.alloc (.cells #[.int .i64 v.k, .int .u64 (Oct.word v.s 0 : Nat), .int .u64 (Oct.word v.s 1 : Nat), .int .u64 (Oct.word v.s 2 : Nat), .int .u64 (Oct.word v.s 3 : Nat), .slice v.a v.n v.c, .int .i64 v.mn, .int .i64 v.mx] 30) = w2 := ⟨_, rfl⟩
      obtain ⟨A2, hA2⟩ : ∃ A2, wr.heap.size = A2 := ⟨_, rfl⟩
      rw [hw2] at HS2 HNV HI2 ⊢
      rw [hA2] at HNV ⊢
      clear hw2 hA2 kk HSj HIj e0 e1 e2 e3 e4 e5 e6 e7
      have HSd : Hid (Sb w0 b0 B Y A ⟨4, s, some ⟨g, off, none⟩, n, c, mn, mx⟩ w w2.drew m') := HS2.out.later ((Below.refl _ _).drew)
      have HNd : Hid (NB w2.drew A2 v) := HNV.out
      have HId : Hid (RowI w2.drew w.heap.size u7 l) := HI2.out
      refine reg48 (B := B) (A := A2) (a := a0) (s := m'.S) (e := r.2) (V := u7) (v := v) (P1 := fun u => Sb w0 b0 B Y A ⟨4, s, some ⟨g, off, none⟩, n, c, mn, mx⟩ w u (m'.st.fr a0 m'.S) ∧ NB u A2 v ∧ RowI u w.heap.size u7 l) (P2 := fun u => Sb w0 b0 B Y A ⟨4, s, some ⟨g, off, none⟩, n, c, mn, mx⟩ w u r.1 ∧ RowI u w.heap.size u7 l) (P3 := fun gg u => Sb w0 b0 B Y A ⟨4, s, some ⟨g, off, none⟩, n, c, mn, mx⟩ w u r.1 ∧ RowI u w.heap.size u7 l ∧ u.cell? ⟨gg, 0, none⟩ = some (.int .i64 (r.2 : Nat))) (P4 := fun V' u => Sb w0 b0 B Y A ⟨4, s, some ⟨g, off, none⟩, n, c, mn, mx⟩ w u r.1 ∧ RowI u w.heap.size V' (l ++ [r.2])) rfl rfl rfl rfl rfl HNV.out (fun u h => h.2.1) ?h1 ?h2 ?h3 ?h4 ?K
      case h1 =>
        refine (fork_any B b0 Y m' a0 w2.drew HSd.out.bb HSd.out.sz (by omega) (by omega)).mono ?_
        rintro e u ⟨rfl, g1, g2⟩
        exact ⟨rfl, HSd.out.call g1 g2, g2.keep HNd.out (HSd.out.bb.ne ⟨_, _, HNd.out⟩ (by decide)) (by decide), HId.out.fmb HSd.out.bb g2⟩
      case h2 =>
        rintro u ⟨p1, p2, p3⟩
        have HC := HIH.out j t v HT.out.1 HT.out.2 u b0 Y (m'.st.fr a0 m'.S) m'.S p1.low H0.out p1.sz p1.bb (by rw [HRR.out]; exact Nat.le_trans HLE.out.1 HBS.out.1) (by rw [HRR.out]; exact Nat.le_trans HLE.out.2 HBS.out.2)
        rw [HRR.out] at HC
        refine HC.mono ?_
        rintro e u2 ⟨rfl, g1, g2⟩
        exact ⟨rfl, p1.call g1 g2, p3.fmb p1.bb g2⟩
      case h3 =>
        rintro u ⟨p1, p2⟩
        have kk : Below u.heap.size u (u.alloc (.cells #[.int .i64 (r.2 : Nat)] 3)) := (Below.refl _ _).alloc (Nat.le_refl _) _
        exact ⟨p1.later kk, p2.keep (fun b _ hlt _ => kk.block b hlt), by rw [World.cell?_alloc_mark]; rfl⟩
      case h4 =>
        rintro g' u ty ⟨p1, p2, p3⟩
        obtain ⟨g2, cap, u', q1, q2, q3⟩ := run_append_int u ty w.heap.size u7 l p2 ⟨g', 0, none⟩ 1 r.2 p3 (by have := HLJ.out; have := HM0.out; omega) p1.fm.size
        exact ⟨_, u', q1, p1.own q3 p2.ty HB.out, q2⟩
      case K =>
        rintro a' W' V' hfr h7 ⟨p1, p2⟩
        rw [fr48_lit hfr rfl, h7]
        have HS6 : Hid (Sb w0 b0 B Y A ⟨4, s, some ⟨g, off, none⟩, n, c, mn, mx⟩ w W' r.1) := p1
        have HI6 : Hid (RowI W' w.heap.size V' (l ++ [r.2])) := p2
        clear p1 p2 h7 HS2 HNV HI2 HSd HNd HId
        obtain ⟨v17, e17⟩ : ∃ v, v = T a' 17 := ⟨_, rfl⟩
        obtain ⟨v18, e18⟩ : ∃ v, v = T a' 18 := ⟨_, rfl⟩
        obtain ⟨v19, e19⟩ : ∃ v, v = T a' 19 := ⟨_, rfl⟩
        obtain ⟨v20, e20⟩ : ∃ v, v = T a' 20 := ⟨_, rfl⟩
        obtain ⟨v21, e21⟩ : ∃ v, v = T a' 21 := ⟨_, rfl⟩
        obtain ⟨v22, e22⟩ : ∃ v, v = T a' 22 := ⟨_, rfl⟩
        obtain ⟨v23, e23⟩ : ∃ v, v = T a' 23 := ⟨_, rfl⟩
        obtain ⟨v24, e24⟩ : ∃ v, v = T a' 24 := ⟨_, rfl⟩
        obtain ⟨v25, e25⟩ : ∃ v, v = T a' 25 := ⟨_, rfl⟩
        rw [← e17, ← e18, ← e19, ← e20, ← e21, ← e22, ← e23, ← e24, ← e25]
        clear e17 e18 e19 e20 e21 e22 e23 e24 e25
        clear hfr
        go_wp2
        go_roundw
        case rel => exact ⟨j + 1, r.1, l ++ [r.2], by go_num, by omega, (by have := HLJ.out; show _ = _; simp; omega), HRn, HI6, HS6⟩
        case measure => simp [intOf]; omega
    · have hlt' : ¬ (j : Int) < (n : Int) := by omega
      have HRF : Hid (joint (m', l) = R) := by
        show _ = _
        rw [← HRj.out, List.drop_of_length_le (by rw [← HN.out]; omega), alts]
      clear HIH HRO HRj
      obtain ⟨oa, oc, hV, hlc, hcm⟩ := HIj.out.form
      subst hV
      obtain ⟨N, hN⟩ : ∃ N, l.length = N := ⟨_, rfl⟩
      rw [hN] at HIj hlc ⊢
      simp only [maxLen] at hcm
      have HC : Hid (Calls Try.prog 70 #[.pointer (some ⟨B, 0, none⟩), .slice oa N oc] wr _) := bjoin_any B b0 Y w.heap.size m' l oa N oc wr hN HSj.out.bb HSj.out.sz HIj.out (by rw [HRF.out]; exact HBS.out.1) (by rw [HRF.out]; exact HBS.out.2)
      rw [HRF.out] at HC
      clear hN hlc hcm HRF
      go_wp2_with fail
      refine HC.out.mono ?_
      rintro e w4 ⟨rfl, h4, f4⟩
      have HS4 : Hid (Sb w0 b0 B Y A ⟨4, s, a, n, c, mn, mx⟩ w w4 R.1) := HSj.out.call h4 f4
      clear h4 f4 HC HSj HIj
      go_wp2
      go_ret
      exact ⟨rfl, HS4.out.bb, HS4.out.fm⟩
end Go.Proofs.Ytjmbimgofceanaa

/- The program's way of a row. -/
namespace Go.Proofs.Ytjmbimgofceanaa
open Go.RowKit
attribute [local go_sem ↓] Go.wp_at_zero Go.wp_at_succ

theorem seqs_next {ts : List Tn} {i : Nat} {t : Tn} (h : ts[i]? = some t) (m : Mk) (a : Nat) : seqs (ts.drop i) m a = seqs (ts.drop (i + 1)) (lay t m a).1 (lay t m a).2 := by
  have hlt := (List.getElem?_eq_some_iff.1 h).1
  rw [List.drop_eq_getElem_cons hlt, (List.getElem?_eq_some_iff.1 h).2, seqs]
set_option maxRecDepth 4000 in
set_option maxHeartbeats 8000000 in
theorem way_seq {w0 : World} {B : Nat} {s : Oct.S} {subs : List Tn} {mn mx : Int} {a : Option Addr} {n c : Nat} {vs : List Nd} (hn : n = subs.length) (hl : vs.length = n) (hm : n ≤ 1000000) (hr : RowAt (fun b => b ≠ B) w0 a vs) (hs : ∀ (i : Nat) (t : Tn) (v : Nd), subs[i]? = some t → vs[i]? = some v → LayV w0 B t v) : WayV 47 w0 B (.mk 3 s subs mn mx) ⟨3, s, a, n, c, mn, mx⟩ := by
  intro w b0 Y m a0 hlow h0 hb hbb hS hE
  obtain ⟨R, hR⟩ : ∃ R, lay (.mk 3 s subs mn mx) m a0 = R := ⟨_, rfl⟩
  rw [hR] at hS hE ⊢
  have HR : Hid (seqs subs m a0 = R) := by show _ = _; rw [← hR, lay_mk]; simp
  have HIH : Hid (∀ (i : Nat) (t : Tn) (v : Nd), subs[i]? = some t → vs[i]? = some v → LayV w0 B t v) := hs
  have HRO : Hid (RowAt (fun b => b ≠ B) w0 a vs) := hr
  have HN : Hid (n = subs.length) := hn
  have HL : Hid (vs.length = n) := hl
  have HBS : Hid (R.1.S ≤ 1000000 ∧ R.1.es.length ≤ 1000000) := ⟨hS, hE⟩
  have HM0 : Hid (n ≤ 1000000) := hm
  clear hs hr hn hl hS hE hR
  have HSB : Hid (Sb w0 b0 B Y w.heap.size ⟨3, s, a, n, c, mn, mx⟩ w (w.alloc (.cells #[.int .i64 3, .int .u64 (Oct.word s 0 : Nat), .int .u64 (Oct.word s 1 : Nat), .int .u64 (Oct.word s 2 : Nat), .int .u64 (Oct.word s 3 : Nat), .slice a n c, .int .i64 mn, .int .i64 mx] 30)) m) := sb_start w0 ⟨3, s, a, n, c, mn, mx⟩ hbb hlow hb h0
  obtain ⟨w1, hw1⟩ : ∃ w1, w.alloc (.cells #[.int .i64 3, .int .u64 (Oct.word s 0 : Nat), .int .u64 (Oct.word s 1 : Nat), .int .u64 (Oct.word s 2 : Nat), .int .u64 (Oct.word s 3 : Nat), .slice a n c, .int .i64 mn, .int .i64 mx] 30) = w1 := ⟨_, rfl⟩
  rw [hw1] at HSB
  obtain ⟨A, hA⟩ : ∃ A, w.heap.size = A := ⟨_, rfl⟩
  rw [hA] at HSB
  have HW1 : Hid (w.alloc (.cells #[.int .i64 3, .int .u64 (Oct.word s 0 : Nat), .int .u64 (Oct.word s 1 : Nat), .int .u64 (Oct.word s 2 : Nat), .int .u64 (Oct.word s 3 : Nat), .slice a n c, .int .i64 mn, .int .i64 mx] 30) = w1) := hw1
  have HAA : Hid (w.heap.size = A) := hA
  have HB : Hid (b0 ≤ w.heap.size) := hb
  have H0 : Hid (w0.heap.size ≤ b0) := h0
  clear hw1 hA hb h0 hlow hbb
  obtain ⟨y0, y1, y2, y3, y4, y5, y6, y7⟩ := HSB.out.nb.cells
  simp only at y0 y1 y2 y3 y4 y5 y6 y7
  unfold Nd.val
  simp only
  go_enter Try.func47, Try.ntmps47
  go_upto_region 1 with fail
  rw [HW1.out, HAA.out]
  clear HW1
  go_wp2_with fail
  clear y0 y1 y2 y3 y4 y5 y6 y7
  go_loopw [2, 12] (fun va i u => ∃ (j : Nat) (m' : Mk) (a' : Nat), va = .int .i64 (a' : Nat) ∧ i = .int .i64 (j : Nat) ∧ j ≤ n ∧ Hid (seqs (subs.drop j) m' a' = R) ∧ Hid (Sb w0 b0 B Y A ⟨3, s, a, n, c, mn, mx⟩ w u m')) (fun _ i _ => n - (intOf i).toNat)
  case atStart => exact ⟨0, m, a0, rfl, rfl, Nat.zero_le _, HR, HSB⟩
  case round =>
    clear HSB HR
    obtain ⟨j, m', a', rfl, rfl, hjn, HRj, HSj⟩ := hrel
    by_cases hlt : j < n
    · have hlt' : (j : Int) < (n : Int) := by omega
      obtain ⟨t, ht⟩ : ∃ t, subs[j]? = some t := ⟨_, List.getElem?_eq_getElem (by rw [← HN.out]; exact hlt)⟩
      obtain ⟨v, hv⟩ : ∃ v, vs[j]? = some v := ⟨_, List.getElem?_eq_getElem (by rw [HL.out]; exact hlt)⟩
      have hrow := (HRO.out.keep (w' := wr) (Y := fun _ => True) (fun _ _ _ => trivial) (fun b hb hlt => HSj.out.low.2 b hlt hb)).nth hv
      obtain ⟨g, off, rfl, e0, e1, e2, e3, e4, e5, e6, e7⟩ := hrow
      have HRn : Hid (seqs (subs.drop (j + 1)) (lay t m' a').1 (lay t m' a').2 = R) := (seqs_next ht m' a').symm.trans HRj.out
      have hle := seqs_le (subs.drop (j + 1)) (lay t m' a').1 (lay t m' a').2
      rw [HRn.out] at hle
      have kk : Below wr.heap.size wr (wr.alloc (.cells #[.int .i64 v.k, .int .u64 (Oct.word v.s 0 : Nat), .int .u64 (Oct.word v.s 1 : Nat), .int .u64 (Oct.word v.s 2 : Nat), .int .u64 (Oct.word v.s 3 : Nat), .slice v.a v.n v.c, .int .i64 v.mn, .int .i64 v.mx] 30)) := (Below.refl _ _).alloc (Nat.le_refl _) _
      have HS2 : Hid (Sb w0 b0 B Y A ⟨3, s, some ⟨g, off, none⟩, n, c, mn, mx⟩ w (wr.alloc (.cells #[.int .i64 v.k, .int .u64 (Oct.word v.s 0 : Nat), .int .u64 (Oct.word v.s 1 : Nat), .int .u64 (Oct.word v.s 2 : Nat), .int .u64 (Oct.word v.s 3 : Nat), .slice v.a v.n v.c, .int .i64 v.mn, .int .i64 v.mx] 30)) m') := HSj.out.later kk
      have HNV : Hid (NB (wr.alloc (.cells #[.int .i64 v.k, .int .u64 (Oct.word v.s 0 : Nat), .int .u64 (Oct.word v.s 1 : Nat), .int .u64 (Oct.word v.s 2 : Nat), .int .u64 (Oct.word v.s 3 : Nat), .slice v.a v.n v.c, .int .i64 v.mn, .int .i64 v.mx] 30)) wr.heap.size v) := nb_new wr v
      go_upto_region 4 with fail
      obtain ⟨w2, hw2⟩ : ∃ w2, wr.alloc (.cells #[.int .i64 v.k, .int .u64 (Oct.word v.s 0 : Nat), .int .u64 (Oct.word v.s 1 : Nat), .int .u64 (Oct.word v.s 2 : Nat), .int .u64 (Oct.word v.s 3 : Nat), .slice v.a v.n v.c, .int .i64 v.mn, .int .i64 v.mx] 30) = w2 := ⟨_, rfl⟩
      obtain ⟨A2, hA2⟩ : ∃ A2, wr.heap.size = A2 := ⟨_, rfl⟩
      rw [hw2] at HS2 HNV ⊢
      rw [hA2] at HNV ⊢
      clear hw2 hA2 kk HSj e0 e1 e2 e3 e4 e5 e6 e7
      obtain ⟨y0, y1, y2, y3, y4, y5, y6, y7⟩ := HNV.out.cells
      have HC : Hid (Calls Try.prog 29 #[.pointer (some ⟨B, 0, none⟩), v.val, .int .i64 (a' : Nat)] w2 _) := HIH.out j t v ht hv w2 b0 Y m' a' HS2.out.low H0.out HS2.out.sz HS2.out.bb (Nat.le_trans hle.1 HBS.out.1) (Nat.le_trans hle.2 HBS.out.2)
      obtain ⟨r, hr⟩ : ∃ r, lay t m' a' = r := ⟨_, rfl⟩
      rw [hr] at HC HRn
      clear hr hle ht hv HRj
      unfold Nd.val at HC
      go_wp2_with fail
      refine HC.out.mono ?_
      rintro e w4 ⟨rfl, h4, f4⟩
      have HS4 : Hid (Sb w0 b0 B Y A ⟨3, s, some ⟨g, off, none⟩, n, c, mn, mx⟩ w w4 r.1) := HS2.out.call h4 f4
      clear h4 f4 HC HS2 HNV y0 y1 y2 y3 y4 y5 y6 y7
      go_wp2
      go_roundw
      case rel => exact ⟨j + 1, r.1, r.2, rfl, by go_num, by omega, HRn, HS4⟩
      case measure => simp [intOf]; omega
    · have hlt' : ¬ (j : Int) < (n : Int) := by omega
      have HE : Hid (R = (m', a')) := by
        show _ = _
        rw [← HRj.out, List.drop_of_length_le (by rw [← HN.out]; omega), seqs]
      have HM : Hid (BB wr b0 B Y m' ∧ Fm b0 B w wr) := ⟨HSj.out.bb, HSj.out.fm⟩
      clear HIH HRO HBS HRj
      go_wp2
      go_ret
      rw [HE.out]
      exact ⟨rfl, HM.out.1, HM.out.2⟩
end Go.Proofs.Ytjmbimgofceanaa

/- The program's ways of a set, an anchor, of nothing. -/
namespace Go.Proofs.Ytjmbimgofceanaa
open Go.RowKit
attribute [local go_sem ↓] Go.wp_at_zero Go.wp_at_succ

set_option maxRecDepth 4000 in
set_option maxHeartbeats 8000000 in
theorem way_2 {w0 : World} {B : Nat} {s : Oct.S} {subs : List Tn} {mn mx : Int} {a : Option Addr} {n c : Nat} {vs : List Nd} (hn : n = subs.length) (hl : vs.length = n) (hm : n ≤ 1000000) (hr : RowAt (fun b => b ≠ B) w0 a vs) (hs : ∀ (i : Nat) (t : Tn) (v : Nd), subs[i]? = some t → vs[i]? = some v → LayV w0 B t v) : WayV 46 w0 B (.mk 2 s subs mn mx) ⟨2, s, a, n, c, mn, mx⟩ := by
  intro w b0 Y m a0 hlow h0 hb hbb hS hE
  obtain ⟨R, hR⟩ : ∃ R, lay (.mk 2 s subs mn mx) m a0 = R := ⟨_, rfl⟩
  rw [hR] at hS hE ⊢
  have HR : Hid ((m.st.ed ⟨2, a0, m.S, s⟩, m.S) = R) := by show _ = _; rw [← hR, lay_mk]; simp
  have HIH : Hid (∀ (i : Nat) (t : Tn) (v : Nd), subs[i]? = some t → vs[i]? = some v → LayV w0 B t v) := hs
  have HRO : Hid (RowAt (fun b => b ≠ B) w0 a vs) := hr
  have HN : Hid (n = subs.length) := hn
  have HL : Hid (vs.length = n) := hl
  have HBS : Hid (R.1.S ≤ 1000000 ∧ R.1.es.length ≤ 1000000) := ⟨hS, hE⟩
  have HM0 : Hid (n ≤ 1000000) := hm
  clear hs hr hn hl hS hE hR
  have HSB : Hid (Sb w0 b0 B Y w.heap.size ⟨2, s, a, n, c, mn, mx⟩ w (w.alloc (.cells #[.int .i64 2, .int .u64 (Oct.word s 0 : Nat), .int .u64 (Oct.word s 1 : Nat), .int .u64 (Oct.word s 2 : Nat), .int .u64 (Oct.word s 3 : Nat), .slice a n c, .int .i64 mn, .int .i64 mx] 30)) m) := sb_start w0 ⟨2, s, a, n, c, mn, mx⟩ hbb hlow hb h0
  obtain ⟨w1, hw1⟩ : ∃ w1, w.alloc (.cells #[.int .i64 2, .int .u64 (Oct.word s 0 : Nat), .int .u64 (Oct.word s 1 : Nat), .int .u64 (Oct.word s 2 : Nat), .int .u64 (Oct.word s 3 : Nat), .slice a n c, .int .i64 mn, .int .i64 mx] 30) = w1 := ⟨_, rfl⟩
  rw [hw1] at HSB
  obtain ⟨A, hA⟩ : ∃ A, w.heap.size = A := ⟨_, rfl⟩
  rw [hA] at HSB
  have HW1 : Hid (w.alloc (.cells #[.int .i64 2, .int .u64 (Oct.word s 0 : Nat), .int .u64 (Oct.word s 1 : Nat), .int .u64 (Oct.word s 2 : Nat), .int .u64 (Oct.word s 3 : Nat), .slice a n c, .int .i64 mn, .int .i64 mx] 30) = w1) := hw1
  have HAA : Hid (w.heap.size = A) := hA
  have HB : Hid (b0 ≤ w.heap.size) := hb
  have H0 : Hid (w0.heap.size ≤ b0) := h0
  clear hw1 hA hb h0 hlow hbb
  obtain ⟨y0, y1, y2, y3, y4, y5, y6, y7⟩ := HSB.out.nb.cells
  simp only at y0 y1 y2 y3 y4 y5 y6 y7
  unfold Nd.val
  simp only
  go_enter Try.func46, Try.ntmps46
  go_upto_region 1 with fail
  rw [HW1.out, HAA.out]
  clear HW1
  clear HIH HRO
  have hgr : m.S + 1 ≤ 1000000 := by have := HBS.out.1; rw [← HR.out] at this; exact this
  have hge : m.es.length + 1 ≤ 1000000 := by have := HBS.out.2; rw [← HR.out] at this; simpa [Mk.st, Mk.ed] using this
  have HC : Hid (Calls Try.prog 68 #[.pointer (some ⟨B, 0, none⟩), .int .i64 2, .int .i64 (a0 : Nat), setV s] w1 _) := onward_any B b0 Y m 2 a0 s w1 HSB.out.bb HSB.out.sz (by omega) (by omega)
  unfold setV at HC
  go_wp2_with fail
  refine HC.out.mono ?_
  rintro e w2 ⟨rfl, h2, f2⟩
  have HS2 : Hid (Sb w0 b0 B Y A ⟨2, s, a, n, c, mn, mx⟩ w w2 (m.st.ed ⟨2, a0, m.S, s⟩)) := HSB.out.call h2 f2
  clear h2 f2 HSB HC y0 y1 y2 y3 y4 y5 y6 y7
  go_wp2
  go_ret
  rw [← HR.out]
  exact ⟨rfl, HS2.out.bb, HS2.out.fm⟩
set_option maxRecDepth 4000 in
set_option maxHeartbeats 8000000 in
theorem way_6 {w0 : World} {B : Nat} {s : Oct.S} {subs : List Tn} {mn mx : Int} {a : Option Addr} {n c : Nat} {vs : List Nd} (hn : n = subs.length) (hl : vs.length = n) (hm : n ≤ 1000000) (hr : RowAt (fun b => b ≠ B) w0 a vs) (hs : ∀ (i : Nat) (t : Tn) (v : Nd), subs[i]? = some t → vs[i]? = some v → LayV w0 B t v) (hno : noSet s = true) : WayV 50 w0 B (.mk 6 s subs mn mx) ⟨6, s, a, n, c, mn, mx⟩ := by
  have hz : Oct.word s 0 = 0 ∧ Oct.word s 1 = 0 ∧ Oct.word s 2 = 0 ∧ Oct.word s 3 = 0 := by
    unfold noSet at hno
    simp at hno
    omega
  have HZS : Hid (Oct.word s 0 = 0 ∧ Oct.word s 1 = 0 ∧ Oct.word s 2 = 0 ∧ Oct.word s 3 = 0) := hz
  clear hz hno
  intro w b0 Y m a0 hlow h0 hb hbb hS hE
  obtain ⟨R, hR⟩ : ∃ R, lay (.mk 6 s subs mn mx) m a0 = R := ⟨_, rfl⟩
  rw [hR] at hS hE ⊢
  have HR : Hid ((m.st.ed ⟨3, a0, m.S, s⟩, m.S) = R) := by show _ = _; rw [← hR, lay_mk]; simp
  have HIH : Hid (∀ (i : Nat) (t : Tn) (v : Nd), subs[i]? = some t → vs[i]? = some v → LayV w0 B t v) := hs
  have HRO : Hid (RowAt (fun b => b ≠ B) w0 a vs) := hr
  have HN : Hid (n = subs.length) := hn
  have HL : Hid (vs.length = n) := hl
  have HBS : Hid (R.1.S ≤ 1000000 ∧ R.1.es.length ≤ 1000000) := ⟨hS, hE⟩
  have HM0 : Hid (n ≤ 1000000) := hm
  clear hs hr hn hl hS hE hR
  have HSB : Hid (Sb w0 b0 B Y w.heap.size ⟨6, s, a, n, c, mn, mx⟩ w (w.alloc (.cells #[.int .i64 6, .int .u64 (Oct.word s 0 : Nat), .int .u64 (Oct.word s 1 : Nat), .int .u64 (Oct.word s 2 : Nat), .int .u64 (Oct.word s 3 : Nat), .slice a n c, .int .i64 mn, .int .i64 mx] 30)) m) := sb_start w0 ⟨6, s, a, n, c, mn, mx⟩ hbb hlow hb h0
  obtain ⟨w1, hw1⟩ : ∃ w1, w.alloc (.cells #[.int .i64 6, .int .u64 (Oct.word s 0 : Nat), .int .u64 (Oct.word s 1 : Nat), .int .u64 (Oct.word s 2 : Nat), .int .u64 (Oct.word s 3 : Nat), .slice a n c, .int .i64 mn, .int .i64 mx] 30) = w1 := ⟨_, rfl⟩
  rw [hw1] at HSB
  obtain ⟨A, hA⟩ : ∃ A, w.heap.size = A := ⟨_, rfl⟩
  rw [hA] at HSB
  have HW1 : Hid (w.alloc (.cells #[.int .i64 6, .int .u64 (Oct.word s 0 : Nat), .int .u64 (Oct.word s 1 : Nat), .int .u64 (Oct.word s 2 : Nat), .int .u64 (Oct.word s 3 : Nat), .slice a n c, .int .i64 mn, .int .i64 mx] 30) = w1) := hw1
  have HAA : Hid (w.heap.size = A) := hA
  have HB : Hid (b0 ≤ w.heap.size) := hb
  have H0 : Hid (w0.heap.size ≤ b0) := h0
  clear hw1 hA hb h0 hlow hbb
  obtain ⟨y0, y1, y2, y3, y4, y5, y6, y7⟩ := HSB.out.nb.cells
  simp only at y0 y1 y2 y3 y4 y5 y6 y7
  unfold Nd.val
  simp only
  go_enter Try.func50, Try.ntmps50
  go_upto_region 1 with fail
  rw [HW1.out, HAA.out]
  clear HW1
  clear HIH HRO
  have hgr : m.S + 1 ≤ 1000000 := by have := HBS.out.1; rw [← HR.out] at this; exact this
  have hge : m.es.length + 1 ≤ 1000000 := by have := HBS.out.2; rw [← HR.out] at this; simpa [Mk.st, Mk.ed] using this
  have HC : Hid (Calls Try.prog 68 #[.pointer (some ⟨B, 0, none⟩), .int .i64 3, .int .i64 (a0 : Nat), setV s] w1 _) := onward_any B b0 Y m 3 a0 s w1 HSB.out.bb HSB.out.sz (by omega) (by omega)
  unfold setV at HC
  rw [HZS.out.1, HZS.out.2.1, HZS.out.2.2.1, HZS.out.2.2.2] at HC
  simp only [Int.natCast_zero] at HC
  go_wp2_with fail
  refine HC.out.mono ?_
  rintro e w2 ⟨rfl, h2, f2⟩
  have HS2 : Hid (Sb w0 b0 B Y A ⟨6, s, a, n, c, mn, mx⟩ w w2 (m.st.ed ⟨3, a0, m.S, s⟩)) := HSB.out.call h2 f2
  clear h2 f2 HSB HC y0 y1 y2 y3 y4 y5 y6 y7
  go_wp2
  go_ret
  rw [← HR.out]
  exact ⟨rfl, HS2.out.bb, HS2.out.fm⟩
set_option maxRecDepth 4000 in
set_option maxHeartbeats 8000000 in
theorem way_7 {w0 : World} {B : Nat} {s : Oct.S} {subs : List Tn} {mn mx : Int} {a : Option Addr} {n c : Nat} {vs : List Nd} (hn : n = subs.length) (hl : vs.length = n) (hm : n ≤ 1000000) (hr : RowAt (fun b => b ≠ B) w0 a vs) (hs : ∀ (i : Nat) (t : Tn) (v : Nd), subs[i]? = some t → vs[i]? = some v → LayV w0 B t v) (hno : noSet s = true) : WayV 51 w0 B (.mk 7 s subs mn mx) ⟨7, s, a, n, c, mn, mx⟩ := by
  have hz : Oct.word s 0 = 0 ∧ Oct.word s 1 = 0 ∧ Oct.word s 2 = 0 ∧ Oct.word s 3 = 0 := by
    unfold noSet at hno
    simp at hno
    omega
  have HZS : Hid (Oct.word s 0 = 0 ∧ Oct.word s 1 = 0 ∧ Oct.word s 2 = 0 ∧ Oct.word s 3 = 0) := hz
  clear hz hno
  intro w b0 Y m a0 hlow h0 hb hbb hS hE
  obtain ⟨R, hR⟩ : ∃ R, lay (.mk 7 s subs mn mx) m a0 = R := ⟨_, rfl⟩
  rw [hR] at hS hE ⊢
  have HR : Hid ((m.st.ed ⟨4, a0, m.S, s⟩, m.S) = R) := by show _ = _; rw [← hR, lay_mk]; simp
  have HIH : Hid (∀ (i : Nat) (t : Tn) (v : Nd), subs[i]? = some t → vs[i]? = some v → LayV w0 B t v) := hs
  have HRO : Hid (RowAt (fun b => b ≠ B) w0 a vs) := hr
  have HN : Hid (n = subs.length) := hn
  have HL : Hid (vs.length = n) := hl
  have HBS : Hid (R.1.S ≤ 1000000 ∧ R.1.es.length ≤ 1000000) := ⟨hS, hE⟩
  have HM0 : Hid (n ≤ 1000000) := hm
  clear hs hr hn hl hS hE hR
  have HSB : Hid (Sb w0 b0 B Y w.heap.size ⟨7, s, a, n, c, mn, mx⟩ w (w.alloc (.cells #[.int .i64 7, .int .u64 (Oct.word s 0 : Nat), .int .u64 (Oct.word s 1 : Nat), .int .u64 (Oct.word s 2 : Nat), .int .u64 (Oct.word s 3 : Nat), .slice a n c, .int .i64 mn, .int .i64 mx] 30)) m) := sb_start w0 ⟨7, s, a, n, c, mn, mx⟩ hbb hlow hb h0
  obtain ⟨w1, hw1⟩ : ∃ w1, w.alloc (.cells #[.int .i64 7, .int .u64 (Oct.word s 0 : Nat), .int .u64 (Oct.word s 1 : Nat), .int .u64 (Oct.word s 2 : Nat), .int .u64 (Oct.word s 3 : Nat), .slice a n c, .int .i64 mn, .int .i64 mx] 30) = w1 := ⟨_, rfl⟩
  rw [hw1] at HSB
  obtain ⟨A, hA⟩ : ∃ A, w.heap.size = A := ⟨_, rfl⟩
  rw [hA] at HSB
  have HW1 : Hid (w.alloc (.cells #[.int .i64 7, .int .u64 (Oct.word s 0 : Nat), .int .u64 (Oct.word s 1 : Nat), .int .u64 (Oct.word s 2 : Nat), .int .u64 (Oct.word s 3 : Nat), .slice a n c, .int .i64 mn, .int .i64 mx] 30) = w1) := hw1
  have HAA : Hid (w.heap.size = A) := hA
  have HB : Hid (b0 ≤ w.heap.size) := hb
  have H0 : Hid (w0.heap.size ≤ b0) := h0
  clear hw1 hA hb h0 hlow hbb
  obtain ⟨y0, y1, y2, y3, y4, y5, y6, y7⟩ := HSB.out.nb.cells
  simp only at y0 y1 y2 y3 y4 y5 y6 y7
  unfold Nd.val
  simp only
  go_enter Try.func51, Try.ntmps51
  go_upto_region 1 with fail
  rw [HW1.out, HAA.out]
  clear HW1
  clear HIH HRO
  have hgr : m.S + 1 ≤ 1000000 := by have := HBS.out.1; rw [← HR.out] at this; exact this
  have hge : m.es.length + 1 ≤ 1000000 := by have := HBS.out.2; rw [← HR.out] at this; simpa [Mk.st, Mk.ed] using this
  have HC : Hid (Calls Try.prog 68 #[.pointer (some ⟨B, 0, none⟩), .int .i64 4, .int .i64 (a0 : Nat), setV s] w1 _) := onward_any B b0 Y m 4 a0 s w1 HSB.out.bb HSB.out.sz (by omega) (by omega)
  unfold setV at HC
  rw [HZS.out.1, HZS.out.2.1, HZS.out.2.2.1, HZS.out.2.2.2] at HC
  simp only [Int.natCast_zero] at HC
  go_wp2_with fail
  refine HC.out.mono ?_
  rintro e w2 ⟨rfl, h2, f2⟩
  have HS2 : Hid (Sb w0 b0 B Y A ⟨7, s, a, n, c, mn, mx⟩ w w2 (m.st.ed ⟨4, a0, m.S, s⟩)) := HSB.out.call h2 f2
  clear h2 f2 HSB HC y0 y1 y2 y3 y4 y5 y6 y7
  go_wp2
  go_ret
  rw [← HR.out]
  exact ⟨rfl, HS2.out.bb, HS2.out.fm⟩
set_option maxRecDepth 4000 in
set_option maxHeartbeats 8000000 in
theorem way_1 {w0 : World} {B : Nat} {s : Oct.S} {subs : List Tn} {mn mx : Int} {a : Option Addr} {n c : Nat} {vs : List Nd} (hn : n = subs.length) (hl : vs.length = n) (hm : n ≤ 1000000) (hr : RowAt (fun b => b ≠ B) w0 a vs) (hs : ∀ (i : Nat) (t : Tn) (v : Nd), subs[i]? = some t → vs[i]? = some v → LayV w0 B t v) : WayV 45 w0 B (.mk 1 s subs mn mx) ⟨1, s, a, n, c, mn, mx⟩ := by
  intro w b0 Y m a0 hlow h0 hb hbb hS hE
  obtain ⟨R, hR⟩ : ∃ R, lay (.mk 1 s subs mn mx) m a0 = R := ⟨_, rfl⟩
  rw [hR] at hS hE ⊢
  have HR : Hid ((m, a0) = R) := by show _ = _; rw [← hR, lay_mk]; simp
  have HIH : Hid (∀ (i : Nat) (t : Tn) (v : Nd), subs[i]? = some t → vs[i]? = some v → LayV w0 B t v) := hs
  have HRO : Hid (RowAt (fun b => b ≠ B) w0 a vs) := hr
  have HN : Hid (n = subs.length) := hn
  have HL : Hid (vs.length = n) := hl
  have HBS : Hid (R.1.S ≤ 1000000 ∧ R.1.es.length ≤ 1000000) := ⟨hS, hE⟩
  have HM0 : Hid (n ≤ 1000000) := hm
  clear hs hr hn hl hS hE hR
  have HSB : Hid (Sb w0 b0 B Y w.heap.size ⟨1, s, a, n, c, mn, mx⟩ w (w.alloc (.cells #[.int .i64 1, .int .u64 (Oct.word s 0 : Nat), .int .u64 (Oct.word s 1 : Nat), .int .u64 (Oct.word s 2 : Nat), .int .u64 (Oct.word s 3 : Nat), .slice a n c, .int .i64 mn, .int .i64 mx] 30)) m) := sb_start w0 ⟨1, s, a, n, c, mn, mx⟩ hbb hlow hb h0
  obtain ⟨w1, hw1⟩ : ∃ w1, w.alloc (.cells #[.int .i64 1, .int .u64 (Oct.word s 0 : Nat), .int .u64 (Oct.word s 1 : Nat), .int .u64 (Oct.word s 2 : Nat), .int .u64 (Oct.word s 3 : Nat), .slice a n c, .int .i64 mn, .int .i64 mx] 30) = w1 := ⟨_, rfl⟩
  rw [hw1] at HSB
  obtain ⟨A, hA⟩ : ∃ A, w.heap.size = A := ⟨_, rfl⟩
  rw [hA] at HSB
  have HW1 : Hid (w.alloc (.cells #[.int .i64 1, .int .u64 (Oct.word s 0 : Nat), .int .u64 (Oct.word s 1 : Nat), .int .u64 (Oct.word s 2 : Nat), .int .u64 (Oct.word s 3 : Nat), .slice a n c, .int .i64 mn, .int .i64 mx] 30) = w1) := hw1
  have HAA : Hid (w.heap.size = A) := hA
  have HB : Hid (b0 ≤ w.heap.size) := hb
  have H0 : Hid (w0.heap.size ≤ b0) := h0
  clear hw1 hA hb h0 hlow hbb
  obtain ⟨y0, y1, y2, y3, y4, y5, y6, y7⟩ := HSB.out.nb.cells
  simp only at y0 y1 y2 y3 y4 y5 y6 y7
  unfold Nd.val
  simp only
  go_enter Try.func45, Try.ntmps45
  go_upto_region 1 with fail
  rw [HW1.out, HAA.out]
  clear HW1
  clear HIH HRO
  go_wp2
  go_ret
  rw [← HR.out]
  exact ⟨rfl, HSB.out.bb, HSB.out.fm⟩
end Go.Proofs.Ytjmbimgofceanaa

/- The program's loop and upTo. -/
namespace Go.Proofs.Ytjmbimgofceanaa
open Go.RowKit
attribute [local go_sem ↓] Go.wp_at_zero Go.wp_at_succ

theorem tails_one (F : Mk → Nat → Mk × Nat) (j : Nat) (x : Mk × Nat) (l : List Nat) : tails F (j + 1) x l = tails F j (F x.1 x.2) (l ++ [(F x.1 x.2).2]) := rfl
theorem tails_len {F : Mk → Nat → Mk × Nat} : ∀ (n : Nat) (x : Mk × Nat) (l : List Nat), (tails F n x l).2.length = l.length + n
  | 0, _, _ => rfl
  | n + 1, x, l => by rw [tails_one, tails_len n]; simp; omega
theorem rowI_first (w : World) (base a : Nat) (hb : base ≤ w.heap.size) : RowI (w.alloc (.cells #[.int .i64 (a : Nat)] 3)) base (.slice (some ⟨w.heap.size, 0, none⟩) 1 1) [a] := by
  refine ⟨rfl, Or.inr ⟨w.heap.size, 1, _, rfl, hb, heap_alloc_new w _, Nat.le_refl _, by decide, rfl, rfl⟩⟩
set_option maxRecDepth 4000 in
set_option maxHeartbeats 8000000 in
theorem bloop_any {w0 : World} {B : Nat} {t : Tn} {v : Nd} (HL : LayV w0 B t v) (w : World) (b0 Y : Nat) (m : Mk) (a : Nat) (hlow : Kp B w0 w) (h0 : w0.heap.size ≤ b0) (hb : b0 ≤ w.heap.size) (hbb : BB w b0 B Y m) (hS : (again (lay t) (m, a)).1.S ≤ 1000000) (hE : (again (lay t) (m, a)).1.es.length ≤ 1000000) : Calls Try.prog 71 #[.pointer (some ⟨B, 0, none⟩), v.val, .int .i64 (a : Nat)] w fun e w' => e = .returned (.int .i64 ((again (lay t) (m, a)).2 : Nat)) ∧ BB w' b0 B Y (again (lay t) (m, a)).1 ∧ Fm b0 B w w' := by
  obtain ⟨r, hr⟩ : ∃ r, lay t (m.st.fr a m.S) m.S = r := ⟨_, rfl⟩
  have HRR : Hid (lay t (m.st.fr a m.S) m.S = r) := hr
  have HA : Hid (again (lay t) (m, a) = (((r.1.fr r.2 m.S).st).fr m.S r.1.S, r.1.S)) := by show _ = _; rw [← hr]; rfl
  have hle := lay_le t (m.st.fr a m.S) m.S
  rw [hr] at hle
  rw [HA.out] at hS hE ⊢
  have hS2 : r.1.S + 1 ≤ 1000000 := hS
  have hE2 : r.1.es.length + 1 + 1 ≤ 1000000 := by simpa [Mk.fr, Mk.ed, Mk.st] using hE
  have hS1 : m.S + 1 ≤ r.1.S := hle.1
  have hE1 : m.es.length + 1 ≤ r.1.es.length := by simpa [Mk.fr, Mk.ed, Mk.st] using hle.2
  have HLL : Hid (LayV w0 B t v) := HL
  clear HL hr hle HA hS hE
  have HSB : Hid (Sb w0 b0 B Y w.heap.size v w (w.alloc (.cells #[.int .i64 v.k, .int .u64 (Oct.word v.s 0 : Nat), .int .u64 (Oct.word v.s 1 : Nat), .int .u64 (Oct.word v.s 2 : Nat), .int .u64 (Oct.word v.s 3 : Nat), .slice v.a v.n v.c, .int .i64 v.mn, .int .i64 v.mx] 30)) m) := sb_start w0 v hbb hlow hb h0
  obtain ⟨w1, hw1⟩ : ∃ w1, w.alloc (.cells #[.int .i64 v.k, .int .u64 (Oct.word v.s 0 : Nat), .int .u64 (Oct.word v.s 1 : Nat), .int .u64 (Oct.word v.s 2 : Nat), .int .u64 (Oct.word v.s 3 : Nat), .slice v.a v.n v.c, .int .i64 v.mn, .int .i64 v.mx] 30) = w1 := ⟨_, rfl⟩
  rw [hw1] at HSB
  obtain ⟨A, hA⟩ : ∃ A, w.heap.size = A := ⟨_, rfl⟩
  rw [hA] at HSB
  have HW1 : Hid (w.alloc (.cells #[.int .i64 v.k, .int .u64 (Oct.word v.s 0 : Nat), .int .u64 (Oct.word v.s 1 : Nat), .int .u64 (Oct.word v.s 2 : Nat), .int .u64 (Oct.word v.s 3 : Nat), .slice v.a v.n v.c, .int .i64 v.mn, .int .i64 v.mx] 30) = w1) := hw1
  have HAA : Hid (w.heap.size = A) := hA
  have HB : Hid (b0 ≤ w.heap.size) := hb
  have H0 : Hid (w0.heap.size ≤ b0) := h0
  clear hw1 hA hb h0 hlow hbb
  obtain ⟨y0, y1, y2, y3, y4, y5, y6, y7⟩ := HSB.out.nb.cells
  unfold Nd.val
  go_enter Try.func71, Try.ntmps71
  go_upto_region 1 with fail
  rw [HW1.out, HAA.out]
  clear HW1
  go_wp2_with fail
  refine (fork_any B b0 Y m a w1 HSB.out.bb HSB.out.sz (by omega) (by omega)).mono ?_
  rintro e w2 ⟨rfl, h2, f2⟩
  have HS2 : Hid (Sb w0 b0 B Y A v w w2 (m.st.fr a m.S)) := HSB.out.call h2 f2
  clear h2 f2 HSB y0 y1 y2 y3 y4 y5 y6 y7
  obtain ⟨y0, y1, y2, y3, y4, y5, y6, y7⟩ := HS2.out.nb.cells
  have HC : Hid (Calls Try.prog 29 #[.pointer (some ⟨B, 0, none⟩), v.val, .int .i64 (m.S : Nat)] w2 _) := HLL.out w2 b0 Y (m.st.fr a m.S) m.S HS2.out.low H0.out HS2.out.sz HS2.out.bb (by rw [HRR.out]; omega) (by rw [HRR.out]; omega)
  rw [HRR.out] at HC
  unfold Nd.val at HC
  go_wp2_with fail
  refine HC.out.mono ?_
  rintro e w3 ⟨rfl, h3, f3⟩
  have HS3 : Hid (Sb w0 b0 B Y A v w w3 r.1) := HS2.out.call h3 f3
  clear h3 f3 HS2 HC y0 y1 y2 y3 y4 y5 y6 y7
  go_wp2_with fail
  refine (bfree_any B b0 Y r.1 r.2 m.S w3 HS3.out.bb HS3.out.sz (by omega)).mono ?_
  rintro e w4 ⟨rfl, h4, f4⟩
  have HS4 : Hid (Sb w0 b0 B Y A v w w4 (r.1.fr r.2 m.S)) := HS3.out.call h4 f4
  clear h4 f4 HS3
  have HC : Hid (Calls Try.prog 69 #[.pointer (some ⟨B, 0, none⟩), .int .i64 (m.S : Nat)] w4 fun e w' => e = .returned (.int .i64 (r.1.S : Nat)) ∧ BB w' b0 B Y ((r.1.fr r.2 m.S).st.fr m.S r.1.S) ∧ Fm b0 B w4 w') := fork_any B b0 Y (r.1.fr r.2 m.S) m.S w4 HS4.out.bb HS4.out.sz (by show r.1.S ≤ _; omega) (by simp [Mk.fr, Mk.ed]; omega)
  go_wp2_with fail
  refine HC.out.mono ?_
  rintro e w5 ⟨rfl, h5, f5⟩
  have HS5 : Hid (Sb w0 b0 B Y A v w w5 ((r.1.fr r.2 m.S).st.fr m.S r.1.S)) := HS4.out.call h5 f5
  clear h5 f5 HS4 HC
  go_wp2
  go_ret
  exact ⟨rfl, HS5.out.bb, HS5.out.fm⟩
set_option maxRecDepth 4000 in
set_option maxHeartbeats 8000000 in
theorem bupTo_any {w0 : World} {B : Nat} {t : Tn} {v : Nd} (HL : LayV w0 B t v) (X : Nat) (hX : X ≤ 255) (w : World) (b0 Y : Nat) (m : Mk) (a : Nat) (hlow : Kp B w0 w) (h0 : w0.heap.size ≤ b0) (hb : b0 ≤ w.heap.size) (hbb : BB w b0 B Y m) (hS : (joint (tails (lay t) X (m, a) [a])).1.S ≤ 1000000) (hE : (joint (tails (lay t) X (m, a) [a])).1.es.length ≤ 1000000) : Calls Try.prog 72 #[.pointer (some ⟨B, 0, none⟩), v.val, .int .i64 (X : Nat), .int .i64 (a : Nat)] w fun e w' => e = .returned (.int .i64 ((joint (tails (lay t) X (m, a) [a])).2 : Nat)) ∧ BB w' b0 B Y (joint (tails (lay t) X (m, a) [a])).1 ∧ Fm b0 B w w' := by
  obtain ⟨R, hR⟩ : ∃ R, tails (lay t) X (m, a) [a] = R := ⟨_, rfl⟩
  have HR : Hid (tails (lay t) (X - 0) (m, a) [a] = R) := hR
  rw [hR] at hS hE ⊢
  have HJS : Hid ((joint R).1.S ≤ 1000000 ∧ (joint R).1.es.length ≤ 1000000) := ⟨hS, hE⟩
  have hJ := joint_le R
  have HRS : Hid (R.1.S ≤ 1000000 ∧ R.1.es.length ≤ 1000000) := ⟨Nat.le_trans hJ.1 hS, Nat.le_trans hJ.2 hE⟩
  have HLL : Hid (LayV w0 B t v) := HL
  clear HL hR hJ hS hE
  have HSB : Hid (Sb w0 b0 B Y w.heap.size v w (w.alloc (.cells #[.int .i64 v.k, .int .u64 (Oct.word v.s 0 : Nat), .int .u64 (Oct.word v.s 1 : Nat), .int .u64 (Oct.word v.s 2 : Nat), .int .u64 (Oct.word v.s 3 : Nat), .slice v.a v.n v.c, .int .i64 v.mn, .int .i64 v.mx] 30)) m) := sb_start w0 v hbb hlow hb h0
  obtain ⟨w1, hw1⟩ : ∃ w1, w.alloc (.cells #[.int .i64 v.k, .int .u64 (Oct.word v.s 0 : Nat), .int .u64 (Oct.word v.s 1 : Nat), .int .u64 (Oct.word v.s 2 : Nat), .int .u64 (Oct.word v.s 3 : Nat), .slice v.a v.n v.c, .int .i64 v.mn, .int .i64 v.mx] 30) = w1 := ⟨_, rfl⟩
  rw [hw1] at HSB
  obtain ⟨A, hA⟩ : ∃ A, w.heap.size = A := ⟨_, rfl⟩
  rw [hA] at HSB
  have HW1 : Hid (w.alloc (.cells #[.int .i64 v.k, .int .u64 (Oct.word v.s 0 : Nat), .int .u64 (Oct.word v.s 1 : Nat), .int .u64 (Oct.word v.s 2 : Nat), .int .u64 (Oct.word v.s 3 : Nat), .slice v.a v.n v.c, .int .i64 v.mn, .int .i64 v.mx] 30) = w1) := hw1
  have HAA : Hid (w.heap.size = A) := hA
  have HB : Hid (b0 ≤ w.heap.size) := hb
  have H0 : Hid (w0.heap.size ≤ b0) := h0
  clear hw1 hA hb h0 hlow hbb
  obtain ⟨y0, y1, y2, y3, y4, y5, y6, y7⟩ := HSB.out.nb.cells
  unfold Nd.val
  go_enter Try.func72, Try.ntmps72
  go_upto_region 1 with fail
  rw [HW1.out, HAA.out]
  clear HW1
  have kk : Below w1.heap.size w1 (w1.alloc (.cells #[.int .i64 (a : Nat)] 3)) := (Below.refl _ _).alloc (Nat.le_refl _) _
  have HS2 : Hid (Sb w0 b0 B Y A v w (w1.alloc (.cells #[.int .i64 (a : Nat)] 3)) m) := HSB.out.later kk
  have HI2 : Hid (RowI (w1.alloc (.cells #[.int .i64 (a : Nat)] 3)) w.heap.size (.slice (some ⟨w1.heap.size, 0, none⟩) 1 1) [a]) := rowI_first w1 w.heap.size a HSB.out.fm.size
  clear kk
  go_upto_region 2 with fail
  obtain ⟨w2, hw2⟩ : ∃ w2, w1.alloc (.cells #[.int .i64 (a : Nat)] 3) = w2 := ⟨_, rfl⟩
  rw [hw2] at HS2 HI2 ⊢
  clear hw2 HSB y0 y1 y2 y3 y4 y5 y6 y7
  go_wp2_with fail
  go_loopw [3, 9, 13] (fun va ve i q => ∃ (j : Nat) (m' : Mk) (a' : Nat) (l : List Nat), va = .int .i64 (a' : Nat) ∧ i = .int .i64 (j : Nat) ∧ j ≤ X ∧ Hid (l.length = j + 1) ∧ Hid (tails (lay t) (X - j) (m', a') l = R) ∧ Hid (RowI q w.heap.size ve l) ∧ Hid (Sb w0 b0 B Y A v w q m')) (fun _ _ i _ => X - (intOf i).toNat)
  case atStart => exact ⟨0, m, a, [a], rfl, rfl, Nat.zero_le _, rfl, HR, HI2, HS2⟩
  case round =>
    clear HS2 HI2 HR
    obtain ⟨j, m', a', l, rfl, rfl, hjn, HLJ, HRj, HIj, HSj⟩ := hrel
    obtain ⟨y0, y1, y2, y3, y4, y5, y6, y7⟩ := HSj.out.nb.cells
    by_cases hlt : j < X
    · have hlt' : (j : Int) < (X : Int) := by omega
      have HRn : Hid (tails (lay t) (X - (j + 1)) (lay t m' a') (l ++ [(lay t m' a').2]) = R) := by
        show _ = _
        rw [← HRj.out, show X - j = (X - (j + 1)) + 1 by omega, tails_one]
      have HLE : Hid ((lay t m' a').1.le R.1) := by have h1 := tails_le (lay_le t) (X - (j + 1)) (lay t m' a') (l ++ [(lay t m' a').2]); rw [HRn.out] at h1; exact h1
      have HC : Hid (Calls Try.prog 29 #[.pointer (some ⟨B, 0, none⟩), v.val, .int .i64 (a' : Nat)] wr _) := HLL.out wr b0 Y m' a' HSj.out.low H0.out HSj.out.sz HSj.out.bb (Nat.le_trans HLE.out.1 HRS.out.1) (Nat.le_trans HLE.out.2 HRS.out.2)
      obtain ⟨r, hr⟩ : ∃ r, lay t m' a' = r := ⟨_, rfl⟩
      rw [hr] at HC HRn
      clear hr HLE HRj
      unfold Nd.val at HC
      go_wp2_with fail
      refine HC.out.mono ?_
      rintro e w4 ⟨rfl, h4, f4⟩
      have HS4 : Hid (Sb w0 b0 B Y A v w w4 r.1) := HSj.out.call h4 f4
      have HI4 : Hid (RowI w4 w.heap.size u9 l) := HIj.out.fmb HSj.out.bb f4
      clear h4 f4 HC HSj HIj y0 y1 y2 y3 y4 y5 y6 y7
      have kk : Below w4.heap.size w4 (w4.alloc (.cells #[.int .i64 (r.2 : Nat)] 3)) := (Below.refl _ _).alloc (Nat.le_refl _) _
      have HS5 : Hid (Sb w0 b0 B Y A v w (w4.alloc (.cells #[.int .i64 (r.2 : Nat)] 3)) r.1) := HS4.out.later kk
      have HI5 : Hid (RowI (w4.alloc (.cells #[.int .i64 (r.2 : Nat)] 3)) w.heap.size u9 l) := HI4.out.keep (fun b _ hlt _ => kk.block b hlt)
      have HC5 : Hid ((w4.alloc (.cells #[.int .i64 (r.2 : Nat)] 3)).cell? ⟨w4.heap.size, 0, none⟩ = some (.int .i64 (r.2 : Nat))) := by show _ = _; rw [World.cell?_alloc_mark]; rfl
      have HLQ2 : Hid (l.length ≤ 2000000) := by have := HLJ.out; show _ ≤ _; omega
      have HZ5 : Hid (w.heap.size ≤ (w4.alloc (.cells #[.int .i64 (r.2 : Nat)] 3)).heap.size) := HS5.out.fm.size
      clear kk
      go_wp2_with (at_builtin; go_must (refine wpList_append_int rfl _ _ rfl w.heap.size _ l rfl HI5.out ⟨w4.heap.size, 0, none⟩ 1 r.2 rfl HC5.out HLQ2.out HZ5.out ?_; intro g' cap' w6 hn6 hg6; have HI6 : Hid (RowI w6 w.heap.size _ (l ++ [r.2])) := hn6; have HG6 : Hid ((w4.alloc (.cells #[.int .i64 (r.2 : Nat)] 3)).grownBy w6 u9.ownBlock) := hg6; clear hn6 hg6))
      have HS6 : Hid (Sb w0 b0 B Y A v w w6 r.1) := HS5.out.own HG6.out (HI5.out.ty) HB.out
      go_roundw
      case rel => exact ⟨j + 1, r.1, r.2, l ++ [r.2], rfl, by go_num, by omega, (by have := HLJ.out; show _ = _; simp; omega), HRn, HI6, HS6⟩
      case measure => simp [intOf]; omega
    · have hlt' : ¬ (j : Int) < (X : Int) := by omega
      have HRF : Hid (R = (m', l)) := by
        show _ = _
        rw [← HRj.out, show X - j = 0 by omega, tails]
      obtain ⟨oa, oc, hV, hlc, hcm⟩ := HIj.out.form
      subst hV
      obtain ⟨N, hN⟩ : ∃ N, l.length = N := ⟨_, rfl⟩
      rw [hN] at HIj hlc ⊢
      simp only [maxLen] at hcm
      have HC : Hid (Calls Try.prog 70 #[.pointer (some ⟨B, 0, none⟩), .slice oa N oc] wr _) := bjoin_any B b0 Y w.heap.size m' l oa N oc wr hN HSj.out.bb HSj.out.sz HIj.out (by rw [← HRF.out]; exact HJS.out.1) (by rw [← HRF.out]; exact HJS.out.2)
      rw [← HRF.out] at HC
      clear hN hlc hcm
      go_wp2_with fail
      refine HC.out.mono ?_
      rintro e w4 ⟨rfl, h4, f4⟩
      have HS4 : Hid (Sb w0 b0 B Y A v w w4 (joint R).1) := HSj.out.call h4 f4
      clear h4 f4 HC HSj HIj HRj
      go_wp2
      go_ret
      exact ⟨rfl, HS4.out.bb, HS4.out.fm⟩
end Go.Proofs.Ytjmbimgofceanaa
