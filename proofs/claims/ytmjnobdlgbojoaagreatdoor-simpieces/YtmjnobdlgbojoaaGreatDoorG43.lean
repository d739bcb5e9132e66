
import Derived.Test.YtmjnobdlgbojoaaGreatDoorG31
namespace Go.Proofs.YtmjnobdlgbojoaaGreatDoor
open Go.RowKit
attribute [local go_sem ↓] Go.wp_at_zero Go.wp_at_succ
def TrimPost (w : World) (T : Tn) (e : Ending) (w' : World) : Prop := Below w.heap.size w w' ∧ ∃ y : Nd, e = .returned y.val ∧ NwAt (fun b => w.heap.size ≤ b) w' T y
def TrimV (w0 : World) (t : Tn) (v : Nd) : Prop := ∀ w : World, Below w0.heap.size w0 w → Calls Tryz.prog 22 #[v.val] w (TrimPost w (trim t))
theorem below_p8 {w u : World} {base : Nat} (h : Below base w u) {R : Nat} (hR : base ≤ R) (x : Nd) : Below base w (put8 u R x) := by
  unfold put8
  exact ((((((((h.setCell (p := ⟨R, 0, none⟩) hR _).setCell (p := ⟨R, 1, none⟩) hR _).setCell (p := ⟨R, 2, none⟩) hR _).setCell (p := ⟨R, 3, none⟩) hR _).setCell (p := ⟨R, 4, none⟩) hR _).setCell (p := ⟨R, 5, none⟩) hR _).setCell (p := ⟨R, 6, none⟩) hR _).setCell (p := ⟨R, 7, none⟩) hR _)
theorem trim_end {w u : World} {R : Nat} {T : Tn} {y : Nd} (hb : Below w.heap.size w u) (hR : w.heap.size ≤ R) (hy : NwAt (fun b => w.heap.size ≤ b ∧ b ≠ R) u T y) : TrimPost w T (.returned y.val) (put8 u R y) :=
  ⟨below_p8 hb hR y, y, rfl, hy.keep (fun _ hb _ => hb.1) (fun b hb _ => heap_put8 u R y b hb.2)⟩
theorem trims_next {ts : List Tn} {i : Nat} {t : Tn} (h : ts[i]? = some t) : trims (ts.drop i) = if kindT (trim t) = 1 then trims (ts.drop (i + 1)) else trim t :: trims (ts.drop (i + 1)) := by
  have hlt := (List.getElem?_eq_some_iff.1 h).1
  rw [List.drop_eq_getElem_cons hlt, (List.getElem?_eq_some_iff.1 h).2, trims]
set_option maxRecDepth 4000 in
set_option maxHeartbeats 8000000 in
theorem tseq_any {w0 : World} {subs : List Tn} {a : Option Addr} {n c : Nat} {vs : List Nd} (hn : n = subs.length) (hl : vs.length = n) (hm : n ≤ 1000000) (hr : RowAt (fun _ => True) w0 a vs) (hs : ∀ (i : Nat) (t : Tn) (v : Nd), subs[i]? = some t → vs[i]? = some v → TrimV w0 t v) (w : World) (hlow : Below w0.heap.size w0 w) : Calls Tryz.prog 49 #[.slice a n c] w (TrimPost w (packT (trims subs))) := by
  have kk : Below w.heap.size w (w.alloc (.cells #[.int .i64 0, .int .u64 0, .int .u64 0, .int .u64 0, .int .u64 0, .slice none 0 0, .int .i64 0, .int .i64 0] 30)) := (Below.refl _ _).alloc (Nat.le_refl _) _
  have HNR : Hid (NB (w.alloc (.cells #[.int .i64 0, .int .u64 0, .int .u64 0, .int .u64 0, .int .u64 0, .slice none 0 0, .int .i64 0, .int .i64 0] 30)) w.heap.size zeroNd) := nb_zero w
  have HB : Hid (Below w.heap.size w (w.alloc (.cells #[.int .i64 0, .int .u64 0, .int .u64 0, .int .u64 0, .int .u64 0, .slice none 0 0, .int .i64 0, .int .i64 0] 30))) := kk
  have HSZ : Hid (w.heap.size + 1 ≤ (w.alloc (.cells #[.int .i64 0, .int .u64 0, .int .u64 0, .int .u64 0, .int .u64 0, .slice none 0 0, .int .i64 0, .int .i64 0] 30)).heap.size) := by show _ ≤ _; simp
  obtain ⟨w1, hw1⟩ : ∃ w1, w.alloc (.cells #[.int .i64 0, .int .u64 0, .int .u64 0, .int .u64 0, .int .u64 0, .slice none 0 0, .int .i64 0, .int .i64 0] 30) = w1 := ⟨_, rfl⟩
  rw [hw1] at HNR HB HSZ
  obtain ⟨R, hR⟩ : ∃ R, w.heap.size = R := ⟨_, rfl⟩
  rw [hR] at HNR
  have HW1 : Hid (w.alloc (.cells #[.int .i64 0, .int .u64 0, .int .u64 0, .int .u64 0, .int .u64 0, .slice none 0 0, .int .i64 0, .int .i64 0] 30) = w1) := hw1
  have HRR : Hid (w.heap.size = R) := hR
  have HRW : Hid (w.heap.size ≤ R) := Nat.le_of_eq hR
  have HLW : Hid (Below w0.heap.size w0 w) := hlow
  have HIH : Hid (∀ (i : Nat) (t : Tn) (v : Nd), subs[i]? = some t → vs[i]? = some v → TrimV w0 t v) := hs
  have HRO : Hid (RowAt (fun _ => True) w0 a vs) := hr
  have HN : Hid (n = subs.length) := hn
  have HL : Hid (vs.length = n) := hl
  have HM0 : Hid (n ≤ 1000000) := hm
  have HTL : Hid ((trims subs).length ≤ n) := by rw [hn]; exact trims_le subs
  clear hw1 hR hlow hs hr hn hl kk
  go_enter Tryz.func49, Tryz.ntmps49
  go_upto_region 1 with fail
  rw [HW1.out, HRR.out]
  clear HW1
  go_wp2_with fail
  go_loopw [3, 9] (fun ve i u => ∃ (j : Nat) (ts : List Tn), i = .int .i64 (j : Nat) ∧ j ≤ n ∧ Hid (ts ++ trims (subs.drop j) = trims subs) ∧ Hid (RowN u (w.heap.size + 1) ve ts) ∧ Hid (NB u R zeroNd) ∧ Hid (Below w.heap.size w u) ∧ Hid (w.heap.size + 1 ≤ u.heap.size)) (fun _ i _ => n - (intOf i).toNat)
  case atStart => exact ⟨0, [], rfl, Nat.zero_le _, rfl, rowN_nil _ _, HNR, HB, HSZ⟩
  case round =>
    clear HNR HB HSZ
    obtain ⟨j, ts, rfl, hjn, HTS, HRN, HNR, HB, HSZ⟩ := hrel
    by_cases hlt : j < n
    · have hlt' : (j : Int) < (n : Int) := by omega
      obtain ⟨t, ht⟩ : ∃ t, subs[j]? = some t := ⟨_, List.getElem?_eq_getElem (by rw [← HN.out]; exact hlt)⟩
      obtain ⟨v, hv⟩ : ∃ v, vs[j]? = some v := ⟨_, List.getElem?_eq_getElem (by rw [HL.out]; exact hlt)⟩
      have HLr : Hid (Below w0.heap.size w0 wr) := below_two HLW.out (below_low HB.out HLW.out.size)
      have hrow := (HRO.out.keep (w' := wr) (Y := fun _ => True) (fun _ _ _ => trivial) (fun b hb hlt => HLr.out.block b hlt)).nth hv
      obtain ⟨g, off, rfl, e0, e1, e2, e3, e4, e5, e6, e7⟩ := hrow
      have kk : Below wr.heap.size wr (wr.alloc (.cells #[.int .i64 v.k, .int .u64 (Oct.word v.s 0 : Nat), .int .u64 (Oct.word v.s 1 : Nat), .int .u64 (Oct.word v.s 2 : Nat), .int .u64 (Oct.word v.s 3 : Nat), .slice v.a v.n v.c, .int .i64 v.mn, .int .i64 v.mx] 30)) := (Below.refl _ _).alloc (Nat.le_refl _) _
      have HRN2 : Hid (RowN (wr.alloc (.cells #[.int .i64 v.k, .int .u64 (Oct.word v.s 0 : Nat), .int .u64 (Oct.word v.s 1 : Nat), .int .u64 (Oct.word v.s 2 : Nat), .int .u64 (Oct.word v.s 3 : Nat), .slice v.a v.n v.c, .int .i64 v.mn, .int .i64 v.mx] 30)) (w.heap.size + 1) u3 ts) := HRN.out.keep (fun b _ hlt => kk.block b hlt)
      have HNR2 : Hid (NB (wr.alloc (.cells #[.int .i64 v.k, .int .u64 (Oct.word v.s 0 : Nat), .int .u64 (Oct.word v.s 1 : Nat), .int .u64 (Oct.word v.s 2 : Nat), .int .u64 (Oct.word v.s 3 : Nat), .slice v.a v.n v.c, .int .i64 v.mn, .int .i64 v.mx] 30)) R zeroNd) := HNR.out.later kk
      have HB2 : Hid (Below w.heap.size w (wr.alloc (.cells #[.int .i64 v.k, .int .u64 (Oct.word v.s 0 : Nat), .int .u64 (Oct.word v.s 1 : Nat), .int .u64 (Oct.word v.s 2 : Nat), .int .u64 (Oct.word v.s 3 : Nat), .slice v.a v.n v.c, .int .i64 v.mn, .int .i64 v.mx] 30))) := below_step HB.out kk
      have HSZ2 : Hid (w.heap.size + 1 ≤ (wr.alloc (.cells #[.int .i64 v.k, .int .u64 (Oct.word v.s 0 : Nat), .int .u64 (Oct.word v.s 1 : Nat), .int .u64 (Oct.word v.s 2 : Nat), .int .u64 (Oct.word v.s 3 : Nat), .slice v.a v.n v.c, .int .i64 v.mn, .int .i64 v.mx] 30)).heap.size) := Nat.le_trans HSZ.out kk.size
      have HNV : Hid (NB (wr.alloc (.cells #[.int .i64 v.k, .int .u64 (Oct.word v.s 0 : Nat), .int .u64 (Oct.word v.s 1 : Nat), .int .u64 (Oct.word v.s 2 : Nat), .int .u64 (Oct.word v.s 3 : Nat), .slice v.a v.n v.c, .int .i64 v.mn, .int .i64 v.mx] 30)) wr.heap.size v) := nb_new wr v
      have HLr2 : Hid (Below w0.heap.size w0 (wr.alloc (.cells #[.int .i64 v.k, .int .u64 (Oct.word v.s 0 : Nat), .int .u64 (Oct.word v.s 1 : Nat), .int .u64 (Oct.word v.s 2 : Nat), .int .u64 (Oct.word v.s 3 : Nat), .slice v.a v.n v.c, .int .i64 v.mn, .int .i64 v.mx] 30))) := below_step HLr.out kk
      go_upto_region 5 with fail
      obtain ⟨w2, hw2⟩ : ∃ w2, wr.alloc (.cells #[.int .i64 v.k, .int .u64 (Oct.word v.s 0 : Nat), .int .u64 (Oct.word v.s 1 : Nat), .int .u64 (Oct.word v.s 2 : Nat), .int .u64 (Oct.word v.s 3 : Nat), .slice v.a v.n v.c, .int .i64 v.mn, .int .i64 v.mx] 30) = w2 := ⟨_, rfl⟩
      obtain ⟨A2, hA2⟩ : ∃ A2, wr.heap.size = A2 := ⟨_, rfl⟩
      rw [hw2] at HRN2 HNR2 HB2 HSZ2 HNV HLr2 ⊢
      rw [hA2] at HNV ⊢
      clear hw2 hA2 kk HRN HNR HB HSZ HLr e0 e1 e2 e3 e4 e5 e6 e7
      obtain ⟨y0, y1, y2, y3, y4, y5, y6, y7⟩ := HNV.out.cells
      have HC : Hid (Calls Tryz.prog 22 #[v.val] w2 (TrimPost w2 (trim t))) := HIH.out j t v ht hv w2 HLr2.out
      have HTN := trims_next ht
      obtain ⟨T1, hT1⟩ : ∃ T1, trim t = T1 := ⟨_, rfl⟩
      rw [hT1] at HC HTN
      have HTX : Hid (trims (subs.drop j) = if kindT T1 = 1 then trims (subs.drop (j + 1)) else T1 :: trims (subs.drop (j + 1))) := HTN
      clear HTN hT1 ht hv
      unfold Nd.val at HC
      go_wp2_with fail
      refine HC.out.mono ?_
      rintro e w3 ⟨k3, y, rfl, hy3⟩
      clear HC y0 y1 y2 y3 y4 y5 y6 y7 HNV
      have k4 : Below w3.heap.size w3 (w3.alloc (.cells #[.int .i64 y.k, .int .u64 (Oct.word y.s 0 : Nat), .int .u64 (Oct.word y.s 1 : Nat), .int .u64 (Oct.word y.s 2 : Nat), .int .u64 (Oct.word y.s 3 : Nat), .slice y.a y.n y.c, .int .i64 y.mn, .int .i64 y.mx] 30)) := (Below.refl _ _).alloc (Nat.le_refl _) _
      have k24 := below_step k3 k4
      have HRN4 : Hid (RowN (w3.alloc (.cells #[.int .i64 y.k, .int .u64 (Oct.word y.s 0 : Nat), .int .u64 (Oct.word y.s 1 : Nat), .int .u64 (Oct.word y.s 2 : Nat), .int .u64 (Oct.word y.s 3 : Nat), .slice y.a y.n y.c, .int .i64 y.mn, .int .i64 y.mx] 30)) (w.heap.size + 1) u3 ts) := HRN2.out.keep (fun b _ hlt => k24.block b hlt)
      have HNR4 : Hid (NB (w3.alloc (.cells #[.int .i64 y.k, .int .u64 (Oct.word y.s 0 : Nat), .int .u64 (Oct.word y.s 1 : Nat), .int .u64 (Oct.word y.s 2 : Nat), .int .u64 (Oct.word y.s 3 : Nat), .slice y.a y.n y.c, .int .i64 y.mn, .int .i64 y.mx] 30)) R zeroNd) := HNR2.out.later k24
      have HB4 : Hid (Below w.heap.size w (w3.alloc (.cells #[.int .i64 y.k, .int .u64 (Oct.word y.s 0 : Nat), .int .u64 (Oct.word y.s 1 : Nat), .int .u64 (Oct.word y.s 2 : Nat), .int .u64 (Oct.word y.s 3 : Nat), .slice y.a y.n y.c, .int .i64 y.mn, .int .i64 y.mx] 30))) := below_step HB2.out k24
      have HSZ4 : Hid (w.heap.size + 1 ≤ (w3.alloc (.cells #[.int .i64 y.k, .int .u64 (Oct.word y.s 0 : Nat), .int .u64 (Oct.word y.s 1 : Nat), .int .u64 (Oct.word y.s 2 : Nat), .int .u64 (Oct.word y.s 3 : Nat), .slice y.a y.n y.c, .int .i64 y.mn, .int .i64 y.mx] 30)).heap.size) := Nat.le_trans HSZ2.out k24.size
      have HNY : Hid (NB (w3.alloc (.cells #[.int .i64 y.k, .int .u64 (Oct.word y.s 0 : Nat), .int .u64 (Oct.word y.s 1 : Nat), .int .u64 (Oct.word y.s 2 : Nat), .int .u64 (Oct.word y.s 3 : Nat), .slice y.a y.n y.c, .int .i64 y.mn, .int .i64 y.mx] 30)) w3.heap.size y) := nb_new w3 y
      have HKY : Hid (y.k = kindT T1) := hy3.kind
      have HY4 : Hid (NwAt (fun b => w.heap.size + 1 ≤ b ∧ u3.ownBlock ≠ some b) (w3.alloc (.cells #[.int .i64 y.k, .int .u64 (Oct.word y.s 0 : Nat), .int .u64 (Oct.word y.s 1 : Nat), .int .u64 (Oct.word y.s 2 : Nat), .int .u64 (Oct.word y.s 3 : Nat), .slice y.a y.n y.c, .int .i64 y.mn, .int .i64 y.mx] 30)) T1 y) := (hy3.later k4).keep (fun b hb _ => ⟨Nat.le_trans HSZ2.out hb, fun e => by have := (HRN2.out.own b e).2; omega⟩) (fun _ _ _ => rfl)
      clear hy3 k3 k24 HRN2 HNR2 HB2 HSZ2 HLr2
      unfold Nd.val
      go_upto_region 6 with fail
      obtain ⟨w4, hw4⟩ : ∃ w4, w3.alloc (.cells #[.int .i64 y.k, .int .u64 (Oct.word y.s 0 : Nat), .int .u64 (Oct.word y.s 1 : Nat), .int .u64 (Oct.word y.s 2 : Nat), .int .u64 (Oct.word y.s 3 : Nat), .slice y.a y.n y.c, .int .i64 y.mn, .int .i64 y.mx] 30) = w4 := ⟨_, rfl⟩
      obtain ⟨A4, hA4⟩ : ∃ A4, w3.heap.size = A4 := ⟨_, rfl⟩
      rw [hw4] at HRN4 HNR4 HB4 HSZ4 HNY HY4 ⊢
      rw [hA4] at HNY ⊢
      clear hw4 hA4 k4
      obtain ⟨y0, y1, y2, y3, y4, y5, y6, y7⟩ := HNY.out.cells
      by_cases hk1 : y.k = 1
      · have hk2 : (y.k != 1) = false := by simp [hk1]
        have hk3 : (y.k == 1) = true := by simp [hk1]
        have HTn : Hid (ts ++ trims (subs.drop (j + 1)) = trims subs) := by
          show _ = _
          rw [← HTS.out, HTX.out, if_pos (by rw [← HKY.out]; exact hk1)]
        go_wp2
        go_roundw
        case rel => exact ⟨j + 1, ts, by go_num, by omega, HTn, HRN4, HNR4, HB4, HSZ4⟩
        case measure => simp [intOf]; omega
      · have hk2 : (y.k != 1) = true := by simp [hk1]
        have hk3 : (y.k == 1) = false := by simp [hk1]
        have HTn : Hid ((ts ++ [T1]) ++ trims (subs.drop (j + 1)) = trims subs) := by
          show _ = _
          rw [← HTS.out, HTX.out, if_neg (by rw [← HKY.out]; exact hk1)]
          simp
        have HLT : Hid (ts.length ≤ 1000000) := by
          have h1 := HTL.out
          rw [← HTS.out, List.length_append] at h1
          have h2 := HM0.out
          show _ ≤ _
          omega
        have kk : Below w4.heap.size w4 (w4.alloc (.cells #[.int .i64 y.k, .int .u64 (Oct.word y.s 0 : Nat), .int .u64 (Oct.word y.s 1 : Nat), .int .u64 (Oct.word y.s 2 : Nat), .int .u64 (Oct.word y.s 3 : Nat), .slice y.a y.n y.c, .int .i64 y.mn, .int .i64 y.mx] 30)) := (Below.refl _ _).alloc (Nat.le_refl _) _
        have HRN5 : Hid (RowN (w4.alloc (.cells #[.int .i64 y.k, .int .u64 (Oct.word y.s 0 : Nat), .int .u64 (Oct.word y.s 1 : Nat), .int .u64 (Oct.word y.s 2 : Nat), .int .u64 (Oct.word y.s 3 : Nat), .slice y.a y.n y.c, .int .i64 y.mn, .int .i64 y.mx] 30)) (w.heap.size + 1) u3 ts) := HRN4.out.keep (fun b _ hlt => kk.block b hlt)
        have HNR5 : Hid (NB (w4.alloc (.cells #[.int .i64 y.k, .int .u64 (Oct.word y.s 0 : Nat), .int .u64 (Oct.word y.s 1 : Nat), .int .u64 (Oct.word y.s 2 : Nat), .int .u64 (Oct.word y.s 3 : Nat), .slice y.a y.n y.c, .int .i64 y.mn, .int .i64 y.mx] 30)) R zeroNd) := HNR4.out.later kk
        have HB5 : Hid (Below w.heap.size w (w4.alloc (.cells #[.int .i64 y.k, .int .u64 (Oct.word y.s 0 : Nat), .int .u64 (Oct.word y.s 1 : Nat), .int .u64 (Oct.word y.s 2 : Nat), .int .u64 (Oct.word y.s 3 : Nat), .slice y.a y.n y.c, .int .i64 y.mn, .int .i64 y.mx] 30))) := below_step HB4.out kk
        have HSZ5 : Hid (w.heap.size + 1 ≤ (w4.alloc (.cells #[.int .i64 y.k, .int .u64 (Oct.word y.s 0 : Nat), .int .u64 (Oct.word y.s 1 : Nat), .int .u64 (Oct.word y.s 2 : Nat), .int .u64 (Oct.word y.s 3 : Nat), .slice y.a y.n y.c, .int .i64 y.mn, .int .i64 y.mx] 30)).heap.size) := Nat.le_trans HSZ4.out kk.size
        have HY5 : Hid (NwAt (fun b => w.heap.size + 1 ≤ b ∧ u3.ownBlock ≠ some b) (w4.alloc (.cells #[.int .i64 y.k, .int .u64 (Oct.word y.s 0 : Nat), .int .u64 (Oct.word y.s 1 : Nat), .int .u64 (Oct.word y.s 2 : Nat), .int .u64 (Oct.word y.s 3 : Nat), .slice y.a y.n y.c, .int .i64 y.mn, .int .i64 y.mx] 30)) T1 y) := HY4.out.later kk
        have HCY : Hid (∀ j v, y.cells[j]? = some v → (w4.alloc (.cells #[.int .i64 y.k, .int .u64 (Oct.word y.s 0 : Nat), .int .u64 (Oct.word y.s 1 : Nat), .int .u64 (Oct.word y.s 2 : Nat), .int .u64 (Oct.word y.s 3 : Nat), .slice y.a y.n y.c, .int .i64 y.mn, .int .i64 y.mx] 30)).cell? ((⟨w4.heap.size, 0, none⟩ : Addr).add j) = some v) := cells_newN w4 y
        clear kk
        go_wp2_with (at_builtin; go_must (refine wpList_append_nodeN rfl _ _ rfl (w.heap.size + 1) _ ts rfl HRN5.out ⟨w4.heap.size, 0, none⟩ 1 y T1 rfl HY5.out HCY.out HLT.out HSZ5.out ?_; intro g' cap' w6 hn6 hg6; have HRN6 : Hid (RowN w6 (w.heap.size + 1) _ (ts ++ [T1])) := hn6; have HG6 : Hid ((w4.alloc (.cells #[.int .i64 y.k, .int .u64 (Oct.word y.s 0 : Nat), .int .u64 (Oct.word y.s 1 : Nat), .int .u64 (Oct.word y.s 2 : Nat), .int .u64 (Oct.word y.s 3 : Nat), .slice y.a y.n y.c, .int .i64 y.mn, .int .i64 y.mx] 30)).grownBy w6 u3.ownBlock) := hg6; clear hn6 hg6))
        have HNR6 : Hid (NB w6 R zeroNd) := HNR5.out.grown HG6.out (fun e => by have h1 := (HRN5.out.own R e.symm).1; have h2 := HRR.out; omega)
        have HB6 : Hid (Below w.heap.size w w6) := HB5.out.grown HG6.out HB5.out.size (fun k hk => by have := (HRN5.out.own k hk).1; omega)
        have HSZ6 : Hid (w.heap.size + 1 ≤ w6.heap.size) := Nat.le_trans HSZ5.out HG6.out.size
        go_roundw
        case rel => exact ⟨j + 1, ts ++ [T1], by go_num, by omega, HTn, HRN6, HNR6, HB6, HSZ6⟩
        case measure => simp [intOf]; omega
    · have hlt' : ¬ (j : Int) < (n : Int) := by omega
      have HEQ : Hid (trims subs = ts) := by
        show _ = _
        rw [← HTS.out, List.drop_of_length_le (by rw [← HN.out]; omega), trims, List.append_nil]
      rw [HEQ.out] at HTL
      have h6 : ts.length ≤ 1000000 := Nat.le_trans HTL.out HM0.out
      clear HIH HRO HTS HTL
      obtain ⟨q0, q1, q2, q3, q4, q5, q6, q7⟩ := HNR.out.cells
      have f0 := HNR.out.frozen 0
      have f1 := HNR.out.frozen 1
      have f2 := HNR.out.frozen 2
      have f3 := HNR.out.frozen 3
      have f4 := HNR.out.frozen 4
      have f5 := HNR.out.frozen 5
      have f6 := HNR.out.frozen 6
      have f7 := HNR.out.frozen 7
      obtain ⟨oa, oc, hV, hlc, hcm⟩ := HRN.out.form
      subst hV
      match ts, HRN, h6, hlc, HEQ with
      | [], HRN, _, _, HEQ =>
        have HG : Hid (NB (put8 wr R ⟨1, Oct.none, none, 0, 0, 0, 0⟩) R ⟨1, Oct.none, none, 0, 0, 0, 0⟩) := HNR.out.put8 _
        have HP : Hid (TrimPost w (packT (trims subs)) (.returned (Nd.val ⟨1, Oct.none, none, 0, 0, 0, 0⟩)) (put8 wr R ⟨1, Oct.none, none, 0, 0, 0, 0⟩)) := by rw [HEQ.out]; exact trim_end HB.out HRW.out (NwAt.leaf _ _ 1 Oct.none 0 0 none 0)
        unfold put8 at HG HP
        simp only [word0] at HG HP
        clear HRN
        simp only [List.length_nil]
        go_wp2
        exact post_node Tryz.f49 2 rfl rfl rfl HG.out HP.out
      | [t], HRN, _, _, HEQ =>
        obtain ⟨g, x, rfl, hx, hc⟩ := RowN.first (t := t) HRN.out
        have HG : Hid (NB (put8 wr R x) R x) := HNR.out.put8 _
        have HP : Hid (TrimPost w (packT (trims subs)) (.returned (Nd.val x)) (put8 wr R x)) := by rw [HEQ.out]; exact trim_end HB.out HRW.out (hx.keep (fun b hb _ => ⟨by omega, by have := HRR.out; omega⟩) (fun _ _ _ => rfl))
        have e0 := hc 0 _ rfl
        have e1 := hc 1 _ rfl
        have e2 := hc 2 _ rfl
        have e3 := hc 3 _ rfl
        have e4 := hc 4 _ rfl
        have e5 := hc 5 _ rfl
        have e6 := hc 6 _ rfl
        have e7 := hc 7 _ rfl
        unfold put8 at HG HP
        clear HRN hc hx
        simp only [List.length_cons, List.length_nil]
        go_wp2
        exact post_node Tryz.f49 2 rfl rfl rfl HG.out HP.out
      | t :: u :: l, HRN, h6, hlc, HEQ =>
        obtain ⟨N, hN⟩ : ∃ N, (t :: u :: l).length = N := ⟨_, rfl⟩
        rw [hN] at HRN h6 hlc ⊢
        have hN2 : 2 ≤ N := by rw [← hN]; simp
        have g0 : ((N : Int) == 0) = false := by simp; omega
        have g1 : ((N : Int) == 1) = false := by simp; omega
        have HX := RowN.node HRN.out hN.symm h6 3 0 0
        have HG : Hid (NB (put8 wr R ⟨3, Oct.none, oa, N, oc, 0, 0⟩) R ⟨3, Oct.none, oa, N, oc, 0, 0⟩) := HNR.out.put8 _
        have HP : Hid (TrimPost w (packT (trims subs)) (.returned (Nd.val ⟨3, Oct.none, oa, N, oc, 0, 0⟩)) (put8 wr R ⟨3, Oct.none, oa, N, oc, 0, 0⟩)) := by rw [HEQ.out]; exact trim_end HB.out HRW.out (HX.keep (fun b hb _ => ⟨by omega, by have := HRR.out; omega⟩) (fun _ _ _ => rfl))
        unfold put8 at HG HP
        simp only [word0] at HG HP
        clear HX HRN hN
        unfold maxLen at hcm
        go_wp2
        exact post_node Tryz.f49 2 rfl rfl rfl HG.out HP.out
end Go.Proofs.YtmjnobdlgbojoaaGreatDoor


namespace Go.Proofs.YtmjnobdlgbojoaaGreatDoor
open Go.RowKit
attribute [local go_sem ↓] Go.wp_at_zero Go.wp_at_succ
set_option maxRecDepth 4000 in
set_option maxHeartbeats 8000000 in
theorem ttimes_any {w0 : World} {s : Oct.S} {t : Tn} {v : Nd} {mn mx : Int} {a : Option Addr} {c : Nat} (hr : RowAt (fun _ => True) w0 a [v]) (hs : TrimV w0 t v) (w : World) (hlow : Below w0.heap.size w0 w) : Calls Tryz.prog 50 #[Nd.val ⟨5, s, a, 1, c, mn, mx⟩] w (TrimPost w (timesT (trim t) mn mx)) := by
  obtain ⟨T0, hT0⟩ : ∃ T0, timesT (trim t) mn mx = T0 := ⟨_, rfl⟩
  have HT0 : Hid (timesT (trim t) mn mx = T0) := hT0
  have HIH : Hid (TrimV w0 t v) := hs
  have HRO : Hid (RowAt (fun _ => True) w0 a [v]) := hr
  rw [hT0]
  clear hT0 hs hr
  have kk : Below w.heap.size w ((w.alloc (.cells #[.int .i64 5, .int .u64 (Oct.word s 0 : Nat), .int .u64 (Oct.word s 1 : Nat), .int .u64 (Oct.word s 2 : Nat), .int .u64 (Oct.word s 3 : Nat), .slice a 1 c, .int .i64 mn, .int .i64 mx] 30)).alloc (.cells #[.int .i64 0, .int .u64 0, .int .u64 0, .int .u64 0, .int .u64 0, .slice none 0 0, .int .i64 0, .int .i64 0] 30)) := ((Below.refl _ _).alloc (Nat.le_refl _) _).alloc (by simp) _
  have HNA : Hid (NB ((w.alloc (.cells #[.int .i64 5, .int .u64 (Oct.word s 0 : Nat), .int .u64 (Oct.word s 1 : Nat), .int .u64 (Oct.word s 2 : Nat), .int .u64 (Oct.word s 3 : Nat), .slice a 1 c, .int .i64 mn, .int .i64 mx] 30)).alloc (.cells #[.int .i64 0, .int .u64 0, .int .u64 0, .int .u64 0, .int .u64 0, .slice none 0 0, .int .i64 0, .int .i64 0] 30)) w.heap.size ⟨5, s, a, 1, c, mn, mx⟩) := (nb_new w ⟨5, s, a, 1, c, mn, mx⟩).later ((Below.refl _ _).alloc (Nat.le_refl _) _)
  have HNR : Hid (NB ((w.alloc (.cells #[.int .i64 5, .int .u64 (Oct.word s 0 : Nat), .int .u64 (Oct.word s 1 : Nat), .int .u64 (Oct.word s 2 : Nat), .int .u64 (Oct.word s 3 : Nat), .slice a 1 c, .int .i64 mn, .int .i64 mx] 30)).alloc (.cells #[.int .i64 0, .int .u64 0, .int .u64 0, .int .u64 0, .int .u64 0, .slice none 0 0, .int .i64 0, .int .i64 0] 30)) (w.heap.size + 1) zeroNd) := by
    have h1 := nb_zero (w.alloc (.cells #[.int .i64 5, .int .u64 (Oct.word s 0 : Nat), .int .u64 (Oct.word s 1 : Nat), .int .u64 (Oct.word s 2 : Nat), .int .u64 (Oct.word s 3 : Nat), .slice a 1 c, .int .i64 mn, .int .i64 mx] 30))
    rw [show (w.alloc (.cells #[.int .i64 5, .int .u64 (Oct.word s 0 : Nat), .int .u64 (Oct.word s 1 : Nat), .int .u64 (Oct.word s 2 : Nat), .int .u64 (Oct.word s 3 : Nat), .slice a 1 c, .int .i64 mn, .int .i64 mx] 30)).heap.size = w.heap.size + 1 by simp] at h1
    exact h1
  have HB : Hid (Below w.heap.size w ((w.alloc (.cells #[.int .i64 5, .int .u64 (Oct.word s 0 : Nat), .int .u64 (Oct.word s 1 : Nat), .int .u64 (Oct.word s 2 : Nat), .int .u64 (Oct.word s 3 : Nat), .slice a 1 c, .int .i64 mn, .int .i64 mx] 30)).alloc (.cells #[.int .i64 0, .int .u64 0, .int .u64 0, .int .u64 0, .int .u64 0, .slice none 0 0, .int .i64 0, .int .i64 0] 30))) := kk
  have HSZ : Hid (w.heap.size + 2 ≤ ((w.alloc (.cells #[.int .i64 5, .int .u64 (Oct.word s 0 : Nat), .int .u64 (Oct.word s 1 : Nat), .int .u64 (Oct.word s 2 : Nat), .int .u64 (Oct.word s 3 : Nat), .slice a 1 c, .int .i64 mn, .int .i64 mx] 30)).alloc (.cells #[.int .i64 0, .int .u64 0, .int .u64 0, .int .u64 0, .int .u64 0, .slice none 0 0, .int .i64 0, .int .i64 0] 30)).heap.size) := by show _ ≤ _; simp
  obtain ⟨w1, hw1⟩ : ∃ w1, (w.alloc (.cells #[.int .i64 5, .int .u64 (Oct.word s 0 : Nat), .int .u64 (Oct.word s 1 : Nat), .int .u64 (Oct.word s 2 : Nat), .int .u64 (Oct.word s 3 : Nat), .slice a 1 c, .int .i64 mn, .int .i64 mx] 30)).alloc (.cells #[.int .i64 0, .int .u64 0, .int .u64 0, .int .u64 0, .int .u64 0, .slice none 0 0, .int .i64 0, .int .i64 0] 30) = w1 := ⟨_, rfl⟩
  rw [hw1] at HNA HNR HB HSZ
  obtain ⟨A, hA⟩ : ∃ A, w.heap.size = A := ⟨_, rfl⟩
  obtain ⟨R, hR⟩ : ∃ R, w.heap.size + 1 = R := ⟨_, rfl⟩
  rw [hA] at HNA
  rw [hR] at HNR
  have HW1 : Hid ((w.alloc (.cells #[.int .i64 5, .int .u64 (Oct.word s 0 : Nat), .int .u64 (Oct.word s 1 : Nat), .int .u64 (Oct.word s 2 : Nat), .int .u64 (Oct.word s 3 : Nat), .slice a 1 c, .int .i64 mn, .int .i64 mx] 30)).alloc (.cells #[.int .i64 0, .int .u64 0, .int .u64 0, .int .u64 0, .int .u64 0, .slice none 0 0, .int .i64 0, .int .i64 0] 30) = w1) := hw1
  have HAA : Hid (w.heap.size = A) := hA
  have HRR : Hid (w.heap.size + 1 = R) := hR
  have HRW : Hid (w.heap.size ≤ R) := by show _ ≤ _; omega
  have HLW : Hid (Below w0.heap.size w0 w) := hlow
  have HL1 : Hid (Below w0.heap.size w0 w1) := below_two hlow (below_low HB.out hlow.size)
  clear hw1 hA hR hlow kk
  obtain ⟨y0, y1, y2, y3, y4, y5, y6, y7⟩ := HNA.out.cells
  simp only at y0 y1 y2 y3 y4 y5 y6 y7
  obtain ⟨q0, q1, q2, q3, q4, q5, q6, q7⟩ := HNR.out.cells
  have f0 := HNR.out.frozen 0
  have f1 := HNR.out.frozen 1
  have f2 := HNR.out.frozen 2
  have f3 := HNR.out.frozen 3
  have f4 := HNR.out.frozen 4
  have f5 := HNR.out.frozen 5
  have f6 := HNR.out.frozen 6
  have f7 := HNR.out.frozen 7
  unfold Nd.val
  simp only
  go_enter Tryz.func50, Tryz.ntmps50
  go_upto_region 1 with fail
  rw [HW1.out, HRR.out, HAA.out]
  clear HW1
  by_cases hm0 : mx = 0
  · subst hm0
    have HG : Hid (NB (put8 w1 R ⟨1, Oct.none, none, 0, 0, 0, 0⟩) R ⟨1, Oct.none, none, 0, 0, 0, 0⟩) := HNR.out.put8 _
    have HP : Hid (TrimPost w T0 (.returned (Nd.val ⟨1, Oct.none, none, 0, 0, 0, 0⟩)) (put8 w1 R ⟨1, Oct.none, none, 0, 0, 0, 0⟩)) := by rw [← HT0.out]; unfold timesT; rw [if_pos rfl]; exact trim_end HB.out HRW.out (NwAt.leaf _ _ 1 Oct.none 0 0 none 0)
    unfold put8 at HG HP
    simp only [word0] at HG HP
    go_wp2
    exact post_node Tryz.f50 2 rfl rfl rfl HG.out HP.out
  have hm1 : (mx == 0) = false := by simp [hm0]
  have hrow := (HRO.out.keep (w' := w1) (Y := fun _ => True) (fun _ _ _ => trivial) (fun b hb hlt => HL1.out.block b hlt)).nth (i := 0) rfl
  obtain ⟨g, off, hgo, e0, e1, e2, e3, e4, e5, e6, e7⟩ := hrow
  cases hgo
  simp only [Nat.zero_mul, Nat.add_zero] at e0 e1 e2 e3 e4 e5 e6 e7
  have HC : Hid (Calls Tryz.prog 22 #[v.val] w1 (TrimPost w1 (trim t))) := HIH.out w1 HL1.out
  obtain ⟨T1, hT1⟩ : ∃ T1, trim t = T1 := ⟨_, rfl⟩
  rw [hT1] at HC HT0
  clear hT1
  unfold Nd.val at HC
  go_wp2_with fail
  refine HC.out.mono ?_
  rintro e w3 ⟨k3, y, rfl, hy3⟩
  clear HC e0 e1 e2 e3 e4 e5 e6 e7 y0 y1 y2 y3 y4 y5 y6 y7 q0 q1 q2 q3 q4 q5 q6 q7 f0 f1 f2 f3 f4 f5 f6 f7
  have k4 : Below w3.heap.size w3 (w3.alloc (.cells #[.int .i64 y.k, .int .u64 (Oct.word y.s 0 : Nat), .int .u64 (Oct.word y.s 1 : Nat), .int .u64 (Oct.word y.s 2 : Nat), .int .u64 (Oct.word y.s 3 : Nat), .slice y.a y.n y.c, .int .i64 y.mn, .int .i64 y.mx] 30)) := (Below.refl _ _).alloc (Nat.le_refl _) _
  have k24 := below_step k3 k4
  have HNA4 : Hid (NB (w3.alloc (.cells #[.int .i64 y.k, .int .u64 (Oct.word y.s 0 : Nat), .int .u64 (Oct.word y.s 1 : Nat), .int .u64 (Oct.word y.s 2 : Nat), .int .u64 (Oct.word y.s 3 : Nat), .slice y.a y.n y.c, .int .i64 y.mn, .int .i64 y.mx] 30)) A ⟨5, s, some ⟨g, off, none⟩, 1, c, mn, mx⟩) := HNA.out.later k24
  have HNR4 : Hid (NB (w3.alloc (.cells #[.int .i64 y.k, .int .u64 (Oct.word y.s 0 : Nat), .int .u64 (Oct.word y.s 1 : Nat), .int .u64 (Oct.word y.s 2 : Nat), .int .u64 (Oct.word y.s 3 : Nat), .slice y.a y.n y.c, .int .i64 y.mn, .int .i64 y.mx] 30)) R zeroNd) := HNR.out.later k24
  have HB4 : Hid (Below w.heap.size w (w3.alloc (.cells #[.int .i64 y.k, .int .u64 (Oct.word y.s 0 : Nat), .int .u64 (Oct.word y.s 1 : Nat), .int .u64 (Oct.word y.s 2 : Nat), .int .u64 (Oct.word y.s 3 : Nat), .slice y.a y.n y.c, .int .i64 y.mn, .int .i64 y.mx] 30))) := below_step HB.out k24
  have HSZ4 : Hid (w.heap.size + 2 ≤ (w3.alloc (.cells #[.int .i64 y.k, .int .u64 (Oct.word y.s 0 : Nat), .int .u64 (Oct.word y.s 1 : Nat), .int .u64 (Oct.word y.s 2 : Nat), .int .u64 (Oct.word y.s 3 : Nat), .slice y.a y.n y.c, .int .i64 y.mn, .int .i64 y.mx] 30)).heap.size) := Nat.le_trans HSZ.out k24.size
  have HNY : Hid (NB (w3.alloc (.cells #[.int .i64 y.k, .int .u64 (Oct.word y.s 0 : Nat), .int .u64 (Oct.word y.s 1 : Nat), .int .u64 (Oct.word y.s 2 : Nat), .int .u64 (Oct.word y.s 3 : Nat), .slice y.a y.n y.c, .int .i64 y.mn, .int .i64 y.mx] 30)) w3.heap.size y) := nb_new w3 y
  have HKY : Hid (y.k = kindT T1) := hy3.kind
  have HY4 : Hid (NwAt (fun b => w.heap.size + 2 ≤ b) (w3.alloc (.cells #[.int .i64 y.k, .int .u64 (Oct.word y.s 0 : Nat), .int .u64 (Oct.word y.s 1 : Nat), .int .u64 (Oct.word y.s 2 : Nat), .int .u64 (Oct.word y.s 3 : Nat), .slice y.a y.n y.c, .int .i64 y.mn, .int .i64 y.mx] 30)) T1 y) := (hy3.later k4).keep (fun b hb _ => Nat.le_trans HSZ.out hb) (fun _ _ _ => rfl)
  clear hy3 k3 k24 HNA HNR HB HSZ
  unfold Nd.val
  go_upto_region 4 with fail
  obtain ⟨w4, hw4⟩ : ∃ w4, w3.alloc (.cells #[.int .i64 y.k, .int .u64 (Oct.word y.s 0 : Nat), .int .u64 (Oct.word y.s 1 : Nat), .int .u64 (Oct.word y.s 2 : Nat), .int .u64 (Oct.word y.s 3 : Nat), .slice y.a y.n y.c, .int .i64 y.mn, .int .i64 y.mx] 30) = w4 := ⟨_, rfl⟩
  obtain ⟨A4, hA4⟩ : ∃ A4, w3.heap.size = A4 := ⟨_, rfl⟩
  rw [hw4] at HNA4 HNR4 HB4 HSZ4 HNY HY4 ⊢
  rw [hA4] at HNY ⊢
  clear hw4 hA4 k4
  obtain ⟨z0, z1, z2, z3, z4, z5, z6, z7⟩ := HNY.out.cells
  obtain ⟨y0, y1, y2, y3, y4, y5, y6, y7⟩ := HNA4.out.cells
  simp only at y0 y1 y2 y3 y4 y5 y6 y7
  obtain ⟨q0, q1, q2, q3, q4, q5, q6, q7⟩ := HNR4.out.cells
  have f0 := HNR4.out.frozen 0
  have f1 := HNR4.out.frozen 1
  have f2 := HNR4.out.frozen 2
  have f3 := HNR4.out.frozen 3
  have f4 := HNR4.out.frozen 4
  have f5 := HNR4.out.frozen 5
  have f6 := HNR4.out.frozen 6
  have f7 := HNR4.out.frozen 7
  have HYR : Hid (NwAt (fun b => w.heap.size ≤ b ∧ b ≠ R) w4 T1 y) := HY4.out.keep (fun b hb _ => ⟨by omega, by have := HRR.out; omega⟩) (fun _ _ _ => rfl)
  have HG : Hid (NB (put8 w4 R y) R y) := HNR4.out.put8 _
  have HP : Hid ((kindT T1 = 1 ∨ (mn = 1 ∧ mx = 1)) → TrimPost w T0 (.returned (Nd.val y)) (put8 w4 R y)) := fun hk => by rw [← HT0.out]; unfold timesT; rw [if_neg hm0, if_pos hk]; exact trim_end HB4.out HRW.out HYR.out
  unfold put8 at HG HP
  by_cases hk1 : y.k = 1
  · have hk3 : (y.k == 1) = true := by simp [hk1]
    have HP2 : Hid _ := HP.out (Or.inl (by rw [← HKY.out]; exact hk1))
    clear HP hk1
    go_wp2
    exact post_node Tryz.f50 2 rfl rfl rfl HG.out HP2.out
  have hk3 : (y.k == 1) = false := by simp [hk1]
  have HK1 : Hid (¬ y.k = 1) := hk1
  clear hk1
  by_cases h11 : mn = 1 ∧ mx = 1
  · have HP2 : Hid _ := HP.out (Or.inr h11)
    obtain ⟨rfl, rfl⟩ := h11
    clear HP
    go_wp2
    exact post_node Tryz.f50 2 rfl rfl rfl HG.out HP2.out
  clear HP HG
  have k5 : Below w4.heap.size w4 (w4.alloc (.cells #[.int .i64 y.k, .int .u64 (Oct.word y.s 0 : Nat), .int .u64 (Oct.word y.s 1 : Nat), .int .u64 (Oct.word y.s 2 : Nat), .int .u64 (Oct.word y.s 3 : Nat), .slice y.a y.n y.c, .int .i64 y.mn, .int .i64 y.mx] 30)) := (Below.refl _ _).alloc (Nat.le_refl _) _
  have HNR5 : Hid (NB (w4.alloc (.cells #[.int .i64 y.k, .int .u64 (Oct.word y.s 0 : Nat), .int .u64 (Oct.word y.s 1 : Nat), .int .u64 (Oct.word y.s 2 : Nat), .int .u64 (Oct.word y.s 3 : Nat), .slice y.a y.n y.c, .int .i64 y.mn, .int .i64 y.mx] 30)) R zeroNd) := HNR4.out.later k5
  have HB5 : Hid (Below w.heap.size w (w4.alloc (.cells #[.int .i64 y.k, .int .u64 (Oct.word y.s 0 : Nat), .int .u64 (Oct.word y.s 1 : Nat), .int .u64 (Oct.word y.s 2 : Nat), .int .u64 (Oct.word y.s 3 : Nat), .slice y.a y.n y.c, .int .i64 y.mn, .int .i64 y.mx] 30))) := below_step HB4.out k5
  have HRN5 : Hid (RowN (w4.alloc (.cells #[.int .i64 y.k, .int .u64 (Oct.word y.s 0 : Nat), .int .u64 (Oct.word y.s 1 : Nat), .int .u64 (Oct.word y.s 2 : Nat), .int .u64 (Oct.word y.s 3 : Nat), .slice y.a y.n y.c, .int .i64 y.mn, .int .i64 y.mx] 30)) (w.heap.size + 2) (.slice (some ⟨w4.heap.size, 0, none⟩) 1 1) [T1]) := rowN_one HY4.out HSZ4.out
  have HX := RowN.node HRN5.out rfl (by decide) 5 mn mx
  have HG : Hid (NB (put8 (w4.alloc (.cells #[.int .i64 y.k, .int .u64 (Oct.word y.s 0 : Nat), .int .u64 (Oct.word y.s 1 : Nat), .int .u64 (Oct.word y.s 2 : Nat), .int .u64 (Oct.word y.s 3 : Nat), .slice y.a y.n y.c, .int .i64 y.mn, .int .i64 y.mx] 30)) R ⟨5, Oct.none, some ⟨w4.heap.size, 0, none⟩, 1, 1, mn, mx⟩) R ⟨5, Oct.none, some ⟨w4.heap.size, 0, none⟩, 1, 1, mn, mx⟩) := HNR5.out.put8 _
  have HP : Hid (TrimPost w T0 (.returned (Nd.val ⟨5, Oct.none, some ⟨w4.heap.size, 0, none⟩, 1, 1, mn, mx⟩)) (put8 (w4.alloc (.cells #[.int .i64 y.k, .int .u64 (Oct.word y.s 0 : Nat), .int .u64 (Oct.word y.s 1 : Nat), .int .u64 (Oct.word y.s 2 : Nat), .int .u64 (Oct.word y.s 3 : Nat), .slice y.a y.n y.c, .int .i64 y.mn, .int .i64 y.mx] 30)) R ⟨5, Oct.none, some ⟨w4.heap.size, 0, none⟩, 1, 1, mn, mx⟩)) := by
    rw [← HT0.out]
    unfold timesT
    rw [if_neg hm0, if_neg (by rintro (h | h); exact HK1.out (by rw [HKY.out]; exact h); exact h11 h)]
    exact trim_end HB5.out HRW.out (HX.keep (fun b hb _ => ⟨by omega, by have := HRR.out; omega⟩) (fun _ _ _ => rfl))
  unfold put8 at HG HP
  simp only [word0] at HG HP
  clear HX HRN5 k5
  have hor : (mn == 1) = false ∨ ((mn == 1) = true ∧ (mx == 1) = false) := by
    by_cases h1 : mn = 1
    · by_cases h2 : mx = 1
      · exact absurd ⟨h1, h2⟩ h11
      · exact Or.inr ⟨by simp [h1], by simp [h2]⟩
    · exact Or.inl (by simp [h1])
  have HNA5 : Hid (NB (w4.alloc (.cells #[.int .i64 y.k, .int .u64 (Oct.word y.s 0 : Nat), .int .u64 (Oct.word y.s 1 : Nat), .int .u64 (Oct.word y.s 2 : Nat), .int .u64 (Oct.word y.s 3 : Nat), .slice y.a y.n y.c, .int .i64 y.mn, .int .i64 y.mx] 30)) A ⟨5, s, some ⟨g, off, none⟩, 1, c, mn, mx⟩) := HNA4.out.later ((Below.refl _ _).alloc (Nat.le_refl _) _)
  have HNY5 : Hid (NB (w4.alloc (.cells #[.int .i64 y.k, .int .u64 (Oct.word y.s 0 : Nat), .int .u64 (Oct.word y.s 1 : Nat), .int .u64 (Oct.word y.s 2 : Nat), .int .u64 (Oct.word y.s 3 : Nat), .slice y.a y.n y.c, .int .i64 y.mn, .int .i64 y.mx] 30)) A4 y) := HNY.out.later ((Below.refl _ _).alloc (Nat.le_refl _) _)
  obtain ⟨yy0, yy1, yy2, yy3, yy4, yy5, yy6, yy7⟩ := HNA5.out.cells
  simp only at yy0 yy1 yy2 yy3 yy4 yy5 yy6 yy7
  obtain ⟨qq0, qq1, qq2, qq3, qq4, qq5, qq6, qq7⟩ := HNR5.out.cells
  have ff0 := HNR5.out.frozen 0
  have ff1 := HNR5.out.frozen 1
  have ff2 := HNR5.out.frozen 2
  have ff3 := HNR5.out.frozen 3
  have ff4 := HNR5.out.frozen 4
  have ff5 := HNR5.out.frozen 5
  have ff6 := HNR5.out.frozen 6
  have ff7 := HNR5.out.frozen 7
  clear h11 HNA5 HNY5 HNA4 HNR4 HNY HY4 HYR
  rcases hor with g1 | ⟨g1, g2⟩
  all_goals
    go_wp2
    exact post_node Tryz.f50 2 rfl rfl rfl HG.out HP.out
end Go.Proofs.YtmjnobdlgbojoaaGreatDoor
