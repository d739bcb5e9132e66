/- PartClasses. -/
import Derived.Test.YtemmicnhnaafmaaG13
namespace Go.Proofs.Ytemmicnhnaafmaa
open Go.RowKit

set_option maxRecDepth 20000 in
set_option maxHeartbeats 8000000 in
theorem classes_law (a ra : Option Addr) (n cap rn rcap : Nat) (c : Int) (ss0 : List Oct.S) (raw : List Int) (w : World) (hn0 : n = ss0.length) (hc : n ≤ cap) (hat0 : SetsAt w a ss0) (hrn : rn = raw.length) (hrm : rn ≤ maxLen) (hraw : RawAt w ra raw) :
    Calls Try.prog 6 #[.slice a n cap, .slice ra rn rcap, .int .i64 c] w fun e w' => e = .returned (.bool true) ∧ Below w.heap.size w w' := by
  have ha : n = 0 ∨ ∃ b off, a = some ⟨b, off, none⟩ := by
    rcases hat0 with h | ⟨b, off, h, _⟩
    · left; rw [hn0, h]; rfl
    · exact .inr ⟨b, off, h⟩
  have HSM : Hid (Calls Try.prog 12 #[.slice a n cap, .int .i64 40] w fun e w' => e = .returned (.slice a (min n 40) cap) ∧ w' = w) := small_any a n cap 40 w hc (by decide) ha
  obtain ⟨m, hm⟩ : ∃ m, m = min n 40 := ⟨_, rfl⟩
  rw [← hm] at HSM
  obtain ⟨ss, hss⟩ : ∃ ss, ss = ss0.take 40 := ⟨_, rfl⟩
  have HN : Hid (m = ss.length) := by show _ = _; rw [hss, List.length_take, hm, hn0]; omega
  have HAT : Hid (SetsAt w a ss) := by rw [hss]; exact setsAt_take hat0 40
  have HRW : Hid (RawAt w ra raw) := hraw
  have HRN : Hid (rn = raw.length) := hrn
  have hrm' : rn ≤ 9223372036854775807 := by simpa [maxLen] using hrm
  have hm40 : m ≤ 40 := by omega
  have hmc : m ≤ cap := by omega
  clear hm hss hn0 hat0 hc ha hraw hrn hrm
  have hz := zeroArr
  go_enter Try.func6, Try.ntmps6
  go_wp2_with fail
  refine HSM.out.mono ?_
  rintro e w1 ⟨rfl, hw1⟩
  subst hw1
  clear HSM
  go_wp2_with fail
  refine (known_any w1).mono ?_
  rintro e w2 ⟨rfl, hb2⟩
  have HB2 : Hid (Below w1.heap.size w1 w2) := hb2
  clear hb2
  go_wp2_with fail
  refine (rclasses_any a m cap ss w2 HN.out (by omega) (setsAt_later HB2.out HAT.out)).mono ?_
  rintro e w3 ⟨rfl, hb3⟩
  have HB3 : Hid (Below w1.heap.size w1 w3) := below_trans HB2.out hb3 HB2.out.size
  clear hb3 HB2
  obtain ⟨N, hN⟩ : ∃ N, N = Pt.cnt (Pt.sameB ss) 256 := ⟨_, rfl⟩
  rw [← hN]
  have HNN : Hid (N = Pt.cnt (Pt.sameB ss) 256) := hN
  have hN256 : N ≤ 256 := by rw [hN]; exact Pt.cnt_le 256
  clear hN
  have HA1 : Hid (AB (w3.alloc (.cells (cv fun _ => 0) 38)) w3.heap.size (fun _ => 0)) := ab_new w3 (fun _ => 0)
  have HEE : Hid ((w3.alloc (.cells (cv fun _ => 0) 38)).setRow w3.heap.size (cv (clsV ss)) = w3.alloc (.cells (cv (clsV ss)) 38)) := World.setRow_alloc_new w3 (cv fun _ => 0) (cv (clsV ss)) 38
  have HX7 : Hid (AB (w3.alloc (.cells (cv (clsV ss)) 38)) w3.heap.size (clsV ss)) := ab_new w3 (clsV ss)
  have HB4 : Hid (Below w1.heap.size w1 (w3.alloc (.cells (cv (clsV ss)) 38))) := HB3.out.alloc HB3.out.size _
  have h73 := HB3.out.size
  have h74 : w3.heap.size < (w3.alloc (.cells (cv (clsV ss)) 38)).heap.size := by simp
  clear HB3
  go_upto_region 5 with (refine wpList_store_arr rfl (.tmp 7) (.tmp 24) rfl HA1.out rfl rfl ?_; rw [HEE.out])
  obtain ⟨w4, hw4⟩ : ∃ w4, w3.alloc (.cells (cv (clsV ss)) 38) = w4 := ⟨_, rfl⟩
  obtain ⟨A7, hA7⟩ : ∃ A7, w3.heap.size = A7 := ⟨_, rfl⟩
  rw [hw4] at HX7 HB4 h74
  rw [hA7] at HX7 h73 h74
  rw [hw4, hA7]
  clear hw4 hA7 HA1 HEE
  have HSA : Hid (SetsAt w4 a ss) := setsAt_later HB4.out HAT.out
  go_upto_region 7 with (at_builtin; go_must (refine wpList_append_setsN rfl _ _ rfl w4 _ [] rfl (ownsS_nil _ _) (Below.refl _ _) a cap m ss HN.out rfl HSA.out (by rw [← HN.out]; simp; omega) (fun _ => rfl) ?_; intro v5 w5 ho5 hb5; have HO5 : Hid (OwnsS w5 w4.heap.size v5 ss) := ho5; have HB5 : Hid (Below w4.heap.size w4 w5) := hb5; clear ho5 hb5))
  have k6 : Below w5.heap.size w5 (w5.alloc (.cells #[.int .u64 77, .int .u64 0, .int .u64 0, .int .u64 0] 31)) := (Below.refl _ _).alloc (Nat.le_refl _) _
  have HO6 : Hid (OwnsS (w5.alloc (.cells #[.int .u64 77, .int .u64 0, .int .u64 0, .int .u64 0] 31)) w4.heap.size v5 ss) := HO5.out.later k6
  have HB6 : Hid (Below w4.heap.size w4 (w5.alloc (.cells #[.int .u64 77, .int .u64 0, .int .u64 0, .int .u64 0] 31))) := HB5.out.alloc HB5.out.size _
  have HSL : Hid (SetsAt (w5.alloc (.cells #[.int .u64 77, .int .u64 0, .int .u64 0, .int .u64 0] 31)) (some ⟨w5.heap.size, 0, none⟩) [s77]) := (sl77 w5).at
  clear k6
  go_upto_region 8 with (at_builtin; go_must (refine wpList_append_setsN rfl _ _ rfl w4 _ ss rfl HO6.out HB6.out (some ⟨w5.heap.size, 0, none⟩) 1 1 [s77] rfl rfl HSL.out (by rw [← HN.out]; simp; omega) (by simp) ?_; intro v7 w7 ho7 hb7; have HO7 : Hid (OwnsS w7 w4.heap.size v7 (ss ++ [s77])) := ho7; have HB7 : Hid (Below w4.heap.size w4 w7) := hb7; clear ho7 hb7))
  clear HO5 HB5 HO6 HB6 HSL HSA
  obtain ⟨g, c7, e7, hg1, hg2, hcm⟩ := HO7.out.form (by simp)
  have hl7 : (ss ++ [s77]).length = m + 1 := by rw [List.length_append, ← HN.out]; rfl
  rw [hl7] at e7 hcm
  subst e7
  have hcm' : ((m : Nat) : Int) ≤ (c7 : Int) := by omega
  have HTM : Hid ((ss ++ [s77]).take m = ss) := by show _ = _; rw [HN.out, List.take_left]
  have HL7 : Hid (m + 1 = (ss ++ [s77]).length) := hl7.symm
  have hSA7 : SetsAt w7 (some ⟨g, 0, none⟩) ss := by
    have h := HO7.out.at (m := m) HL7.out
    rw [HTM.out] at h
    exact h
  have HSA7 : Hid (SetsAt w7 (some ⟨g, 0, none⟩) ss) := hSA7
  clear hSA7 hl7
  go_wp2_with fail
  refine (classes_any (some ⟨g, 0, none⟩) m c7 ss w7 HN.out (by omega) (by omega) HSA7.out).mono ?_
  rintro e w8 ⟨rfl, hb8⟩
  rw [← HNN.out]
  have HA8 : Hid (AB (w8.alloc (.cells (cv fun _ => 0) 38)) w8.heap.size (fun _ => 0)) := ab_new w8 (fun _ => 0)
  have HE8 : Hid ((w8.alloc (.cells (cv fun _ => 0) 38)).setRow w8.heap.size (cv (clsV ss)) = w8.alloc (.cells (cv (clsV ss)) 38)) := World.setRow_alloc_new w8 (cv fun _ => 0) (cv (clsV ss)) 38
  have k9 : Below w7.heap.size w7 (w8.alloc (.cells (cv (clsV ss)) 38)) := hb8.alloc hb8.size _
  have HX10 : Hid (AB (w8.alloc (.cells (cv (clsV ss)) 38)) w8.heap.size (clsV ss)) := ab_new w8 (clsV ss)
  have h810 := hb8.size
  have h811 : w8.heap.size < (w8.alloc (.cells (cv (clsV ss)) 38)).heap.size := by simp
  clear hb8
  go_upto_region 9 with (refine wpList_store_arr rfl (.tmp 10) (.tmp 39) rfl HA8.out rfl rfl ?_; rw [HE8.out])
  obtain ⟨w9, hw9⟩ : ∃ w9, w8.alloc (.cells (cv (clsV ss)) 38) = w9 := ⟨_, rfl⟩
  obtain ⟨A10, hA10⟩ : ∃ A10, w8.heap.size = A10 := ⟨_, rfl⟩
  rw [hw9] at HX10 k9 h811
  rw [hA10] at HX10 h810 h811
  rw [hw9, hA10]
  clear hw9 hA10 HA8 HE8
  have HK9 : Hid (Below w7.heap.size w7 w9) := k9
  clear k9
  go_wp2_with fail
  refine (classes_any (some ⟨g, 0, none⟩) m c7 ss w9 HN.out (by omega) (by omega) (setsAt_later HK9.out HSA7.out)).mono ?_
  rintro e w10 ⟨rfl, hb10⟩
  rw [← HNN.out]
  have HA11 : Hid (AB (w10.alloc (.cells (cv fun _ => 0) 38)) w10.heap.size (fun _ => 0)) := ab_new w10 (fun _ => 0)
  have HE11 : Hid ((w10.alloc (.cells (cv fun _ => 0) 38)).setRow w10.heap.size (cv (clsV ss)) = w10.alloc (.cells (cv (clsV ss)) 38)) := World.setRow_alloc_new w10 (cv fun _ => 0) (cv (clsV ss)) 38
  have k11 : Below w9.heap.size w9 (w10.alloc (.cells (cv (clsV ss)) 38)) := hb10.alloc hb10.size _
  have hX12 := ab_new w10 (clsV ss)
  have h1012 := hb10.size
  have HP0 : Hid (Pc w1 (w10.alloc (.cells (cv (clsV ss)) 38)) w4.heap.size g c7 m A7 A10 w10.heap.size (ss ++ [s77]) (clsV ss) (clsV ss) (clsV ss)) := by
    have kk := below_trans HK9.out k11 HK9.out.size
    exact ⟨HO7.out.later kk, (HX7.out.later HB7.out).later kk, HX10.out.later k11, hX12, below_trans HB4.out (below_trans HB7.out kk HB7.out.size) HB4.out.size⟩
  clear hb10 k11 hX12
  go_upto_region 10 with (refine wpList_store_arr rfl (.tmp 12) (.tmp 47) rfl HA11.out rfl rfl ?_; rw [HE11.out])
  obtain ⟨w11, hw11⟩ : ∃ w11, w10.alloc (.cells (cv (clsV ss)) 38) = w11 := ⟨_, rfl⟩
  obtain ⟨A12, hA12⟩ : ∃ A12, w10.heap.size = A12 := ⟨_, rfl⟩
  rw [hw11, hA12] at HP0
  rw [hA12] at h1012
  rw [hw11, hA12]
  clear hw11 hA12 HA11 HE11
  have HD : Hid (g ≠ A7 ∧ g ≠ A10 ∧ g ≠ A12 ∧ A7 ≠ A10 ∧ A7 ≠ A12 ∧ A10 ≠ A12 ∧ w1.heap.size ≤ g ∧ w1.heap.size ≤ A7 ∧ w1.heap.size ≤ A10 ∧ w1.heap.size ≤ A12) := by
    refine ⟨?_, ?_, ?_, ?_, ?_, ?_, ?_, ?_, ?_, ?_⟩ <;> omega
  clear HX7 HB4 HO7 HB7 HSA7 HX10 HK9 h73 h74 h810 h811 h1012 hg1 hg2
  have HQ7 : Hid (AB w11 A7 (clsV ss)) := HP0.out.x7
  have HQ10 : Hid (AB w11 A10 (clsV ss)) := HP0.out.x10
  have HQ12 : Hid (AB w11 A12 (clsV ss)) := HP0.out.x12
  have heq := eqArr (clsV ss) (clsV_range ss)
  go_wp2_with (first | refine wpList_load_arr rfl (.tmp 10) rfl HQ10.out rfl ?_ | refine wpList_load_arr rfl (.tmp 7) rfl HQ7.out rfl ?_ | refine wpList_load_arr_g rfl (.tmp 12) rfl HQ12.out rfl ?_ | refine wpList_load_arr_g rfl (.tmp 7) rfl HQ7.out rfl ?_)
  have HSAA : Hid (SetsAt w11 (some ⟨g, 0, none⟩) ss) := by
    have h := HP0.out.row.at (m := m) HL7.out
    rw [HTM.out] at h
    exact h
  refine (sameSets_any (some ⟨g, 0, none⟩) a m c7 cap ss w11 HN.out (by omega) HSAA.out (setsAt_later HP0.out.low HAT.out)).mono ?_
  rintro e w12 ⟨rfl, hb12⟩
  have HP1 : Hid (Pc w1 w12 w4.heap.size g c7 m A7 A10 A12 (ss ++ [s77]) (clsV ss) (clsV ss) (clsV ss)) := HP0.out.later hb12
  clear hb12 HQ7 HQ10 HQ12 HSAA HP0
  have h77 : (ss ++ [s77])[m]? = some s77 := by rw [HN.out]; simp
  obtain ⟨p0, p1, p2, p3⟩ := HP1.out.row.cells HL7.out h77
  rw [s77_0] at p0
  rw [s77_1] at p1
  rw [s77_2] at p2
  rw [s77_3] at p3
  have p0' : w12.cell? ⟨g, m * 4, none⟩ = some (.int .u64 77) := p0
  have p1' : w12.cell? ⟨g, m * 4 + 1, none⟩ = some (.int .u64 0) := p1
  have p2' : w12.cell? ⟨g, m * 4 + 2, none⟩ = some (.int .u64 0) := p2
  have p3' : w12.cell? ⟨g, m * 4 + 3, none⟩ = some (.int .u64 0) := p3
  have eq := eq4_same
  have hmm : (m : Int) < ((m + 1 : Nat) : Int) := by omega
  clear h77 p0 p1 p2 p3 heq
  go_wp2_with fail
  clear p0' p1' p2' p3' eq
  obtain ⟨L, hL⟩ : ∃ L, L = ss ++ [s77] := ⟨_, rfl⟩
  have HP2 : Hid (Pc w1 w12 w4.heap.size g c7 m A7 A10 A12 (turn 0 L) (clsV ss) (clsV ss) (clsV ss)) := by rw [turn_zero, hL]; exact HP1
  have HLL : Hid (m + 1 = L.length) := by rw [hL]; exact HL7
  have HLM : Hid ((L.map up1).take m = ss.map up1) := by
    show _ = _
    rw [hL, List.map_append, HN.out, ← List.length_map (f := up1), List.take_left]
  clear hL HP1 HL7 HTM
  go_loopw [87] (fun i u => ∃ k : Nat, k ≤ m + 1 ∧ i = .int .i64 (k : Nat) ∧ Hid (Pc w1 u w4.heap.size g c7 m A7 A10 A12 (turn k L) (clsV ss) (clsV ss) (clsV ss))) (fun i _ => m + 1 - (intOf i).toNat)
  case atStart => exact ⟨0, by omega, rfl, HP2⟩
  case round =>
    clear HP2
    obtain ⟨k, hk, rfl, HP⟩ := hrel
    by_cases hlt : k < m + 1
    · have hlt' : (k : Int) < ((m + 1 : Nat) : Int) := by omega
      have hlt2 : (k : Int) < (m : Int) + 1 := by omega
      obtain ⟨s, hs⟩ : ∃ s, L[k]? = some s := ⟨_, List.getElem?_eq_getElem (by rw [← HLL.out]; exact hlt)⟩
      have HTL : Hid (m + 1 = (turn k L).length) := by show _ = _; rw [turn_length]; exact HLL.out
      have HTA : Hid ((turn k L)[k]? = some s) := turn_at k L s hs
      have HTS : Hid ((turn k L).set k (up1 s) = turn (k + 1) L) := turn_succ k L s hs
      obtain ⟨p0, p1, p2, p3⟩ := HP.out.row.cells HTL.out HTA.out
      have f1 := HP.out.row.frozen HTL.out (k * 4 + 1)
      have HP3 : Hid (Pc w1 (wr.setCell ⟨g, k * 4 + 1, none⟩ (.int .u64 (bits .xor .u64 (Oct.word s 1 : Nat) 65535))).drew w4.heap.size g c7 m A7 A10 A12 (turn (k + 1) L) (clsV ss) (clsV ss) (clsV ss)) := by
        have h := HP.out.put1 HTL.out HTA.out ⟨HD.out.1, HD.out.2.1, HD.out.2.2.1, HD.out.2.2.2.2.2.2.1⟩
        rw [HTS.out] at h
        exact h.later (Below.refl _ _).drew
      clear hs HP HTA HTL HTS
      go_upto_region 15 with fail
      go_region_with (fail)
      obtain ⟨w13, hw13⟩ : ∃ w13, w13 = (wr.setCell ⟨g, k * 4 + 1, none⟩ (.int .u64 (bits .xor .u64 (Oct.word s 1 : Nat) 65535))).drew := ⟨_, rfl⟩
      rw [← hw13] at HP3 ⊢
      clear hw13 p0 p1 p2 p3 f1
      go_wp2_with fail
      go_roundw
      case rel => exact ⟨k + 1, by omega, by go_num, HP3⟩
      case measure => simp [intOf]; omega
    · have hge : ¬ (k : Int) < ((m + 1 : Nat) : Int) := by omega
      have hge2 : ¬ (k : Int) < (m : Int) + 1 := by omega
      obtain ⟨s1, hs1⟩ : ∃ s1, s1 = ss.map up1 := ⟨_, rfl⟩
      have HS1 : Hid (m = s1.length) := by show _ = _; rw [hs1, List.length_map]; exact HN.out
      have HP4 : Hid (Pc w1 wr w4.heap.size g c7 m A7 A10 A12 (L.map up1) (clsV ss) (clsV ss) (clsV ss)) := by
        have h := HP.out
        rw [show k = L.length by rw [← HLL.out]; omega, turn_all] at h
        exact h
      have HAT4 : Hid (∀ u, Pc w1 u w4.heap.size g c7 m A7 A10 A12 (L.map up1) (clsV ss) (clsV ss) (clsV ss) → SetsAt u (some ⟨g, 0, none⟩) s1) := fun u h => by
        have h1 := h.row.at (m := m) (by rw [List.length_map]; exact HLL.out)
        rw [HLM.out, ← hs1] at h1
        exact h1
      clear HP hs1
      go_wp2_with fail
      refine (classes_any (some ⟨g, 0, none⟩) m c7 s1 wr HS1.out (by omega) (by omega) (HAT4.out _ HP4.out)).mono ?_
      rintro e w13 ⟨rfl, hb13⟩
      have HP5 : Hid (Pc w1 w13 w4.heap.size g c7 m A7 A10 A12 (L.map up1) (clsV ss) (clsV ss) (clsV ss)) := HP4.out.later hb13
      have HAT5 : Hid (SetsAt w13 (some ⟨g, 0, none⟩) s1) := HAT4.out _ HP5.out
      clear hb13 HP4 HAT4
      obtain ⟨N1, hN1⟩ : ∃ N1, N1 = Pt.cnt (Pt.sameB s1) 256 := ⟨_, rfl⟩
      rw [← hN1]
      have HN1 : Hid (N1 = Pt.cnt (Pt.sameB s1) 256) := hN1
      clear hN1
      have HX10 : Hid (AB w13 A10 (clsV ss)) := HP5.out.x10
      have HP6 : Hid (Pc w1 (w13.setRow A10 (cv (clsV s1))) w4.heap.size g c7 m A7 A10 A12 (L.map up1) (clsV ss) (clsV s1) (clsV ss)) := HP5.out.row10 ⟨HD.out.2.1, HD.out.2.2.2.1, HD.out.2.2.2.2.2.1.symm, HD.out.2.2.2.2.2.2.2.2.1⟩ (clsV s1)
      have HAT6 : Hid (SetsAt (w13.setRow A10 (cv (clsV s1))) (some ⟨g, 0, none⟩) s1) := by
        rcases HAT5.out with h | ⟨b, off, e, hc⟩
        · exact .inl h
        · cases e
          refine .inr ⟨_, _, rfl, fun q t hq => ?_⟩
          have e2 : ∀ j, (w13.setRow A10 (cv (clsV s1))).cell? ⟨g, j, none⟩ = w13.cell? ⟨g, j, none⟩ := fun j => World.cell?_of_block (a := ⟨g, j, none⟩) (heap_row _ _ _ _ HD.out.2.1)
          rw [e2, e2, e2, e2]
          exact hc q t hq
      clear HP5 HAT5
      go_upto_region 18 with (refine wpList_store_arr rfl (.tmp 10) (.tmp 107) rfl HX10.out rfl rfl ?_)
      obtain ⟨w14, hw14⟩ : ∃ w14, w13.setRow A10 (cv (clsV s1)) = w14 := ⟨_, rfl⟩
      rw [hw14] at HP6 HAT6 ⊢
      clear hw14 HX10
      go_wp2_with fail
      refine (rclasses_any (some ⟨g, 0, none⟩) m c7 s1 w14 HS1.out (by omega) HAT6.out).mono ?_
      rintro e w15 ⟨rfl, hb15⟩
      rw [← HN1.out]
      have HP7 : Hid (Pc w1 w15 w4.heap.size g c7 m A7 A10 A12 (L.map up1) (clsV ss) (clsV s1) (clsV ss)) := HP6.out.later hb15
      clear hb15 HP6 HAT6
      have HX12 : Hid (AB w15 A12 (clsV ss)) := HP7.out.x12
      have HP8 : Hid (Pc w1 (w15.setRow A12 (cv (clsV s1))) w4.heap.size g c7 m A7 A10 A12 (L.map up1) (clsV ss) (clsV s1) (clsV s1)) := HP7.out.row12 ⟨HD.out.2.2.1, HD.out.2.2.2.2.1, HD.out.2.2.2.2.2.1, HD.out.2.2.2.2.2.2.2.2.2⟩ (clsV s1)
      clear HP7
      go_upto_region 19 with (refine wpList_store_arr rfl (.tmp 12) (.tmp 115) rfl HX12.out rfl rfl ?_)
      obtain ⟨w16, hw16⟩ : ∃ w16, w15.setRow A12 (cv (clsV s1)) = w16 := ⟨_, rfl⟩
      rw [hw16] at HP8 ⊢
      clear hw16 HX12
      have HQ10 : Hid (AB w16 A10 (clsV s1)) := HP8.out.x10
      have HQ12 : Hid (AB w16 A12 (clsV s1)) := HP8.out.x12
      have heq := eqArr (clsV s1) (clsV_range s1)
      go_wp2_with (first | refine wpList_load_arr rfl (.tmp 10) rfl HQ10.out rfl ?_ | refine wpList_load_arr rfl (.tmp 12) rfl HQ12.out rfl ?_)
      clear heq HQ10 HQ12
      have HY7 : Hid (AB w16 A7 (clsV ss)) := HP8.out.x7
      have HYL : Hid (Below w1.heap.size w1 w16) := HP8.out.low
      have HA7 : Hid (w1.heap.size ≤ A7) := HD.out.2.2.2.2.2.2.2.1
      clear HP8 HD HLL HLM HS1 HN1
      go_loopw [15] (fun i u => ∃ z : Int, i = .int .i64 z ∧ -1 ≤ z ∧ z ≤ (N : Int) + 1 ∧ Hid (AB u A7 (clsV ss)) ∧ Hid (Below w1.heap.size w1 u)) (fun i _ => ((N : Int) + 1 - intOf i).toNat)
      case atStart => exact ⟨-1, rfl, by omega, by omega, HY7, HYL⟩
      case round =>
        clear HY7 HYL
        obtain ⟨z, rfl, hz1, hz2, HY, HYB⟩ := hrel
        by_cases hzN : z ≤ (N : Int)
        · have hzw : IntKind.i64.wrap (z + 1) = z + 1 := by rw [IntKind.wrap_i64]; omega
          have HQ : Hid (∀ u : Later wr, AB u.at_ A7 (clsV ss)) := fun u => HY.out.later u.below
          obtain ⟨mm, hmm⟩ : ∃ mm, mm = Pt.memb (clsV ss) z := ⟨_, rfl⟩
          have HM : Hid (∀ v, Calls Try.prog 15 #[.agg (cv (clsV ss)), .int .i64 z] v fun e w' => e = .returned (.agg #[.int .u64 (Oct.word mm 0 : Nat), .int .u64 (Oct.word mm 1 : Nat), .int .u64 (Oct.word mm 2 : Nat), .int .u64 (Oct.word mm 3 : Nat)]) ∧ Below v.heap.size v w') := fun v => by rw [hmm]; exact members_any (clsV ss) z v
          have HMR : Hid (∀ v, Calls Try.prog 20 #[.agg (cv (clsV ss)), .int .i64 z] v fun e w' => e = .returned (.agg #[.int .u64 (Oct.word mm 0 : Nat), .int .u64 (Oct.word mm 1 : Nat), .int .u64 (Oct.word mm 2 : Nat), .int .u64 (Oct.word mm 3 : Nat)]) ∧ Below v.heap.size v w') := fun v => by rw [hmm]; exact rmembers_any (clsV ss) z v
          clear hmm
          have eq := eq4_same
          have hne : Nonempty (Later wr) := ⟨⟨wr, Below.refl _ _⟩⟩
          go_upto_region 24 with fail
          go_cut [136] from 130 to 136 (fun b wx => b = .bool false ∧ Hid (Below wr.heap.size wr wx))
          case first =>
            refine wp_region_later (by kernel_rfl) (by kernel_rfl) ?_
            repeat (first
              | refine wpQuiet_load_arr rfl (.tmp 7) rfl HQ.out rfl ?_
              | go_big_quiet_step (first | (go_at_call 15; exact calls_later (HM.out _)) | (go_at_call 20; exact calls_later (HMR.out _)))
              | quiet_step (first | (go_at_call 15; exact calls_later (HM.out _)) | (go_at_call 20; exact calls_later (HMR.out _))))
            refine wpQuiet_nil ?_
            intro _ hw'
            obtain ⟨u, hw''⟩ := hw'
            subst hw''
            go_wp2_with fail
            go_meet
            case rel => exact ⟨rfl, u.below⟩
          case rest =>
          obtain ⟨rfl, kk⟩ := hcut
          have HY2 : Hid (AB wc A7 (clsV ss)) := HY.out.later kk.out
          have HYB2 : Hid (Below w1.heap.size w1 wc) := below_trans HYB.out kk.out HYB.out.size
          clear HQ HM HMR eq hne kk HY HYB
          go_wp2
          go_roundw
          case rel => exact ⟨z + 1, by first | rfl | (rw [hzw]), by omega, by omega, HY2, HYB2⟩
          case measure => simp [intOf]; omega
        · have hzN' : ¬ z ≤ (N : Int) := hzN
          have HY0 : Hid (AB wr A7 (mix (clsV ss) raw (min 0 256))) := by rw [Nat.zero_min, mix_zero]; exact HY
          go_wp2_with fail
          go_loopw [139] (fun i u => ∃ k : Nat, k ≤ rn ∧ i = .int .i64 (k : Nat) ∧ Hid (AB u A7 (mix (clsV ss) raw (min k 256))) ∧ Hid (Below w1.heap.size w1 u)) (fun i _ => rn - (intOf i).toNat)
          case atStart => exact ⟨0, Nat.zero_le _, rfl, HY0, HYB⟩
          case round =>
            clear HY0 HY HYB
            obtain ⟨k, hk, rfl, HY, HYB⟩ := hrel
            by_cases hlt : k < rn
            · have hlt' : (k : Int) < (rn : Int) := by omega
              by_cases h256 : k < 256
              · have h256' : (k : Int) < 256 := by omega
                obtain ⟨x, hx⟩ : ∃ x, raw[k]? = some x := ⟨_, List.getElem?_eq_getElem (by rw [← HRN.out]; exact hlt)⟩
                obtain ⟨rb, roff, rfl, cx, _⟩ := HRW.out.cell HYB.out hx
                obtain ⟨ca, fa⟩ := HY.out.cell h256
                have HY2 : Hid (AB (wr.setCell ⟨A7, k, none⟩ (.int .i64 x)) A7 (mix (clsV ss) raw (min (k + 1) 256))) := by
                  have h := HY.out.set k x
                  rw [show min k 256 = k by omega, mix_succ hx] at h
                  rw [show min (k + 1) 256 = k + 1 by omega]
                  exact h
                have HYB2 : Hid (Below w1.heap.size w1 (wr.setCell ⟨A7, k, none⟩ (.int .i64 x))) := HYB.out.setCell HA7.out _
                clear hx HY HYB
                go_wp2
                go_roundw
                case rel => exact ⟨k + 1, by omega, by go_num, HY2, HYB2⟩
                case measure => simp [intOf]; omega
              · have h256' : ¬ (k : Int) < 256 := by omega
                have HY2 : Hid (AB wr A7 (mix (clsV ss) raw (min (k + 1) 256))) := by
                  rw [show min (k + 1) 256 = min k 256 by omega]
                  exact HY
                go_wp2
                go_roundw
                case rel => exact ⟨k + 1, by omega, by go_num, HY2, HYB⟩
                case measure => simp [intOf]; omega
            · have hlt' : ¬ (k : Int) < (rn : Int) := by omega
              obtain ⟨fx, hfx⟩ : ∃ fx, fx = mix (clsV ss) raw (min k 256) := ⟨_, rfl⟩
              rw [← hfx] at HY
              clear hfx
              have HQ : Hid (∀ u : Later wr, AB u.at_ A7 fx) := fun u => HY.out.later u.below
              obtain ⟨mm, hmm⟩ : ∃ mm, mm = Pt.memb fx c := ⟨_, rfl⟩
              have HM : Hid (∀ v, Calls Try.prog 15 #[.agg (cv fx), .int .i64 c] v fun e w' => e = .returned (.agg #[.int .u64 (Oct.word mm 0 : Nat), .int .u64 (Oct.word mm 1 : Nat), .int .u64 (Oct.word mm 2 : Nat), .int .u64 (Oct.word mm 3 : Nat)]) ∧ Below v.heap.size v w') := fun v => by rw [hmm]; exact members_any fx c v
              have HMR : Hid (∀ v, Calls Try.prog 20 #[.agg (cv fx), .int .i64 c] v fun e w' => e = .returned (.agg #[.int .u64 (Oct.word mm 0 : Nat), .int .u64 (Oct.word mm 1 : Nat), .int .u64 (Oct.word mm 2 : Nat), .int .u64 (Oct.word mm 3 : Nat)]) ∧ Below v.heap.size v w') := fun v => by rw [hmm]; exact rmembers_any fx c v
              clear hmm
              have eq := eq4_same
              have hne : Nonempty (Later wr) := ⟨⟨wr, Below.refl _ _⟩⟩
              go_upto_region 32 with fail
              go_cut [6] from 151 to 157 (fun b wx => b = .bool true ∧ Hid (Below wr.heap.size wr wx))
              case first =>
                refine wp_region_later (by kernel_rfl) (by kernel_rfl) ?_
                repeat (first
                  | refine wpQuiet_load_arr rfl (.tmp 7) rfl HQ.out rfl ?_
                  | go_big_quiet_step (first | (go_at_call 15; exact calls_later (HM.out _)) | (go_at_call 20; exact calls_later (HMR.out _)))
                  | quiet_step (first | (go_at_call 15; exact calls_later (HM.out _)) | (go_at_call 20; exact calls_later (HMR.out _))))
                refine wpQuiet_nil ?_
                intro _ hw'
                obtain ⟨u, hw''⟩ := hw'
                subst hw''
                go_wp2_with fail
                go_meet
                case rel => exact ⟨rfl, u.below⟩
              case rest =>
              obtain ⟨rfl, kk⟩ := hcut
              have HYB2 : Hid (Below w1.heap.size w1 wc) := below_trans HYB.out kk.out HYB.out.size
              clear HQ HM HMR eq hne kk HY HYB
              go_wp2
              go_ret
              exact ⟨rfl, HYB2.out⟩
end Go.Proofs.Ytemmicnhnaafmaa
