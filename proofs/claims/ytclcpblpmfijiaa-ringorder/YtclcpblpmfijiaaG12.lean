/- heronlaw18.RingOrder answers true. -/
import Derived.Test.YtclcpblpmfijiaaG11
namespace Go.Proofs.Ytclcpblpmfijiaa
open Go.RowKit Go.Maps Rg
attribute [local go_sem ↓] Go.wp_at_zero Go.wp_at_succ

theorem tmod64 (y : Int) : -64 < y.tmod 64 ∧ y.tmod 64 < 64 := by
  have h1 : y.tmod 64 < 64 := Int.tmod_lt_of_pos y (by omega)
  have h2 := Int.tmod_lt_of_pos (-y) (b := 64) (by omega)
  rw [Int.neg_tmod] at h2
  omega
def bls (l : List Bool) : List Value := l.map Value.bool
set_option maxRecDepth 8000 in
set_option maxHeartbeats 8000000 in
theorem order_any {w : World} {y : Int} {a0 a1 : Option Addr} {c0 c1 : Nat} {T : List Th} {S : List Bool} (hT : ThAt w a0 T) (hS : LAt w (.slice a1 S.length c1) (bls S)) :
    Calls Try.prog 3 #[.int .i64 y, .slice a0 T.length c0, .slice a1 S.length c1] w fun e w' => e = .returned (.bool true) ∧ Below w.heap.size w w' := by
  obtain ⟨r, hr⟩ : ∃ r, y.tmod 64 = r := ⟨_, rfl⟩
  have ht := tmod64 y
  rw [hr] at ht
  obtain ⟨n, hn64, hn⟩ : ∃ n : Nat, n < 64 ∧ (r < 0 ∧ r = -(n : Int) ∨ ¬ r < 0 ∧ r = (n : Int)) := by
    by_cases h : r < 0
    · exact ⟨(-r).toNat, by omega, .inl ⟨h, by omega⟩⟩
    · exact ⟨r.toNat, by omega, .inr ⟨h, by omega⟩⟩
  obtain ⟨N, hN⟩ : ∃ N, n + 1 = N := ⟨_, rfl⟩
  have HN : Hid (Calls Try.prog 6 #[.int .i64 ((n : Int) + 1)] w fun e w' => ∃ B R, e = .returned (.tuple #[.pointer (some ⟨B, 0, none⟩), .int .i64 0]) ∧ OS w B R N [] [] (.slice none 0 0) w') := tnew_os (by omega) (by omega)
  have HNN : Hid (n + 1 = N) := hN
  have HT : Hid (ThAt w a0 T) := hT
  have HS : Hid (LAt w (.slice a1 S.length c1) (bls S)) := hS
  obtain ⟨nT, hnT⟩ : ∃ x, T.length = x := ⟨_, rfl⟩
  obtain ⟨nS, hnS⟩ : ∃ x, S.length = x := ⟨_, rfl⟩
  have HTL : Hid (T.length = nT) := hnT
  have HSL : Hid (S.length = nS) := hnS
  rw [hnS] at HS ⊢
  rw [hnT]
  clear hT hS hN hnT hnS
  go_enter Try.func3, Try.ntmps3
  rcases hn with ⟨hr0, hrk⟩ | ⟨hr0, hrk⟩
  · have hnk : -r = (n : Int) := by rw [hrk, Int.neg_neg]
    clear hrk
    as_aux_lemma =>
    go_wp2_with fail
    refine HN.out.mono ?_
    rintro e w1 ⟨B, R, rfl, o1⟩
    have HF1 : Hid (Calls Try.prog 7 #[.pointer (some ⟨B, 0, none⟩)] w1 _) := o1.len (m := 0) rfl
    clear o1 HN
    go_wp2_with fail
    refine HF1.out.mono ?_
    rintro e w2 ⟨rfl, o1⟩
    have HF2 : Hid (Calls Try.prog 8 #[.pointer (some ⟨B, 0, none⟩)] w2 _) := o1.full (b := false) (decide_eq_false (by have := HNN.out; simp; omega))
    clear o1 HF1
    go_wp2_with fail
    refine HF2.out.mono ?_
    rintro e w3 ⟨rfl, o1⟩
    have HF1 : Hid (Calls Try.prog 9 #[.pointer (some ⟨B, 0, none⟩), .agg #[.string ⟨#[]⟩, .int .i64 0]] w3 _) := o1.push (by have := HNN.out; simp; omega) ⟨#[]⟩ 0
    clear o1 HF2
    go_wp2_with fail
    refine HF1.out.mono ?_
    rintro e w4 ⟨rfl, o1, _⟩
    have HF2 : Hid (Calls Try.prog 7 #[.pointer (some ⟨B, 0, none⟩)] w4 _) := o1.len (m := 1) rfl
    clear o1 HF1
    go_wp2_with fail
    refine HF2.out.mono ?_
    rintro e w5 ⟨rfl, o1⟩
    have HF1 : Hid (Calls Try.prog 10 #[.pointer (some ⟨B, 0, none⟩)] w5 _) := o1.pop (s := ⟨#[]⟩) (z := 0) (t := []) rfl
    clear o1 HF2
    go_wp2_with fail
    refine HF1.out.mono ?_
    rintro e w6 ⟨rfl, o1, _⟩
    clear HF1
    obtain ⟨w7a, hwa7⟩ : ∃ x, w6.alloc (.cells #[.string ⟨#[]⟩, .int .i64 0] 29) = x := ⟨_, rfl⟩
    obtain ⟨A7, hA7⟩ : ∃ x, w6.heap.size = x := ⟨_, rfl⟩
    obtain ⟨w7, hw7⟩ : ∃ x, (w7a.setCell ⟨A7, 0, none⟩ (.string ⟨#[]⟩)).setCell ⟨A7, 1, none⟩ (.int .i64 0) = x := ⟨_, rfl⟩
    obtain ⟨ba7, bb7, kb7⟩ := box_new hwa7 hA7 hw7
    have HWa7 : Hid (w6.alloc (.cells #[.string ⟨#[]⟩, .int .i64 0] 29) = w7a) := hwa7
    have HA7 : Hid (w6.heap.size = A7) := hA7
    have HW7 : Hid ((w7a.setCell ⟨A7, 0, none⟩ (.string ⟨#[]⟩)).setCell ⟨A7, 1, none⟩ (.int .i64 0) = w7) := hw7
    have qa7 := ba7.frozen 0
    have qb7 := ba7.frozen 1
    obtain ⟨fa7, fb7⟩ := ba7.cells
    have H0 : Hid (OS w B R N [] [] (.slice none 0 0) w7) := o1.later kb7
    obtain ⟨g0, g1⟩ := bb7.cells
    clear o1 hwa7 hA7 hw7 ba7 bb7 kb7
    go_wp2_with (first | rw [HWa7.out, HA7.out] | rw [HW7.out])
    skip
    go_loopw [12, 75] (fun v12 v u => ∃ (k : Nat) (l : List Th) (a : Option Addr) (c : Nat), v = .int .i64 (k : Nat) ∧ v12 = .slice a l.length c ∧ k ≤ nT ∧ k ≤ 500 ∧ l.length ≤ N ∧ Hid (OS w B R N l l (.slice a l.length c) u)) (fun _ v _ => nT - (Go.RowKit.intOf v).toNat)
    case atStart => exact ⟨0, [], none, 0, rfl, rfl, Nat.zero_le _, Nat.zero_le _, Nat.zero_le _, H0⟩
    case round =>
    obtain ⟨k, l, a, c, rfl, rfl, hk, hk5, hlN, HO⟩ := hrel
    clear H0 g0 g1 fa7 fb7 qa7 qb7
    obtain ⟨ml, hml⟩ : ∃ x, l.length = x := ⟨_, rfl⟩
    have HML : Hid (l.length = ml) := hml
    rw [hml] at HO hlN ⊢
    clear hml
    by_cases hlt : k < nT
    · have l1 : (k : Int) < (nT : Int) := by omega
      obtain ⟨b, off, rfl, x0, x1⟩ := (HT.out.later HO.out.below).nth (i := k) (by rw [HTL.out]; exact hlt)
      obtain ⟨s, hs⟩ : ∃ x, (T[k]'(by rw [HTL.out]; exact hlt)).s = x := ⟨_, rfl⟩
      obtain ⟨z, hz⟩ : ∃ x, (T[k]'(by rw [HTL.out]; exact hlt)).n = x := ⟨_, rfl⟩
      rw [hs] at x0
      rw [hz] at x1
      clear hs hz
      obtain ⟨w1a, hwa1⟩ : ∃ x, wr.alloc (.cells #[.string ⟨#[]⟩, .int .i64 0] 29) = x := ⟨_, rfl⟩
      obtain ⟨A1, hA1⟩ : ∃ x, wr.heap.size = x := ⟨_, rfl⟩
      obtain ⟨w1', hw1⟩ : ∃ x, (w1a.setCell ⟨A1, 0, none⟩ (.string s)).setCell ⟨A1, 1, none⟩ (.int .i64 z) = x := ⟨_, rfl⟩
      obtain ⟨ba1, bb1, kb1⟩ := box_new hwa1 hA1 hw1
      have HWa1 : Hid (wr.alloc (.cells #[.string ⟨#[]⟩, .int .i64 0] 29) = w1a) := hwa1
      have HA1 : Hid (wr.heap.size = A1) := hA1
      have HW1 : Hid ((w1a.setCell ⟨A1, 0, none⟩ (.string s)).setCell ⟨A1, 1, none⟩ (.int .i64 z) = w1') := hw1
      have qa1 := ba1.frozen 0
      have qb1 := ba1.frozen 1
      obtain ⟨fa1, fb1⟩ := ba1.cells
      have ho1 := HO.out.later kb1
      have hR1 : A1 ≠ R := by have := HO.out.lt; omega
      have HB1 : Hid (ThB w1' A1 ⟨s, z⟩ ∧ A1 ≠ R ∧ OS w B R N l l (.slice a ml c) w1') := (⟨bb1, hR1, ho1⟩ : _ ∧ _ ∧ _)
      have HX : Hid (A1 = A1) := rfl
      have x0' := x0
      obtain ⟨y0, y1⟩ := bb1.cells
      clear hwa1 hA1 hw1 ba1 bb1 kb1 ho1 hR1 HX x0'
      by_cases h500 : k < 500
      · have l5 : ¬ (500 : Int) ≤ (k : Int) := by omega
        by_cases hfull : ml = N
        · have HP : Hid (Calls Try.prog 9 #[.pointer (some ⟨B, 0, none⟩), .agg #[.string s, .int .i64 z]] w1' _) := HB1.out.2.2.push_full (by rw [HML.out]; exact hfull) s z
          have HLE : Hid (decide ((ml : Int) ≤ (n : Int)) = false) := decide_eq_false (by have := HNN.out; omega)
          have hle : ¬ (ml : Int) ≤ (n : Int) := by have := HNN.out; omega
          have HFU : Hid (ml = N) := hfull
          clear hfull
          go_wp2_with (first | rw [HWa1.out, HA1.out] | rw [HW1.out])
          refine HP.out.mono ?_
          rintro e u3 ⟨rfl, o2, f2⟩
          have HO2 : Hid (OS w B R N l l (.slice a ml c) u3) := o2
          have hsp : ∃ (x : Th) (t : List Th), l = x :: t := by
            match l, HML.out, HFU.out, HNN.out with
            | [], h1, h2, h3 => exfalso; simp only [List.length_nil] at h1; omega
            | x :: t, _, _, _ => exact ⟨x, t, rfl⟩
          obtain ⟨⟨s', z'⟩, t, rfl⟩ := hsp
          clear HP o2 f2 HB1 HLE
          obtain ⟨m, hm⟩ : ∃ x, t.length = x := ⟨_, rfl⟩
          have hmm : ml = m + 1 := by rw [← HML.out, List.length_cons, hm]
          have HM : Hid (t.length = m) := hm
          have HMN : Hid (m + 1 ≤ N) := (by omega : m + 1 ≤ N)
          subst hmm
          clear hm
          obtain ⟨aa, haa⟩ : ∃ x, a = x := ⟨_, rfl⟩
          obtain ⟨cc, hcc⟩ : ∃ x, c = x := ⟨_, rfl⟩
          rw [haa, hcc] at HO2 ⊢
          clear haa hcc
          obtain ⟨M, hMm⟩ : ∃ M, m + 1 = M := ⟨_, rfl⟩
          have HMM : Hid (m + 1 = M) := hMm
          have l10 : ((M : Int) == 0) = false := by simp; omega
          have l11 : (0 : Int) < (M : Int) := by omega
          rw [hMm] at HO2 ⊢
          try rw [hMm] at hle
          clear hMm
          by_cases hkS : k < nS
          · have l9 : ¬ (nS : Int) ≤ (k : Int) := by omega
            obtain ⟨b2, o2, v2, rfl, hv2, cv2⟩ := lat_nth HS.out hkS
            obtain ⟨q, _, rfl⟩ := List.mem_map.1 (List.mem_of_getElem? hv2)
            have cv := cell_later HO2.out.below _ _ _ cv2
            clear hv2 cv2
            cases q with
            | false =>
              go_wp2_with fail
              go_roundw
              case rel => exact ⟨k + 1, ⟨s', z'⟩ :: t, aa, cc, by go_num, by rw [List.length_cons, HM.out, HMM.out], by omega, by omega, by rw [List.length_cons, HM.out]; exact HMN.out, by rw [List.length_cons, HM.out, HMM.out]; exact HO2⟩
              case measure => simp [Go.RowKit.intOf]; omega
            | true =>
              have HFR : Hid (Calls Try.prog 11 #[.pointer (some ⟨B, 0, none⟩)] u3 _) := HO2.out.front rfl
              have HR3 : Hid (R < u3.heap.size) := HO2.out.lt
              go_wp2_with fail
              refine HFR.out.mono ?_
              rintro e u4 ⟨rfl, o4⟩
              clear HFR cv
              have hR4 := o4.lt
              obtain ⟨w4a, hwa4⟩ : ∃ x, u4.alloc (.cells #[.string ⟨#[]⟩, .int .i64 0] 29) = x := ⟨_, rfl⟩
              obtain ⟨A4, hA4⟩ : ∃ x, u4.heap.size = x := ⟨_, rfl⟩
              obtain ⟨w4, hw4⟩ : ∃ x, (w4a.setCell ⟨A4, 0, none⟩ (.string s')).setCell ⟨A4, 1, none⟩ (.int .i64 z') = x := ⟨_, rfl⟩
              obtain ⟨ba4, bb4, kb4⟩ := box_new hwa4 hA4 hw4
              have HWa4 : Hid (u4.alloc (.cells #[.string ⟨#[]⟩, .int .i64 0] 29) = w4a) := hwa4
              have HA4 : Hid (u4.heap.size = A4) := hA4
              have HW4 : Hid ((w4a.setCell ⟨A4, 0, none⟩ (.string s')).setCell ⟨A4, 1, none⟩ (.int .i64 z') = w4) := hw4
              have qa4 := ba4.frozen 0
              have qb4 := ba4.frozen 1
              obtain ⟨fa4, fb4⟩ := ba4.cells
              have o4' := o4.later kb4
              have HB4 : Hid (ThB w4 A4 ⟨s', z'⟩ ∧ A4 ≠ R ∧ OS w B R N (⟨s', z'⟩ :: t) (⟨s', z'⟩ :: t) (.slice aa M cc) w4) := (⟨bb4, by omega, o4'⟩ : _ ∧ _ ∧ _)
              have HPO : Hid (Calls Try.prog 10 #[.pointer (some ⟨B, 0, none⟩)] w4 _) := o4'.pop rfl
              clear o4 o4' hR4 hwa4 hA4 hw4 ba4 bb4 kb4
              go_wp2_with (first | rw [HWa4.out, HA4.out] | rw [HW4.out])
              refine HPO.out.mono ?_
              rintro e u5 ⟨rfl, o5, f5⟩
              have b5 := HB4.out.2.2.apart HB4.out.1 HB4.out.2.1 f5
              clear HPO HB4 f5 qa4 qb4 fa4 fb4
              obtain ⟨w6a, hwa6⟩ : ∃ x, u5.alloc (.cells #[.string ⟨#[]⟩, .int .i64 0] 29) = x := ⟨_, rfl⟩
              obtain ⟨A6, hA6⟩ : ∃ x, u5.heap.size = x := ⟨_, rfl⟩
              obtain ⟨w6, hw6⟩ : ∃ x, (w6a.setCell ⟨A6, 0, none⟩ (.string s')).setCell ⟨A6, 1, none⟩ (.int .i64 z') = x := ⟨_, rfl⟩
              obtain ⟨ba6, bb6, kb6⟩ := box_new hwa6 hA6 hw6
              have HWa6 : Hid (u5.alloc (.cells #[.string ⟨#[]⟩, .int .i64 0] 29) = w6a) := hwa6
              have HA6 : Hid (u5.heap.size = A6) := hA6
              have HW6 : Hid ((w6a.setCell ⟨A6, 0, none⟩ (.string s')).setCell ⟨A6, 1, none⟩ (.int .i64 z') = w6) := hw6
              have qa6 := ba6.frozen 0
              have qb6 := ba6.frozen 1
              obtain ⟨fa6, fb6⟩ := ba6.cells
              have b6 := b5.later kb6
              have o6 := o5.later kb6
              obtain ⟨y40, y41⟩ := b6.cells
              obtain ⟨y60, y61⟩ := bb6.cells
              obtain ⟨qb, qo, haa, y00, y01⟩ := o6.q.nth (i := 0) (by simp)
              subst haa
              simp only [List.getElem_cons_zero, Nat.zero_mul, Nat.add_zero] at y00 y01
              obtain ⟨V', hsl, ⟨a', c', rfl⟩, o7⟩ := o6.cut
              rw [HM.out] at hsl o7
              have HO7 : Hid (OS w B R N t t (.slice a' m c') w6) := o7
              clear o5 o6 o7 b5 b6 hwa6 hA6 hw6 ba6 bb6 kb6
              have hnq := neq_same
              go_upto_region 25 with (first | rw [HWa6.out, HA6.out] | rw [HW6.out])
              clear qa6 qb6 fa6 fb6
              go_region
              go_wp2_with fail
              go_roundw
              case rel => exact ⟨k + 1, t, a', c', by go_num, by rw [HM.out], by omega, by omega, by rw [HM.out]; have := HMN.out; omega, by rw [HM.out]; exact HO7.out.later (tdrew_below w6 1)⟩
              case measure => simp [Go.RowKit.intOf]; omega
          · have l9 : (nS : Int) ≤ (k : Int) := by omega
            go_wp2_with fail
            go_roundw
            case rel => exact ⟨k + 1, ⟨s', z'⟩ :: t, aa, cc, by go_num, by rw [List.length_cons, HM.out, HMM.out], by omega, by omega, by rw [List.length_cons, HM.out]; exact HMN.out, by rw [List.length_cons, HM.out, HMM.out]; exact HO2⟩
            case measure => simp [Go.RowKit.intOf]; omega
        · have HP : Hid (Calls Try.prog 9 #[.pointer (some ⟨B, 0, none⟩), .agg #[.string s, .int .i64 z]] w1' _) := HB1.out.2.2.push (by rw [HML.out]; exact hfull) s z
          have hle : (ml : Int) ≤ (n : Int) := by have := HNN.out; omega
          have HML2 : Hid (ml < N) := (by omega : ml < N)
          clear hfull
          go_wp2_with (first | rw [HWa1.out, HA1.out] | rw [HW1.out])
          refine HP.out.mono ?_
          rintro e u2 ⟨rfl, o2, f2⟩
          have HB2 := HB1.out.2.2.apart HB1.out.1 HB1.out.2.1 f2
          obtain ⟨v0, v1⟩ := HB2.cells
          have HAP : Hid (∀ fz ty, ∃ V' w', (Builtin.append_ #[22, 22] ty #[.slice a ml c, .slice (some ⟨u2.heap.size, 0, none⟩) 1 1]).run Try.prog (u2.alloc (.cells #[.string s, .int .i64 z] 29 fz)) = .ok V' w' ∧ (∃ a c, V' = .slice a (ml + 1) c) ∧ OS w B R N (l ++ [⟨s, z⟩]) (l ++ [⟨s, z⟩]) V' w') := fun fz ty => by
            have h9 := o2.app s z fz (by rw [HML.out]; have := HML2.out; have := HNN.out; omega) ty
            rw [HML.out] at h9
            exact h9
          clear HP o2 f2 HB1 HB2
          go_upto_region 22 with (refine wpList_append_known rfl (.tmp 102) (.tmp 104) rfl (.slice a ml c) (.slice (some ⟨u2.heap.size, 0, none⟩) 1 1) rfl rfl (fun V' w' => (∃ a c, V' = .slice a (ml + 1) c) ∧ OS w B R N (l ++ [⟨s, z⟩]) (l ++ [⟨s, z⟩]) V' w') (HAP.out (0, 0) _) ?_; rintro V' u3 ⟨⟨a', c', rfl⟩, o3⟩; have HO2 : Hid (OS w B R N (l ++ [⟨s, z⟩]) (l ++ [⟨s, z⟩]) (.slice a' (ml + 1) c') u3) := o3; clear o3 HAP v0 v1)
          obtain ⟨L, hL⟩ : ∃ L, l ++ [(⟨s, z⟩ : Th)] = L := ⟨_, rfl⟩
          have hLl : L.length = ml + 1 := by rw [← hL, List.length_append, HML.out]; rfl
          rw [hL] at HO2
          obtain ⟨⟨s', z'⟩, t, rfl⟩ : ∃ (x : Th) (t : List Th), L = x :: t := by
            match L, hLl with
            | x :: t, _ => exact ⟨x, t, rfl⟩
          clear hL HML
          obtain ⟨m, hm⟩ : ∃ x, t.length = x := ⟨_, rfl⟩
          have hmm : ml = m := by rw [List.length_cons, hm] at hLl; omega
          subst hmm
          have HM : Hid (t.length = ml) := hm
          have HMN : Hid (ml + 1 ≤ N) := HML2.out
          obtain ⟨m, hm2⟩ : ∃ x, ml = x := ⟨_, rfl⟩
          obtain ⟨aa, haa⟩ : ∃ x, a' = x := ⟨_, rfl⟩
          obtain ⟨cc, hcc⟩ : ∃ x, c' = x := ⟨_, rfl⟩
          rw [haa, hcc, hm2] at HO2 ⊢
          rw [hm2] at HM HMN
          clear hm hm2 hLl haa hcc HML2
          obtain ⟨M, hMm⟩ : ∃ M, m + 1 = M := ⟨_, rfl⟩
          have HMM : Hid (m + 1 = M) := hMm
          have l10 : ((M : Int) == 0) = false := by simp; omega
          have l11 : (0 : Int) < (M : Int) := by omega
          rw [hMm] at HO2 ⊢
          try rw [hMm] at hle
          clear hMm
          by_cases hkS : k < nS
          · have l9 : ¬ (nS : Int) ≤ (k : Int) := by omega
            obtain ⟨b2, o2, v2, rfl, hv2, cv2⟩ := lat_nth HS.out hkS
            obtain ⟨q, _, rfl⟩ := List.mem_map.1 (List.mem_of_getElem? hv2)
            have cv := cell_later HO2.out.below _ _ _ cv2
            clear hv2 cv2
            cases q with
            | false =>
              go_wp2_with fail
              go_roundw
              case rel => exact ⟨k + 1, ⟨s', z'⟩ :: t, aa, cc, by go_num, by rw [List.length_cons, HM.out, HMM.out], by omega, by omega, by rw [List.length_cons, HM.out]; exact HMN.out, by rw [List.length_cons, HM.out, HMM.out]; exact HO2⟩
              case measure => simp [Go.RowKit.intOf]; omega
            | true =>
              have HFR : Hid (Calls Try.prog 11 #[.pointer (some ⟨B, 0, none⟩)] u3 _) := HO2.out.front rfl
              have HR3 : Hid (R < u3.heap.size) := HO2.out.lt
              go_wp2_with fail
              refine HFR.out.mono ?_
              rintro e u4 ⟨rfl, o4⟩
              clear HFR cv
              have hR4 := o4.lt
              obtain ⟨w4a, hwa4⟩ : ∃ x, u4.alloc (.cells #[.string ⟨#[]⟩, .int .i64 0] 29) = x := ⟨_, rfl⟩
              obtain ⟨A4, hA4⟩ : ∃ x, u4.heap.size = x := ⟨_, rfl⟩
              obtain ⟨w4, hw4⟩ : ∃ x, (w4a.setCell ⟨A4, 0, none⟩ (.string s')).setCell ⟨A4, 1, none⟩ (.int .i64 z') = x := ⟨_, rfl⟩
              obtain ⟨ba4, bb4, kb4⟩ := box_new hwa4 hA4 hw4
              have HWa4 : Hid (u4.alloc (.cells #[.string ⟨#[]⟩, .int .i64 0] 29) = w4a) := hwa4
              have HA4 : Hid (u4.heap.size = A4) := hA4
              have HW4 : Hid ((w4a.setCell ⟨A4, 0, none⟩ (.string s')).setCell ⟨A4, 1, none⟩ (.int .i64 z') = w4) := hw4
              have qa4 := ba4.frozen 0
              have qb4 := ba4.frozen 1
              obtain ⟨fa4, fb4⟩ := ba4.cells
              have o4' := o4.later kb4
              have HB4 : Hid (ThB w4 A4 ⟨s', z'⟩ ∧ A4 ≠ R ∧ OS w B R N (⟨s', z'⟩ :: t) (⟨s', z'⟩ :: t) (.slice aa M cc) w4) := (⟨bb4, by omega, o4'⟩ : _ ∧ _ ∧ _)
              have HPO : Hid (Calls Try.prog 10 #[.pointer (some ⟨B, 0, none⟩)] w4 _) := o4'.pop rfl
              clear o4 o4' hR4 hwa4 hA4 hw4 ba4 bb4 kb4
              go_wp2_with (first | rw [HWa4.out, HA4.out] | rw [HW4.out])
              refine HPO.out.mono ?_
              rintro e u5 ⟨rfl, o5, f5⟩
              have b5 := HB4.out.2.2.apart HB4.out.1 HB4.out.2.1 f5
              clear HPO HB4 f5 qa4 qb4 fa4 fb4
              obtain ⟨w6a, hwa6⟩ : ∃ x, u5.alloc (.cells #[.string ⟨#[]⟩, .int .i64 0] 29) = x := ⟨_, rfl⟩
              obtain ⟨A6, hA6⟩ : ∃ x, u5.heap.size = x := ⟨_, rfl⟩
              obtain ⟨w6, hw6⟩ : ∃ x, (w6a.setCell ⟨A6, 0, none⟩ (.string s')).setCell ⟨A6, 1, none⟩ (.int .i64 z') = x := ⟨_, rfl⟩
              obtain ⟨ba6, bb6, kb6⟩ := box_new hwa6 hA6 hw6
              have HWa6 : Hid (u5.alloc (.cells #[.string ⟨#[]⟩, .int .i64 0] 29) = w6a) := hwa6
              have HA6 : Hid (u5.heap.size = A6) := hA6
              have HW6 : Hid ((w6a.setCell ⟨A6, 0, none⟩ (.string s')).setCell ⟨A6, 1, none⟩ (.int .i64 z') = w6) := hw6
              have qa6 := ba6.frozen 0
              have qb6 := ba6.frozen 1
              obtain ⟨fa6, fb6⟩ := ba6.cells
              have b6 := b5.later kb6
              have o6 := o5.later kb6
              obtain ⟨y40, y41⟩ := b6.cells
              obtain ⟨y60, y61⟩ := bb6.cells
              obtain ⟨qb, qo, haa, y00, y01⟩ := o6.q.nth (i := 0) (by simp)
              subst haa
              simp only [List.getElem_cons_zero, Nat.zero_mul, Nat.add_zero] at y00 y01
              obtain ⟨V', hsl, ⟨a', c', rfl⟩, o7⟩ := o6.cut
              rw [HM.out] at hsl o7
              have HO7 : Hid (OS w B R N t t (.slice a' m c') w6) := o7
              clear o5 o6 o7 b5 b6 hwa6 hA6 hw6 ba6 bb6 kb6
              have hnq := neq_same
              go_upto_region 25 with (first | rw [HWa6.out, HA6.out] | rw [HW6.out])
              clear qa6 qb6 fa6 fb6
              go_region
              go_wp2_with fail
              go_roundw
              case rel => exact ⟨k + 1, t, a', c', by go_num, by rw [HM.out], by omega, by omega, by rw [HM.out]; have := HMN.out; omega, by rw [HM.out]; exact HO7.out.later (tdrew_below w6 1)⟩
              case measure => simp [Go.RowKit.intOf]; omega
          · have l9 : (nS : Int) ≤ (k : Int) := by omega
            go_wp2_with fail
            go_roundw
            case rel => exact ⟨k + 1, ⟨s', z'⟩ :: t, aa, cc, by go_num, by rw [List.length_cons, HM.out, HMM.out], by omega, by omega, by rw [List.length_cons, HM.out]; exact HMN.out, by rw [List.length_cons, HM.out, HMM.out]; exact HO2⟩
            case measure => simp [Go.RowKit.intOf]; omega
      · have l5 : (500 : Int) ≤ (k : Int) := by omega
        have HO1 : Hid (OS w B R N l l (.slice a ml c) w1') := HB1.out.2.2
        clear HB1
        go_wp2_with (first | rw [HWa1.out, HA1.out] | rw [HW1.out])
        have hml64 : ml ≤ 64 := by have := HNN.out; omega
        have HAL : Hid (Calls Try.prog 12 #[.pointer (some ⟨B, 0, none⟩)] w1' _) := HO1.out.all (m := ml) HML.out
        have HRU : Hid (R < (w1').heap.size) := HO1.out.lt
        refine HAL.out.mono ?_
        rintro e u20 ⟨A, rfl, hrow, hA, o20⟩
        have H20 : Hid (OR w B R N l l (.slice a ml c) A ml (fun p => l.getD p thZ) u20) := (⟨o20, hrow, by have := HRU.out; omega⟩ : _ ∧ _ ∧ _)
        clear HAL HRU HO1 hrow hA o20
        go_upto_region 30 with fail
        go_cut [178] from 157 to 178 (fun v wx => v = .bool false ∧ Hid (OR w B R N l l (.slice a ml c) A ml (fun p => l.getD p thZ) wx))
        case first =>
          have HL1 : Hid (Calls Try.prog 7 #[.pointer (some ⟨B, 0, none⟩)] u20 _) := H20.out.len (q := ml) HML.out
          clear H20
          go_wp2_with fail
          refine HL1.out.mono ?_
          rintro e u21 ⟨rfl, o21⟩
          clear HL1
          by_cases hf : ml = N
          · have HF1 : Hid (Calls Try.prog 8 #[.pointer (some ⟨B, 0, none⟩)] u21 _) := o21.full (b := true) (decide_eq_true (by rw [HML.out]; exact hf))
            have l7 : (ml : Int) = (n : Int) + 1 := by have := HNN.out; omega
            clear o21 hf
            go_wp2_with fail
            refine HF1.out.mono ?_
            rintro e u22 ⟨rfl, o22⟩
            have H22 : Hid (OR w B R N l l (.slice a ml c) A ml (fun p => l.getD p thZ) u22) := o22
            clear HF1 o22
            go_wp2_with fail
            go_meet
            case rel => exact ⟨by first | rfl | (rw [l7]; rfl) | simp, H22⟩
          · have HF1 : Hid (Calls Try.prog 8 #[.pointer (some ⟨B, 0, none⟩)] u21 _) := o21.full (b := false) (decide_eq_false (by rw [HML.out]; exact hf))
            have l7 : ¬ (ml : Int) = (n : Int) + 1 := by have := HNN.out; omega
            have l8 : ((ml : Int) == (n : Int) + 1) = false := by simp; omega
            clear o21 hf
            go_wp2_with fail
            refine HF1.out.mono ?_
            rintro e u22 ⟨rfl, o22⟩
            have H22 : Hid (OR w B R N l l (.slice a ml c) A ml (fun p => l.getD p thZ) u22) := o22
            clear HF1 o22
            go_wp2_with fail
            go_meet
            case rel => exact ⟨by first | rfl | (rw [l8]; rfl) | simp [l7], H22⟩
        case rest =>
        obtain ⟨rfl, H23⟩ := hcut
        clear H20
        go_wp2_with fail
        go_loopw [181] (fun v u => ∃ j : Nat, v = .int .i64 (j : Nat) ∧ j ≤ ml ∧ Hid (OR w B R N (l.drop j) l (.slice a ml c) A ml (fun p => l.getD p thZ) u)) (fun v _ => ml - (Go.RowKit.intOf v).toNat)
        case atStart => exact ⟨0, rfl, Nat.zero_le _, H23⟩
        case round =>
        obtain ⟨j, rfl, hj, HJ⟩ := hrel
        clear H23
        by_cases hjl : j < ml
        · have l3 : (j : Int) < (ml : Int) := by omega
          have hjL : j < l.length := by rw [HML.out]; exact hjl
          obtain ⟨s2, hs2⟩ : ∃ x, l[j].s = x := ⟨_, rfl⟩
          obtain ⟨z2, hz2⟩ : ∃ x, l[j].n = x := ⟨_, rfl⟩
          have hth : l[j] = ⟨s2, z2⟩ := by rw [← hs2, ← hz2]
          have HPO : Hid (Calls Try.prog 10 #[.pointer (some ⟨B, 0, none⟩)] wr _) := HJ.out.pop (s := s2) (z := z2) (t := l.drop (j + 1)) (by rw [← hth]; exact List.drop_eq_getElem_cons hjL)
          have HTH : Hid (∃ h : j < l.length, l[j] = ⟨s2, z2⟩) := (⟨hjL, hth⟩ : ∃ h : j < l.length, l[j] = ⟨s2, z2⟩)
          clear HJ hs2 hz2 hth hjL
          go_wp2_with fail
          refine HPO.out.mono ?_
          rintro e u30 ⟨rfl, o30⟩
          clear HPO
          obtain ⟨w31a, hwa31⟩ : ∃ x, u30.alloc (.cells #[.string ⟨#[]⟩, .int .i64 0] 29) = x := ⟨_, rfl⟩
          obtain ⟨A31, hA31⟩ : ∃ x, u30.heap.size = x := ⟨_, rfl⟩
          obtain ⟨w31, hw31⟩ : ∃ x, (w31a.setCell ⟨A31, 0, none⟩ (.string s2)).setCell ⟨A31, 1, none⟩ (.int .i64 z2) = x := ⟨_, rfl⟩
          obtain ⟨ba31, bb31, kb31⟩ := box_new hwa31 hA31 hw31
          have HWa31 : Hid (u30.alloc (.cells #[.string ⟨#[]⟩, .int .i64 0] 29) = w31a) := hwa31
          have HA31 : Hid (u30.heap.size = A31) := hA31
          have HW31 : Hid ((w31a.setCell ⟨A31, 0, none⟩ (.string s2)).setCell ⟨A31, 1, none⟩ (.int .i64 z2) = w31) := hw31
          have qa31 := ba31.frozen 0
          have qb31 := ba31.frozen 1
          obtain ⟨fa31, fb31⟩ := ba31.cells
          have o31 := o30.later kb31
          obtain ⟨y0, y1⟩ := bb31.cells
          obtain ⟨hjL, hth⟩ := HTH.out
          obtain ⟨qb, qo, haa, p0, p1⟩ := o31.1.q.nth (i := j) hjL
          subst haa
          obtain ⟨p2, p3⟩ := o31.2.1.cell hjl
          simp only [show l.getD j thZ = ⟨s2, z2⟩ by rw [List.getD_eq_getElem?_getD, List.getElem?_eq_getElem hjL, hth]; rfl] at p2 p3
          rw [hth] at p0 p1
          simp only at p0 p1
          have HJ2 : Hid (OR w B R N (l.drop (j + 1)) l (.slice (some ⟨qb, qo, none⟩) ml c) A ml (fun p => l.getD p thZ) w31) := o31
          clear o30 o31 hwa31 hA31 hw31 ba31 bb31 kb31 hjL hth HTH
          have hnq := neq_same
          go_upto_region 36 with (first | rw [HWa31.out, HA31.out] | rw [HW31.out])
          clear qa31 qb31 fa31 fb31
          go_region
          go_wp2_with fail
          go_roundw
          case rel => exact ⟨j + 1, by go_num, by omega, HJ2.out.later (tdrew_below w31 1)⟩
          case measure => simp [Go.RowKit.intOf]; omega
        have l3 : ¬ (j : Int) < (ml : Int) := by omega
        obtain rfl : j = ml := by omega
        have ho40 : OS w B R N [] l (.slice a j c) wr := by have := HJ.out.1; rwa [List.drop_of_length_le (by rw [HML.out]; exact Nat.le_refl _)] at this
        have HPO : Hid (Calls Try.prog 10 #[.pointer (some ⟨B, 0, none⟩)] wr _) := ho40.pop0
        clear HJ ho40
        go_wp2_with fail
        refine HPO.out.mono ?_
        rintro e u40 ⟨rfl, o40, _⟩
        clear HPO
        obtain ⟨w41a, hwa41⟩ : ∃ x, u40.alloc (.cells #[.string ⟨#[]⟩, .int .i64 0] 29) = x := ⟨_, rfl⟩
        obtain ⟨A41, hA41⟩ : ∃ x, u40.heap.size = x := ⟨_, rfl⟩
        obtain ⟨w41, hw41⟩ : ∃ x, (w41a.setCell ⟨A41, 0, none⟩ (.string ⟨#[]⟩)).setCell ⟨A41, 1, none⟩ (.int .i64 0) = x := ⟨_, rfl⟩
        obtain ⟨ba41, bb41, kb41⟩ := box_new hwa41 hA41 hw41
        have HWa41 : Hid (u40.alloc (.cells #[.string ⟨#[]⟩, .int .i64 0] 29) = w41a) := hwa41
        have HA41 : Hid (u40.heap.size = A41) := hA41
        have HW41 : Hid ((w41a.setCell ⟨A41, 0, none⟩ (.string ⟨#[]⟩)).setCell ⟨A41, 1, none⟩ (.int .i64 0) = w41) := hw41
        have qa41 := ba41.frozen 0
        have qb41 := ba41.frozen 1
        obtain ⟨fa41, fb41⟩ := ba41.cells
        have o41 := o40.later kb41
        obtain ⟨y0, y1⟩ := bb41.cells
        have HL1 : Hid (Calls Try.prog 7 #[.pointer (some ⟨B, 0, none⟩)] w41 _) := o41.len (m := 0) rfl
        clear o40 o41 hwa41 hA41 hw41 ba41 bb41 kb41
        have heq := eql_same
        go_wp2_with (first | rw [HWa41.out, HA41.out] | rw [HW41.out])
        refine HL1.out.mono ?_
        rintro e u42 ⟨rfl, o42⟩
        clear HL1
        have HF1 : Hid (Calls Try.prog 8 #[.pointer (some ⟨B, 0, none⟩)] u42 _) := o42.full (b := false) (decide_eq_false (by have := HNN.out; simp; omega))
        clear o42
        go_wp2_with fail
        refine HF1.out.mono ?_
        rintro e u43 ⟨rfl, o43⟩
        have HE : Hid (Below w.heap.size w u43) := o43.below
        clear o43 HF1
        go_wp2
        go_ret
        exact ⟨rfl, HE.out⟩
    · have l1 : ¬ (k : Int) < (nT : Int) := by omega
      have HO1 : Hid (OS w B R N l l (.slice a ml c) wr) := HO.out
      clear HO
      go_wp2_with fail
      have hml64 : ml ≤ 64 := by have := HNN.out; omega
      have HAL : Hid (Calls Try.prog 12 #[.pointer (some ⟨B, 0, none⟩)] wr _) := HO1.out.all (m := ml) HML.out
      have HRU : Hid (R < (wr).heap.size) := HO1.out.lt
      refine HAL.out.mono ?_
      rintro e u20 ⟨A, rfl, hrow, hA, o20⟩
      have H20 : Hid (OR w B R N l l (.slice a ml c) A ml (fun p => l.getD p thZ) u20) := (⟨o20, hrow, by have := HRU.out; omega⟩ : _ ∧ _ ∧ _)
      clear HAL HRU HO1 hrow hA o20
      go_upto_region 30 with fail
      go_cut [178] from 157 to 178 (fun v wx => v = .bool false ∧ Hid (OR w B R N l l (.slice a ml c) A ml (fun p => l.getD p thZ) wx))
      case first =>
        have HL1 : Hid (Calls Try.prog 7 #[.pointer (some ⟨B, 0, none⟩)] u20 _) := H20.out.len (q := ml) HML.out
        clear H20
        go_wp2_with fail
        refine HL1.out.mono ?_
        rintro e u21 ⟨rfl, o21⟩
        clear HL1
        by_cases hf : ml = N
        · have HF1 : Hid (Calls Try.prog 8 #[.pointer (some ⟨B, 0, none⟩)] u21 _) := o21.full (b := true) (decide_eq_true (by rw [HML.out]; exact hf))
          have l7 : (ml : Int) = (n : Int) + 1 := by have := HNN.out; omega
          clear o21 hf
          go_wp2_with fail
          refine HF1.out.mono ?_
          rintro e u22 ⟨rfl, o22⟩
          have H22 : Hid (OR w B R N l l (.slice a ml c) A ml (fun p => l.getD p thZ) u22) := o22
          clear HF1 o22
          go_wp2_with fail
          go_meet
          case rel => exact ⟨by first | rfl | (rw [l7]; rfl) | simp, H22⟩
        · have HF1 : Hid (Calls Try.prog 8 #[.pointer (some ⟨B, 0, none⟩)] u21 _) := o21.full (b := false) (decide_eq_false (by rw [HML.out]; exact hf))
          have l7 : ¬ (ml : Int) = (n : Int) + 1 := by have := HNN.out; omega
          have l8 : ((ml : Int) == (n : Int) + 1) = false := by simp; omega
          clear o21 hf
          go_wp2_with fail
          refine HF1.out.mono ?_
          rintro e u22 ⟨rfl, o22⟩
          have H22 : Hid (OR w B R N l l (.slice a ml c) A ml (fun p => l.getD p thZ) u22) := o22
          clear HF1 o22
          go_wp2_with fail
          go_meet
          case rel => exact ⟨by first | rfl | (rw [l8]; rfl) | simp [l7], H22⟩
      case rest =>
      obtain ⟨rfl, H23⟩ := hcut
      clear H20
      go_wp2_with fail
      go_loopw [181] (fun v u => ∃ j : Nat, v = .int .i64 (j : Nat) ∧ j ≤ ml ∧ Hid (OR w B R N (l.drop j) l (.slice a ml c) A ml (fun p => l.getD p thZ) u)) (fun v _ => ml - (Go.RowKit.intOf v).toNat)
      case atStart => exact ⟨0, rfl, Nat.zero_le _, H23⟩
      case round =>
      obtain ⟨j, rfl, hj, HJ⟩ := hrel
      clear H23
      by_cases hjl : j < ml
      · have l3 : (j : Int) < (ml : Int) := by omega
        have hjL : j < l.length := by rw [HML.out]; exact hjl
        obtain ⟨s2, hs2⟩ : ∃ x, l[j].s = x := ⟨_, rfl⟩
        obtain ⟨z2, hz2⟩ : ∃ x, l[j].n = x := ⟨_, rfl⟩
        have hth : l[j] = ⟨s2, z2⟩ := by rw [← hs2, ← hz2]
        have HPO : Hid (Calls Try.prog 10 #[.pointer (some ⟨B, 0, none⟩)] wr _) := HJ.out.pop (s := s2) (z := z2) (t := l.drop (j + 1)) (by rw [← hth]; exact List.drop_eq_getElem_cons hjL)
        have HTH : Hid (∃ h : j < l.length, l[j] = ⟨s2, z2⟩) := (⟨hjL, hth⟩ : ∃ h : j < l.length, l[j] = ⟨s2, z2⟩)
        clear HJ hs2 hz2 hth hjL
        go_wp2_with fail
        refine HPO.out.mono ?_
        rintro e u30 ⟨rfl, o30⟩
        clear HPO
        obtain ⟨w31a, hwa31⟩ : ∃ x, u30.alloc (.cells #[.string ⟨#[]⟩, .int .i64 0] 29) = x := ⟨_, rfl⟩
        obtain ⟨A31, hA31⟩ : ∃ x, u30.heap.size = x := ⟨_, rfl⟩
        obtain ⟨w31, hw31⟩ : ∃ x, (w31a.setCell ⟨A31, 0, none⟩ (.string s2)).setCell ⟨A31, 1, none⟩ (.int .i64 z2) = x := ⟨_, rfl⟩
        obtain ⟨ba31, bb31, kb31⟩ := box_new hwa31 hA31 hw31
        have HWa31 : Hid (u30.alloc (.cells #[.string ⟨#[]⟩, .int .i64 0] 29) = w31a) := hwa31
        have HA31 : Hid (u30.heap.size = A31) := hA31
        have HW31 : Hid ((w31a.setCell ⟨A31, 0, none⟩ (.string s2)).setCell ⟨A31, 1, none⟩ (.int .i64 z2) = w31) := hw31
        have qa31 := ba31.frozen 0
        have qb31 := ba31.frozen 1
        obtain ⟨fa31, fb31⟩ := ba31.cells
        have o31 := o30.later kb31
        obtain ⟨y0, y1⟩ := bb31.cells
        obtain ⟨hjL, hth⟩ := HTH.out
        obtain ⟨qb, qo, haa, p0, p1⟩ := o31.1.q.nth (i := j) hjL
        subst haa
        obtain ⟨p2, p3⟩ := o31.2.1.cell hjl
        simp only [show l.getD j thZ = ⟨s2, z2⟩ by rw [List.getD_eq_getElem?_getD, List.getElem?_eq_getElem hjL, hth]; rfl] at p2 p3
        rw [hth] at p0 p1
        simp only at p0 p1
        have HJ2 : Hid (OR w B R N (l.drop (j + 1)) l (.slice (some ⟨qb, qo, none⟩) ml c) A ml (fun p => l.getD p thZ) w31) := o31
        clear o30 o31 hwa31 hA31 hw31 ba31 bb31 kb31 hjL hth HTH
        have hnq := neq_same
        go_upto_region 36 with (first | rw [HWa31.out, HA31.out] | rw [HW31.out])
        clear qa31 qb31 fa31 fb31
        go_region
        go_wp2_with fail
        go_roundw
        case rel => exact ⟨j + 1, by go_num, by omega, HJ2.out.later (tdrew_below w31 1)⟩
        case measure => simp [Go.RowKit.intOf]; omega
      have l3 : ¬ (j : Int) < (ml : Int) := by omega
      obtain rfl : j = ml := by omega
      have ho40 : OS w B R N [] l (.slice a j c) wr := by have := HJ.out.1; rwa [List.drop_of_length_le (by rw [HML.out]; exact Nat.le_refl _)] at this
      have HPO : Hid (Calls Try.prog 10 #[.pointer (some ⟨B, 0, none⟩)] wr _) := ho40.pop0
      clear HJ ho40
      go_wp2_with fail
      refine HPO.out.mono ?_
      rintro e u40 ⟨rfl, o40, _⟩
      clear HPO
      obtain ⟨w41a, hwa41⟩ : ∃ x, u40.alloc (.cells #[.string ⟨#[]⟩, .int .i64 0] 29) = x := ⟨_, rfl⟩
      obtain ⟨A41, hA41⟩ : ∃ x, u40.heap.size = x := ⟨_, rfl⟩
      obtain ⟨w41, hw41⟩ : ∃ x, (w41a.setCell ⟨A41, 0, none⟩ (.string ⟨#[]⟩)).setCell ⟨A41, 1, none⟩ (.int .i64 0) = x := ⟨_, rfl⟩
      obtain ⟨ba41, bb41, kb41⟩ := box_new hwa41 hA41 hw41
      have HWa41 : Hid (u40.alloc (.cells #[.string ⟨#[]⟩, .int .i64 0] 29) = w41a) := hwa41
      have HA41 : Hid (u40.heap.size = A41) := hA41
      have HW41 : Hid ((w41a.setCell ⟨A41, 0, none⟩ (.string ⟨#[]⟩)).setCell ⟨A41, 1, none⟩ (.int .i64 0) = w41) := hw41
      have qa41 := ba41.frozen 0
      have qb41 := ba41.frozen 1
      obtain ⟨fa41, fb41⟩ := ba41.cells
      have o41 := o40.later kb41
      obtain ⟨y0, y1⟩ := bb41.cells
      have HL1 : Hid (Calls Try.prog 7 #[.pointer (some ⟨B, 0, none⟩)] w41 _) := o41.len (m := 0) rfl
      clear o40 o41 hwa41 hA41 hw41 ba41 bb41 kb41
      have heq := eql_same
      go_wp2_with (first | rw [HWa41.out, HA41.out] | rw [HW41.out])
      refine HL1.out.mono ?_
      rintro e u42 ⟨rfl, o42⟩
      clear HL1
      have HF1 : Hid (Calls Try.prog 8 #[.pointer (some ⟨B, 0, none⟩)] u42 _) := o42.full (b := false) (decide_eq_false (by have := HNN.out; simp; omega))
      clear o42
      go_wp2_with fail
      refine HF1.out.mono ?_
      rintro e u43 ⟨rfl, o43⟩
      have HE : Hid (Below w.heap.size w u43) := o43.below
      clear o43 HF1
      go_wp2
      go_ret
      exact ⟨rfl, HE.out⟩
  · subst hrk
    as_aux_lemma =>
    go_wp2_with fail
    refine HN.out.mono ?_
    rintro e w1 ⟨B, R, rfl, o1⟩
    have HF1 : Hid (Calls Try.prog 7 #[.pointer (some ⟨B, 0, none⟩)] w1 _) := o1.len (m := 0) rfl
    clear o1 HN
    go_wp2_with fail
    refine HF1.out.mono ?_
    rintro e w2 ⟨rfl, o1⟩
    have HF2 : Hid (Calls Try.prog 8 #[.pointer (some ⟨B, 0, none⟩)] w2 _) := o1.full (b := false) (decide_eq_false (by have := HNN.out; simp; omega))
    clear o1 HF1
    go_wp2_with fail
    refine HF2.out.mono ?_
    rintro e w3 ⟨rfl, o1⟩
    have HF1 : Hid (Calls Try.prog 9 #[.pointer (some ⟨B, 0, none⟩), .agg #[.string ⟨#[]⟩, .int .i64 0]] w3 _) := o1.push (by have := HNN.out; simp; omega) ⟨#[]⟩ 0
    clear o1 HF2
    go_wp2_with fail
    refine HF1.out.mono ?_
    rintro e w4 ⟨rfl, o1, _⟩
    have HF2 : Hid (Calls Try.prog 7 #[.pointer (some ⟨B, 0, none⟩)] w4 _) := o1.len (m := 1) rfl
    clear o1 HF1
    go_wp2_with fail
    refine HF2.out.mono ?_
    rintro e w5 ⟨rfl, o1⟩
    have HF1 : Hid (Calls Try.prog 10 #[.pointer (some ⟨B, 0, none⟩)] w5 _) := o1.pop (s := ⟨#[]⟩) (z := 0) (t := []) rfl
    clear o1 HF2
    go_wp2_with fail
    refine HF1.out.mono ?_
    rintro e w6 ⟨rfl, o1, _⟩
    clear HF1
    obtain ⟨w7a, hwa7⟩ : ∃ x, w6.alloc (.cells #[.string ⟨#[]⟩, .int .i64 0] 29) = x := ⟨_, rfl⟩
    obtain ⟨A7, hA7⟩ : ∃ x, w6.heap.size = x := ⟨_, rfl⟩
    obtain ⟨w7, hw7⟩ : ∃ x, (w7a.setCell ⟨A7, 0, none⟩ (.string ⟨#[]⟩)).setCell ⟨A7, 1, none⟩ (.int .i64 0) = x := ⟨_, rfl⟩
    obtain ⟨ba7, bb7, kb7⟩ := box_new hwa7 hA7 hw7
    have HWa7 : Hid (w6.alloc (.cells #[.string ⟨#[]⟩, .int .i64 0] 29) = w7a) := hwa7
    have HA7 : Hid (w6.heap.size = A7) := hA7
    have HW7 : Hid ((w7a.setCell ⟨A7, 0, none⟩ (.string ⟨#[]⟩)).setCell ⟨A7, 1, none⟩ (.int .i64 0) = w7) := hw7
    have qa7 := ba7.frozen 0
    have qb7 := ba7.frozen 1
    obtain ⟨fa7, fb7⟩ := ba7.cells
    have H0 : Hid (OS w B R N [] [] (.slice none 0 0) w7) := o1.later kb7
    obtain ⟨g0, g1⟩ := bb7.cells
    clear o1 hwa7 hA7 hw7 ba7 bb7 kb7
    go_wp2_with (first | rw [HWa7.out, HA7.out] | rw [HW7.out])
    skip
    go_loopw [12, 75] (fun v12 v u => ∃ (k : Nat) (l : List Th) (a : Option Addr) (c : Nat), v = .int .i64 (k : Nat) ∧ v12 = .slice a l.length c ∧ k ≤ nT ∧ k ≤ 500 ∧ l.length ≤ N ∧ Hid (OS w B R N l l (.slice a l.length c) u)) (fun _ v _ => nT - (Go.RowKit.intOf v).toNat)
    case atStart => exact ⟨0, [], none, 0, rfl, rfl, Nat.zero_le _, Nat.zero_le _, Nat.zero_le _, H0⟩
    case round =>
    obtain ⟨k, l, a, c, rfl, rfl, hk, hk5, hlN, HO⟩ := hrel
    clear H0 g0 g1 fa7 fb7 qa7 qb7
    obtain ⟨ml, hml⟩ : ∃ x, l.length = x := ⟨_, rfl⟩
    have HML : Hid (l.length = ml) := hml
    rw [hml] at HO hlN ⊢
    clear hml
    by_cases hlt : k < nT
    · have l1 : (k : Int) < (nT : Int) := by omega
      obtain ⟨b, off, rfl, x0, x1⟩ := (HT.out.later HO.out.below).nth (i := k) (by rw [HTL.out]; exact hlt)
      obtain ⟨s, hs⟩ : ∃ x, (T[k]'(by rw [HTL.out]; exact hlt)).s = x := ⟨_, rfl⟩
      obtain ⟨z, hz⟩ : ∃ x, (T[k]'(by rw [HTL.out]; exact hlt)).n = x := ⟨_, rfl⟩
      rw [hs] at x0
      rw [hz] at x1
      clear hs hz
      obtain ⟨w1a, hwa1⟩ : ∃ x, wr.alloc (.cells #[.string ⟨#[]⟩, .int .i64 0] 29) = x := ⟨_, rfl⟩
      obtain ⟨A1, hA1⟩ : ∃ x, wr.heap.size = x := ⟨_, rfl⟩
      obtain ⟨w1', hw1⟩ : ∃ x, (w1a.setCell ⟨A1, 0, none⟩ (.string s)).setCell ⟨A1, 1, none⟩ (.int .i64 z) = x := ⟨_, rfl⟩
      obtain ⟨ba1, bb1, kb1⟩ := box_new hwa1 hA1 hw1
      have HWa1 : Hid (wr.alloc (.cells #[.string ⟨#[]⟩, .int .i64 0] 29) = w1a) := hwa1
      have HA1 : Hid (wr.heap.size = A1) := hA1
      have HW1 : Hid ((w1a.setCell ⟨A1, 0, none⟩ (.string s)).setCell ⟨A1, 1, none⟩ (.int .i64 z) = w1') := hw1
      have qa1 := ba1.frozen 0
      have qb1 := ba1.frozen 1
      obtain ⟨fa1, fb1⟩ := ba1.cells
      have ho1 := HO.out.later kb1
      have hR1 : A1 ≠ R := by have := HO.out.lt; omega
      have HB1 : Hid (ThB w1' A1 ⟨s, z⟩ ∧ A1 ≠ R ∧ OS w B R N l l (.slice a ml c) w1') := (⟨bb1, hR1, ho1⟩ : _ ∧ _ ∧ _)
      have HX : Hid (A1 = A1) := rfl
      have x0' := x0
      obtain ⟨y0, y1⟩ := bb1.cells
      clear hwa1 hA1 hw1 ba1 bb1 kb1 ho1 hR1 HX x0'
      by_cases h500 : k < 500
      · have l5 : ¬ (500 : Int) ≤ (k : Int) := by omega
        by_cases hfull : ml = N
        · have HP : Hid (Calls Try.prog 9 #[.pointer (some ⟨B, 0, none⟩), .agg #[.string s, .int .i64 z]] w1' _) := HB1.out.2.2.push_full (by rw [HML.out]; exact hfull) s z
          have HLE : Hid (decide ((ml : Int) ≤ (n : Int)) = false) := decide_eq_false (by have := HNN.out; omega)
          have hle : ¬ (ml : Int) ≤ (n : Int) := by have := HNN.out; omega
          have HFU : Hid (ml = N) := hfull
          clear hfull
          go_wp2_with (first | rw [HWa1.out, HA1.out] | rw [HW1.out])
          refine HP.out.mono ?_
          rintro e u3 ⟨rfl, o2, f2⟩
          have HO2 : Hid (OS w B R N l l (.slice a ml c) u3) := o2
          have hsp : ∃ (x : Th) (t : List Th), l = x :: t := by
            match l, HML.out, HFU.out, HNN.out with
            | [], h1, h2, h3 => exfalso; simp only [List.length_nil] at h1; omega
            | x :: t, _, _, _ => exact ⟨x, t, rfl⟩
          obtain ⟨⟨s', z'⟩, t, rfl⟩ := hsp
          clear HP o2 f2 HB1 HLE
          obtain ⟨m, hm⟩ : ∃ x, t.length = x := ⟨_, rfl⟩
          have hmm : ml = m + 1 := by rw [← HML.out, List.length_cons, hm]
          have HM : Hid (t.length = m) := hm
          have HMN : Hid (m + 1 ≤ N) := (by omega : m + 1 ≤ N)
          subst hmm
          clear hm
          obtain ⟨aa, haa⟩ : ∃ x, a = x := ⟨_, rfl⟩
          obtain ⟨cc, hcc⟩ : ∃ x, c = x := ⟨_, rfl⟩
          rw [haa, hcc] at HO2 ⊢
          clear haa hcc
          obtain ⟨M, hMm⟩ : ∃ M, m + 1 = M := ⟨_, rfl⟩
          have HMM : Hid (m + 1 = M) := hMm
          have l10 : ((M : Int) == 0) = false := by simp; omega
          have l11 : (0 : Int) < (M : Int) := by omega
          rw [hMm] at HO2 ⊢
          try rw [hMm] at hle
          clear hMm
          by_cases hkS : k < nS
          · have l9 : ¬ (nS : Int) ≤ (k : Int) := by omega
            obtain ⟨b2, o2, v2, rfl, hv2, cv2⟩ := lat_nth HS.out hkS
            obtain ⟨q, _, rfl⟩ := List.mem_map.1 (List.mem_of_getElem? hv2)
            have cv := cell_later HO2.out.below _ _ _ cv2
            clear hv2 cv2
            cases q with
            | false =>
              go_wp2_with fail
              go_roundw
              case rel => exact ⟨k + 1, ⟨s', z'⟩ :: t, aa, cc, by go_num, by rw [List.length_cons, HM.out, HMM.out], by omega, by omega, by rw [List.length_cons, HM.out]; exact HMN.out, by rw [List.length_cons, HM.out, HMM.out]; exact HO2⟩
              case measure => simp [Go.RowKit.intOf]; omega
            | true =>
              have HFR : Hid (Calls Try.prog 11 #[.pointer (some ⟨B, 0, none⟩)] u3 _) := HO2.out.front rfl
              have HR3 : Hid (R < u3.heap.size) := HO2.out.lt
              go_wp2_with fail
              refine HFR.out.mono ?_
              rintro e u4 ⟨rfl, o4⟩
              clear HFR cv
              have hR4 := o4.lt
              obtain ⟨w4a, hwa4⟩ : ∃ x, u4.alloc (.cells #[.string ⟨#[]⟩, .int .i64 0] 29) = x := ⟨_, rfl⟩
              obtain ⟨A4, hA4⟩ : ∃ x, u4.heap.size = x := ⟨_, rfl⟩
              obtain ⟨w4, hw4⟩ : ∃ x, (w4a.setCell ⟨A4, 0, none⟩ (.string s')).setCell ⟨A4, 1, none⟩ (.int .i64 z') = x := ⟨_, rfl⟩
              obtain ⟨ba4, bb4, kb4⟩ := box_new hwa4 hA4 hw4
              have HWa4 : Hid (u4.alloc (.cells #[.string ⟨#[]⟩, .int .i64 0] 29) = w4a) := hwa4
              have HA4 : Hid (u4.heap.size = A4) := hA4
              have HW4 : Hid ((w4a.setCell ⟨A4, 0, none⟩ (.string s')).setCell ⟨A4, 1, none⟩ (.int .i64 z') = w4) := hw4
              have qa4 := ba4.frozen 0
              have qb4 := ba4.frozen 1
              obtain ⟨fa4, fb4⟩ := ba4.cells
              have o4' := o4.later kb4
              have HB4 : Hid (ThB w4 A4 ⟨s', z'⟩ ∧ A4 ≠ R ∧ OS w B R N (⟨s', z'⟩ :: t) (⟨s', z'⟩ :: t) (.slice aa M cc) w4) := (⟨bb4, by omega, o4'⟩ : _ ∧ _ ∧ _)
              have HPO : Hid (Calls Try.prog 10 #[.pointer (some ⟨B, 0, none⟩)] w4 _) := o4'.pop rfl
              clear o4 o4' hR4 hwa4 hA4 hw4 ba4 bb4 kb4
              go_wp2_with (first | rw [HWa4.out, HA4.out] | rw [HW4.out])
              refine HPO.out.mono ?_
              rintro e u5 ⟨rfl, o5, f5⟩
              have b5 := HB4.out.2.2.apart HB4.out.1 HB4.out.2.1 f5
              clear HPO HB4 f5 qa4 qb4 fa4 fb4
              obtain ⟨w6a, hwa6⟩ : ∃ x, u5.alloc (.cells #[.string ⟨#[]⟩, .int .i64 0] 29) = x := ⟨_, rfl⟩
              obtain ⟨A6, hA6⟩ : ∃ x, u5.heap.size = x := ⟨_, rfl⟩
              obtain ⟨w6, hw6⟩ : ∃ x, (w6a.setCell ⟨A6, 0, none⟩ (.string s')).setCell ⟨A6, 1, none⟩ (.int .i64 z') = x := ⟨_, rfl⟩
              obtain ⟨ba6, bb6, kb6⟩ := box_new hwa6 hA6 hw6
              have HWa6 : Hid (u5.alloc (.cells #[.string ⟨#[]⟩, .int .i64 0] 29) = w6a) := hwa6
              have HA6 : Hid (u5.heap.size = A6) := hA6
              have HW6 : Hid ((w6a.setCell ⟨A6, 0, none⟩ (.string s')).setCell ⟨A6, 1, none⟩ (.int .i64 z') = w6) := hw6
              have qa6 := ba6.frozen 0
              have qb6 := ba6.frozen 1
              obtain ⟨fa6, fb6⟩ := ba6.cells
              have b6 := b5.later kb6
              have o6 := o5.later kb6
              obtain ⟨y40, y41⟩ := b6.cells
              obtain ⟨y60, y61⟩ := bb6.cells
              obtain ⟨qb, qo, haa, y00, y01⟩ := o6.q.nth (i := 0) (by simp)
              subst haa
              simp only [List.getElem_cons_zero, Nat.zero_mul, Nat.add_zero] at y00 y01
              obtain ⟨V', hsl, ⟨a', c', rfl⟩, o7⟩ := o6.cut
              rw [HM.out] at hsl o7
              have HO7 : Hid (OS w B R N t t (.slice a' m c') w6) := o7
              clear o5 o6 o7 b5 b6 hwa6 hA6 hw6 ba6 bb6 kb6
              have hnq := neq_same
              go_upto_region 25 with (first | rw [HWa6.out, HA6.out] | rw [HW6.out])
              clear qa6 qb6 fa6 fb6
              go_region
              go_wp2_with fail
              go_roundw
              case rel => exact ⟨k + 1, t, a', c', by go_num, by rw [HM.out], by omega, by omega, by rw [HM.out]; have := HMN.out; omega, by rw [HM.out]; exact HO7.out.later (tdrew_below w6 1)⟩
              case measure => simp [Go.RowKit.intOf]; omega
          · have l9 : (nS : Int) ≤ (k : Int) := by omega
            go_wp2_with fail
            go_roundw
            case rel => exact ⟨k + 1, ⟨s', z'⟩ :: t, aa, cc, by go_num, by rw [List.length_cons, HM.out, HMM.out], by omega, by omega, by rw [List.length_cons, HM.out]; exact HMN.out, by rw [List.length_cons, HM.out, HMM.out]; exact HO2⟩
            case measure => simp [Go.RowKit.intOf]; omega
        · have HP : Hid (Calls Try.prog 9 #[.pointer (some ⟨B, 0, none⟩), .agg #[.string s, .int .i64 z]] w1' _) := HB1.out.2.2.push (by rw [HML.out]; exact hfull) s z
          have hle : (ml : Int) ≤ (n : Int) := by have := HNN.out; omega
          have HML2 : Hid (ml < N) := (by omega : ml < N)
          clear hfull
          go_wp2_with (first | rw [HWa1.out, HA1.out] | rw [HW1.out])
          refine HP.out.mono ?_
          rintro e u2 ⟨rfl, o2, f2⟩
          have HB2 := HB1.out.2.2.apart HB1.out.1 HB1.out.2.1 f2
          obtain ⟨v0, v1⟩ := HB2.cells
          have HAP : Hid (∀ fz ty, ∃ V' w', (Builtin.append_ #[22, 22] ty #[.slice a ml c, .slice (some ⟨u2.heap.size, 0, none⟩) 1 1]).run Try.prog (u2.alloc (.cells #[.string s, .int .i64 z] 29 fz)) = .ok V' w' ∧ (∃ a c, V' = .slice a (ml + 1) c) ∧ OS w B R N (l ++ [⟨s, z⟩]) (l ++ [⟨s, z⟩]) V' w') := fun fz ty => by
            have h9 := o2.app s z fz (by rw [HML.out]; have := HML2.out; have := HNN.out; omega) ty
            rw [HML.out] at h9
            exact h9
          clear HP o2 f2 HB1 HB2
          go_upto_region 22 with (refine wpList_append_known rfl (.tmp 102) (.tmp 104) rfl (.slice a ml c) (.slice (some ⟨u2.heap.size, 0, none⟩) 1 1) rfl rfl (fun V' w' => (∃ a c, V' = .slice a (ml + 1) c) ∧ OS w B R N (l ++ [⟨s, z⟩]) (l ++ [⟨s, z⟩]) V' w') (HAP.out (0, 0) _) ?_; rintro V' u3 ⟨⟨a', c', rfl⟩, o3⟩; have HO2 : Hid (OS w B R N (l ++ [⟨s, z⟩]) (l ++ [⟨s, z⟩]) (.slice a' (ml + 1) c') u3) := o3; clear o3 HAP v0 v1)
          obtain ⟨L, hL⟩ : ∃ L, l ++ [(⟨s, z⟩ : Th)] = L := ⟨_, rfl⟩
          have hLl : L.length = ml + 1 := by rw [← hL, List.length_append, HML.out]; rfl
          rw [hL] at HO2
          obtain ⟨⟨s', z'⟩, t, rfl⟩ : ∃ (x : Th) (t : List Th), L = x :: t := by
            match L, hLl with
            | x :: t, _ => exact ⟨x, t, rfl⟩
          clear hL HML
          obtain ⟨m, hm⟩ : ∃ x, t.length = x := ⟨_, rfl⟩
          have hmm : ml = m := by rw [List.length_cons, hm] at hLl; omega
          subst hmm
          have HM : Hid (t.length = ml) := hm
          have HMN : Hid (ml + 1 ≤ N) := HML2.out
          obtain ⟨m, hm2⟩ : ∃ x, ml = x := ⟨_, rfl⟩
          obtain ⟨aa, haa⟩ : ∃ x, a' = x := ⟨_, rfl⟩
          obtain ⟨cc, hcc⟩ : ∃ x, c' = x := ⟨_, rfl⟩
          rw [haa, hcc, hm2] at HO2 ⊢
          rw [hm2] at HM HMN
          clear hm hm2 hLl haa hcc HML2
          obtain ⟨M, hMm⟩ : ∃ M, m + 1 = M := ⟨_, rfl⟩
          have HMM : Hid (m + 1 = M) := hMm
          have l10 : ((M : Int) == 0) = false := by simp; omega
          have l11 : (0 : Int) < (M : Int) := by omega
          rw [hMm] at HO2 ⊢
          try rw [hMm] at hle
          clear hMm
          by_cases hkS : k < nS
          · have l9 : ¬ (nS : Int) ≤ (k : Int) := by omega
            obtain ⟨b2, o2, v2, rfl, hv2, cv2⟩ := lat_nth HS.out hkS
            obtain ⟨q, _, rfl⟩ := List.mem_map.1 (List.mem_of_getElem? hv2)
            have cv := cell_later HO2.out.below _ _ _ cv2
            clear hv2 cv2
            cases q with
            | false =>
              go_wp2_with fail
              go_roundw
              case rel => exact ⟨k + 1, ⟨s', z'⟩ :: t, aa, cc, by go_num, by rw [List.length_cons, HM.out, HMM.out], by omega, by omega, by rw [List.length_cons, HM.out]; exact HMN.out, by rw [List.length_cons, HM.out, HMM.out]; exact HO2⟩
              case measure => simp [Go.RowKit.intOf]; omega
            | true =>
              have HFR : Hid (Calls Try.prog 11 #[.pointer (some ⟨B, 0, none⟩)] u3 _) := HO2.out.front rfl
              have HR3 : Hid (R < u3.heap.size) := HO2.out.lt
              go_wp2_with fail
              refine HFR.out.mono ?_
              rintro e u4 ⟨rfl, o4⟩
              clear HFR cv
              have hR4 := o4.lt
              obtain ⟨w4a, hwa4⟩ : ∃ x, u4.alloc (.cells #[.string ⟨#[]⟩, .int .i64 0] 29) = x := ⟨_, rfl⟩
              obtain ⟨A4, hA4⟩ : ∃ x, u4.heap.size = x := ⟨_, rfl⟩
              obtain ⟨w4, hw4⟩ : ∃ x, (w4a.setCell ⟨A4, 0, none⟩ (.string s')).setCell ⟨A4, 1, none⟩ (.int .i64 z') = x := ⟨_, rfl⟩
              obtain ⟨ba4, bb4, kb4⟩ := box_new hwa4 hA4 hw4
              have HWa4 : Hid (u4.alloc (.cells #[.string ⟨#[]⟩, .int .i64 0] 29) = w4a) := hwa4
              have HA4 : Hid (u4.heap.size = A4) := hA4
              have HW4 : Hid ((w4a.setCell ⟨A4, 0, none⟩ (.string s')).setCell ⟨A4, 1, none⟩ (.int .i64 z') = w4) := hw4
              have qa4 := ba4.frozen 0
              have qb4 := ba4.frozen 1
              obtain ⟨fa4, fb4⟩ := ba4.cells
              have o4' := o4.later kb4
              have HB4 : Hid (ThB w4 A4 ⟨s', z'⟩ ∧ A4 ≠ R ∧ OS w B R N (⟨s', z'⟩ :: t) (⟨s', z'⟩ :: t) (.slice aa M cc) w4) := (⟨bb4, by omega, o4'⟩ : _ ∧ _ ∧ _)
              have HPO : Hid (Calls Try.prog 10 #[.pointer (some ⟨B, 0, none⟩)] w4 _) := o4'.pop rfl
              clear o4 o4' hR4 hwa4 hA4 hw4 ba4 bb4 kb4
              go_wp2_with (first | rw [HWa4.out, HA4.out] | rw [HW4.out])
              refine HPO.out.mono ?_
              rintro e u5 ⟨rfl, o5, f5⟩
              have b5 := HB4.out.2.2.apart HB4.out.1 HB4.out.2.1 f5
              clear HPO HB4 f5 qa4 qb4 fa4 fb4
              obtain ⟨w6a, hwa6⟩ : ∃ x, u5.alloc (.cells #[.string ⟨#[]⟩, .int .i64 0] 29) = x := ⟨_, rfl⟩
              obtain ⟨A6, hA6⟩ : ∃ x, u5.heap.size = x := ⟨_, rfl⟩
              obtain ⟨w6, hw6⟩ : ∃ x, (w6a.setCell ⟨A6, 0, none⟩ (.string s')).setCell ⟨A6, 1, none⟩ (.int .i64 z') = x := ⟨_, rfl⟩
              obtain ⟨ba6, bb6, kb6⟩ := box_new hwa6 hA6 hw6
              have HWa6 : Hid (u5.alloc (.cells #[.string ⟨#[]⟩, .int .i64 0] 29) = w6a) := hwa6
              have HA6 : Hid (u5.heap.size = A6) := hA6
              have HW6 : Hid ((w6a.setCell ⟨A6, 0, none⟩ (.string s')).setCell ⟨A6, 1, none⟩ (.int .i64 z') = w6) := hw6
              have qa6 := ba6.frozen 0
              have qb6 := ba6.frozen 1
              obtain ⟨fa6, fb6⟩ := ba6.cells
              have b6 := b5.later kb6
              have o6 := o5.later kb6
              obtain ⟨y40, y41⟩ := b6.cells
              obtain ⟨y60, y61⟩ := bb6.cells
              obtain ⟨qb, qo, haa, y00, y01⟩ := o6.q.nth (i := 0) (by simp)
              subst haa
              simp only [List.getElem_cons_zero, Nat.zero_mul, Nat.add_zero] at y00 y01
              obtain ⟨V', hsl, ⟨a', c', rfl⟩, o7⟩ := o6.cut
              rw [HM.out] at hsl o7
              have HO7 : Hid (OS w B R N t t (.slice a' m c') w6) := o7
              clear o5 o6 o7 b5 b6 hwa6 hA6 hw6 ba6 bb6 kb6
              have hnq := neq_same
              go_upto_region 25 with (first | rw [HWa6.out, HA6.out] | rw [HW6.out])
              clear qa6 qb6 fa6 fb6
              go_region
              go_wp2_with fail
              go_roundw
              case rel => exact ⟨k + 1, t, a', c', by go_num, by rw [HM.out], by omega, by omega, by rw [HM.out]; have := HMN.out; omega, by rw [HM.out]; exact HO7.out.later (tdrew_below w6 1)⟩
              case measure => simp [Go.RowKit.intOf]; omega
          · have l9 : (nS : Int) ≤ (k : Int) := by omega
            go_wp2_with fail
            go_roundw
            case rel => exact ⟨k + 1, ⟨s', z'⟩ :: t, aa, cc, by go_num, by rw [List.length_cons, HM.out, HMM.out], by omega, by omega, by rw [List.length_cons, HM.out]; exact HMN.out, by rw [List.length_cons, HM.out, HMM.out]; exact HO2⟩
            case measure => simp [Go.RowKit.intOf]; omega
      · have l5 : (500 : Int) ≤ (k : Int) := by omega
        have HO1 : Hid (OS w B R N l l (.slice a ml c) w1') := HB1.out.2.2
        clear HB1
        go_wp2_with (first | rw [HWa1.out, HA1.out] | rw [HW1.out])
        have hml64 : ml ≤ 64 := by have := HNN.out; omega
        have HAL : Hid (Calls Try.prog 12 #[.pointer (some ⟨B, 0, none⟩)] w1' _) := HO1.out.all (m := ml) HML.out
        have HRU : Hid (R < (w1').heap.size) := HO1.out.lt
        refine HAL.out.mono ?_
        rintro e u20 ⟨A, rfl, hrow, hA, o20⟩
        have H20 : Hid (OR w B R N l l (.slice a ml c) A ml (fun p => l.getD p thZ) u20) := (⟨o20, hrow, by have := HRU.out; omega⟩ : _ ∧ _ ∧ _)
        clear HAL HRU HO1 hrow hA o20
        go_upto_region 30 with fail
        go_cut [178] from 157 to 178 (fun v wx => v = .bool false ∧ Hid (OR w B R N l l (.slice a ml c) A ml (fun p => l.getD p thZ) wx))
        case first =>
          have HL1 : Hid (Calls Try.prog 7 #[.pointer (some ⟨B, 0, none⟩)] u20 _) := H20.out.len (q := ml) HML.out
          clear H20
          go_wp2_with fail
          refine HL1.out.mono ?_
          rintro e u21 ⟨rfl, o21⟩
          clear HL1
          by_cases hf : ml = N
          · have HF1 : Hid (Calls Try.prog 8 #[.pointer (some ⟨B, 0, none⟩)] u21 _) := o21.full (b := true) (decide_eq_true (by rw [HML.out]; exact hf))
            have l7 : (ml : Int) = (n : Int) + 1 := by have := HNN.out; omega
            clear o21 hf
            go_wp2_with fail
            refine HF1.out.mono ?_
            rintro e u22 ⟨rfl, o22⟩
            have H22 : Hid (OR w B R N l l (.slice a ml c) A ml (fun p => l.getD p thZ) u22) := o22
            clear HF1 o22
            go_wp2_with fail
            go_meet
            case rel => exact ⟨by first | rfl | (rw [l7]; rfl) | simp, H22⟩
          · have HF1 : Hid (Calls Try.prog 8 #[.pointer (some ⟨B, 0, none⟩)] u21 _) := o21.full (b := false) (decide_eq_false (by rw [HML.out]; exact hf))
            have l7 : ¬ (ml : Int) = (n : Int) + 1 := by have := HNN.out; omega
            have l8 : ((ml : Int) == (n : Int) + 1) = false := by simp; omega
            clear o21 hf
            go_wp2_with fail
            refine HF1.out.mono ?_
            rintro e u22 ⟨rfl, o22⟩
            have H22 : Hid (OR w B R N l l (.slice a ml c) A ml (fun p => l.getD p thZ) u22) := o22
            clear HF1 o22
            go_wp2_with fail
            go_meet
            case rel => exact ⟨by first | rfl | (rw [l8]; rfl) | simp [l7], H22⟩
        case rest =>
        obtain ⟨rfl, H23⟩ := hcut
        clear H20
        go_wp2_with fail
        go_loopw [181] (fun v u => ∃ j : Nat, v = .int .i64 (j : Nat) ∧ j ≤ ml ∧ Hid (OR w B R N (l.drop j) l (.slice a ml c) A ml (fun p => l.getD p thZ) u)) (fun v _ => ml - (Go.RowKit.intOf v).toNat)
        case atStart => exact ⟨0, rfl, Nat.zero_le _, H23⟩
        case round =>
        obtain ⟨j, rfl, hj, HJ⟩ := hrel
        clear H23
        by_cases hjl : j < ml
        · have l3 : (j : Int) < (ml : Int) := by omega
          have hjL : j < l.length := by rw [HML.out]; exact hjl
          obtain ⟨s2, hs2⟩ : ∃ x, l[j].s = x := ⟨_, rfl⟩
          obtain ⟨z2, hz2⟩ : ∃ x, l[j].n = x := ⟨_, rfl⟩
          have hth : l[j] = ⟨s2, z2⟩ := by rw [← hs2, ← hz2]
          have HPO : Hid (Calls Try.prog 10 #[.pointer (some ⟨B, 0, none⟩)] wr _) := HJ.out.pop (s := s2) (z := z2) (t := l.drop (j + 1)) (by rw [← hth]; exact List.drop_eq_getElem_cons hjL)
          have HTH : Hid (∃ h : j < l.length, l[j] = ⟨s2, z2⟩) := (⟨hjL, hth⟩ : ∃ h : j < l.length, l[j] = ⟨s2, z2⟩)
          clear HJ hs2 hz2 hth hjL
          go_wp2_with fail
          refine HPO.out.mono ?_
          rintro e u30 ⟨rfl, o30⟩
          clear HPO
          obtain ⟨w31a, hwa31⟩ : ∃ x, u30.alloc (.cells #[.string ⟨#[]⟩, .int .i64 0] 29) = x := ⟨_, rfl⟩
          obtain ⟨A31, hA31⟩ : ∃ x, u30.heap.size = x := ⟨_, rfl⟩
          obtain ⟨w31, hw31⟩ : ∃ x, (w31a.setCell ⟨A31, 0, none⟩ (.string s2)).setCell ⟨A31, 1, none⟩ (.int .i64 z2) = x := ⟨_, rfl⟩
          obtain ⟨ba31, bb31, kb31⟩ := box_new hwa31 hA31 hw31
          have HWa31 : Hid (u30.alloc (.cells #[.string ⟨#[]⟩, .int .i64 0] 29) = w31a) := hwa31
          have HA31 : Hid (u30.heap.size = A31) := hA31
          have HW31 : Hid ((w31a.setCell ⟨A31, 0, none⟩ (.string s2)).setCell ⟨A31, 1, none⟩ (.int .i64 z2) = w31) := hw31
          have qa31 := ba31.frozen 0
          have qb31 := ba31.frozen 1
          obtain ⟨fa31, fb31⟩ := ba31.cells
          have o31 := o30.later kb31
          obtain ⟨y0, y1⟩ := bb31.cells
          obtain ⟨hjL, hth⟩ := HTH.out
          obtain ⟨qb, qo, haa, p0, p1⟩ := o31.1.q.nth (i := j) hjL
          subst haa
          obtain ⟨p2, p3⟩ := o31.2.1.cell hjl
          simp only [show l.getD j thZ = ⟨s2, z2⟩ by rw [List.getD_eq_getElem?_getD, List.getElem?_eq_getElem hjL, hth]; rfl] at p2 p3
          rw [hth] at p0 p1
          simp only at p0 p1
          have HJ2 : Hid (OR w B R N (l.drop (j + 1)) l (.slice (some ⟨qb, qo, none⟩) ml c) A ml (fun p => l.getD p thZ) w31) := o31
          clear o30 o31 hwa31 hA31 hw31 ba31 bb31 kb31 hjL hth HTH
          have hnq := neq_same
          go_upto_region 36 with (first | rw [HWa31.out, HA31.out] | rw [HW31.out])
          clear qa31 qb31 fa31 fb31
          go_region
          go_wp2_with fail
          go_roundw
          case rel => exact ⟨j + 1, by go_num, by omega, HJ2.out.later (tdrew_below w31 1)⟩
          case measure => simp [Go.RowKit.intOf]; omega
        have l3 : ¬ (j : Int) < (ml : Int) := by omega
        obtain rfl : j = ml := by omega
        have ho40 : OS w B R N [] l (.slice a j c) wr := by have := HJ.out.1; rwa [List.drop_of_length_le (by rw [HML.out]; exact Nat.le_refl _)] at this
        have HPO : Hid (Calls Try.prog 10 #[.pointer (some ⟨B, 0, none⟩)] wr _) := ho40.pop0
        clear HJ ho40
        go_wp2_with fail
        refine HPO.out.mono ?_
        rintro e u40 ⟨rfl, o40, _⟩
        clear HPO
        obtain ⟨w41a, hwa41⟩ : ∃ x, u40.alloc (.cells #[.string ⟨#[]⟩, .int .i64 0] 29) = x := ⟨_, rfl⟩
        obtain ⟨A41, hA41⟩ : ∃ x, u40.heap.size = x := ⟨_, rfl⟩
        obtain ⟨w41, hw41⟩ : ∃ x, (w41a.setCell ⟨A41, 0, none⟩ (.string ⟨#[]⟩)).setCell ⟨A41, 1, none⟩ (.int .i64 0) = x := ⟨_, rfl⟩
        obtain ⟨ba41, bb41, kb41⟩ := box_new hwa41 hA41 hw41
        have HWa41 : Hid (u40.alloc (.cells #[.string ⟨#[]⟩, .int .i64 0] 29) = w41a) := hwa41
        have HA41 : Hid (u40.heap.size = A41) := hA41
        have HW41 : Hid ((w41a.setCell ⟨A41, 0, none⟩ (.string ⟨#[]⟩)).setCell ⟨A41, 1, none⟩ (.int .i64 0) = w41) := hw41
        have qa41 := ba41.frozen 0
        have qb41 := ba41.frozen 1
        obtain ⟨fa41, fb41⟩ := ba41.cells
        have o41 := o40.later kb41
        obtain ⟨y0, y1⟩ := bb41.cells
        have HL1 : Hid (Calls Try.prog 7 #[.pointer (some ⟨B, 0, none⟩)] w41 _) := o41.len (m := 0) rfl
        clear o40 o41 hwa41 hA41 hw41 ba41 bb41 kb41
        have heq := eql_same
        go_wp2_with (first | rw [HWa41.out, HA41.out] | rw [HW41.out])
        refine HL1.out.mono ?_
        rintro e u42 ⟨rfl, o42⟩
        clear HL1
        have HF1 : Hid (Calls Try.prog 8 #[.pointer (some ⟨B, 0, none⟩)] u42 _) := o42.full (b := false) (decide_eq_false (by have := HNN.out; simp; omega))
        clear o42
        go_wp2_with fail
        refine HF1.out.mono ?_
        rintro e u43 ⟨rfl, o43⟩
        have HE : Hid (Below w.heap.size w u43) := o43.below
        clear o43 HF1
        go_wp2
        go_ret
        exact ⟨rfl, HE.out⟩
    · have l1 : ¬ (k : Int) < (nT : Int) := by omega
      have HO1 : Hid (OS w B R N l l (.slice a ml c) wr) := HO.out
      clear HO
      go_wp2_with fail
      have hml64 : ml ≤ 64 := by have := HNN.out; omega
      have HAL : Hid (Calls Try.prog 12 #[.pointer (some ⟨B, 0, none⟩)] wr _) := HO1.out.all (m := ml) HML.out
      have HRU : Hid (R < (wr).heap.size) := HO1.out.lt
      refine HAL.out.mono ?_
      rintro e u20 ⟨A, rfl, hrow, hA, o20⟩
      have H20 : Hid (OR w B R N l l (.slice a ml c) A ml (fun p => l.getD p thZ) u20) := (⟨o20, hrow, by have := HRU.out; omega⟩ : _ ∧ _ ∧ _)
      clear HAL HRU HO1 hrow hA o20
      go_upto_region 30 with fail
      go_cut [178] from 157 to 178 (fun v wx => v = .bool false ∧ Hid (OR w B R N l l (.slice a ml c) A ml (fun p => l.getD p thZ) wx))
      case first =>
        have HL1 : Hid (Calls Try.prog 7 #[.pointer (some ⟨B, 0, none⟩)] u20 _) := H20.out.len (q := ml) HML.out
        clear H20
        go_wp2_with fail
        refine HL1.out.mono ?_
        rintro e u21 ⟨rfl, o21⟩
        clear HL1
        by_cases hf : ml = N
        · have HF1 : Hid (Calls Try.prog 8 #[.pointer (some ⟨B, 0, none⟩)] u21 _) := o21.full (b := true) (decide_eq_true (by rw [HML.out]; exact hf))
          have l7 : (ml : Int) = (n : Int) + 1 := by have := HNN.out; omega
          clear o21 hf
          go_wp2_with fail
          refine HF1.out.mono ?_
          rintro e u22 ⟨rfl, o22⟩
          have H22 : Hid (OR w B R N l l (.slice a ml c) A ml (fun p => l.getD p thZ) u22) := o22
          clear HF1 o22
          go_wp2_with fail
          go_meet
          case rel => exact ⟨by first | rfl | (rw [l7]; rfl) | simp, H22⟩
        · have HF1 : Hid (Calls Try.prog 8 #[.pointer (some ⟨B, 0, none⟩)] u21 _) := o21.full (b := false) (decide_eq_false (by rw [HML.out]; exact hf))
          have l7 : ¬ (ml : Int) = (n : Int) + 1 := by have := HNN.out; omega
          have l8 : ((ml : Int) == (n : Int) + 1) = false := by simp; omega
          clear o21 hf
          go_wp2_with fail
          refine HF1.out.mono ?_
          rintro e u22 ⟨rfl, o22⟩
          have H22 : Hid (OR w B R N l l (.slice a ml c) A ml (fun p => l.getD p thZ) u22) := o22
          clear HF1 o22
          go_wp2_with fail
          go_meet
          case rel => exact ⟨by first | rfl | (rw [l8]; rfl) | simp [l7], H22⟩
      case rest =>
      obtain ⟨rfl, H23⟩ := hcut
      clear H20
      go_wp2_with fail
      go_loopw [181] (fun v u => ∃ j : Nat, v = .int .i64 (j : Nat) ∧ j ≤ ml ∧ Hid (OR w B R N (l.drop j) l (.slice a ml c) A ml (fun p => l.getD p thZ) u)) (fun v _ => ml - (Go.RowKit.intOf v).toNat)
      case atStart => exact ⟨0, rfl, Nat.zero_le _, H23⟩
      case round =>
      obtain ⟨j, rfl, hj, HJ⟩ := hrel
      clear H23
      by_cases hjl : j < ml
      · have l3 : (j : Int) < (ml : Int) := by omega
        have hjL : j < l.length := by rw [HML.out]; exact hjl
        obtain ⟨s2, hs2⟩ : ∃ x, l[j].s = x := ⟨_, rfl⟩
        obtain ⟨z2, hz2⟩ : ∃ x, l[j].n = x := ⟨_, rfl⟩
        have hth : l[j] = ⟨s2, z2⟩ := by rw [← hs2, ← hz2]
        have HPO : Hid (Calls Try.prog 10 #[.pointer (some ⟨B, 0, none⟩)] wr _) := HJ.out.pop (s := s2) (z := z2) (t := l.drop (j + 1)) (by rw [← hth]; exact List.drop_eq_getElem_cons hjL)
        have HTH : Hid (∃ h : j < l.length, l[j] = ⟨s2, z2⟩) := (⟨hjL, hth⟩ : ∃ h : j < l.length, l[j] = ⟨s2, z2⟩)
        clear HJ hs2 hz2 hth hjL
        go_wp2_with fail
        refine HPO.out.mono ?_
        rintro e u30 ⟨rfl, o30⟩
        clear HPO
        obtain ⟨w31a, hwa31⟩ : ∃ x, u30.alloc (.cells #[.string ⟨#[]⟩, .int .i64 0] 29) = x := ⟨_, rfl⟩
        obtain ⟨A31, hA31⟩ : ∃ x, u30.heap.size = x := ⟨_, rfl⟩
        obtain ⟨w31, hw31⟩ : ∃ x, (w31a.setCell ⟨A31, 0, none⟩ (.string s2)).setCell ⟨A31, 1, none⟩ (.int .i64 z2) = x := ⟨_, rfl⟩
        obtain ⟨ba31, bb31, kb31⟩ := box_new hwa31 hA31 hw31
        have HWa31 : Hid (u30.alloc (.cells #[.string ⟨#[]⟩, .int .i64 0] 29) = w31a) := hwa31
        have HA31 : Hid (u30.heap.size = A31) := hA31
        have HW31 : Hid ((w31a.setCell ⟨A31, 0, none⟩ (.string s2)).setCell ⟨A31, 1, none⟩ (.int .i64 z2) = w31) := hw31
        have qa31 := ba31.frozen 0
        have qb31 := ba31.frozen 1
        obtain ⟨fa31, fb31⟩ := ba31.cells
        have o31 := o30.later kb31
        obtain ⟨y0, y1⟩ := bb31.cells
        obtain ⟨hjL, hth⟩ := HTH.out
        obtain ⟨qb, qo, haa, p0, p1⟩ := o31.1.q.nth (i := j) hjL
        subst haa
        obtain ⟨p2, p3⟩ := o31.2.1.cell hjl
        simp only [show l.getD j thZ = ⟨s2, z2⟩ by rw [List.getD_eq_getElem?_getD, List.getElem?_eq_getElem hjL, hth]; rfl] at p2 p3
        rw [hth] at p0 p1
        simp only at p0 p1
        have HJ2 : Hid (OR w B R N (l.drop (j + 1)) l (.slice (some ⟨qb, qo, none⟩) ml c) A ml (fun p => l.getD p thZ) w31) := o31
        clear o30 o31 hwa31 hA31 hw31 ba31 bb31 kb31 hjL hth HTH
        have hnq := neq_same
        go_upto_region 36 with (first | rw [HWa31.out, HA31.out] | rw [HW31.out])
        clear qa31 qb31 fa31 fb31
        go_region
        go_wp2_with fail
        go_roundw
        case rel => exact ⟨j + 1, by go_num, by omega, HJ2.out.later (tdrew_below w31 1)⟩
        case measure => simp [Go.RowKit.intOf]; omega
      have l3 : ¬ (j : Int) < (ml : Int) := by omega
      obtain rfl : j = ml := by omega
      have ho40 : OS w B R N [] l (.slice a j c) wr := by have := HJ.out.1; rwa [List.drop_of_length_le (by rw [HML.out]; exact Nat.le_refl _)] at this
      have HPO : Hid (Calls Try.prog 10 #[.pointer (some ⟨B, 0, none⟩)] wr _) := ho40.pop0
      clear HJ ho40
      go_wp2_with fail
      refine HPO.out.mono ?_
      rintro e u40 ⟨rfl, o40, _⟩
      clear HPO
      obtain ⟨w41a, hwa41⟩ : ∃ x, u40.alloc (.cells #[.string ⟨#[]⟩, .int .i64 0] 29) = x := ⟨_, rfl⟩
      obtain ⟨A41, hA41⟩ : ∃ x, u40.heap.size = x := ⟨_, rfl⟩
      obtain ⟨w41, hw41⟩ : ∃ x, (w41a.setCell ⟨A41, 0, none⟩ (.string ⟨#[]⟩)).setCell ⟨A41, 1, none⟩ (.int .i64 0) = x := ⟨_, rfl⟩
      obtain ⟨ba41, bb41, kb41⟩ := box_new hwa41 hA41 hw41
      have HWa41 : Hid (u40.alloc (.cells #[.string ⟨#[]⟩, .int .i64 0] 29) = w41a) := hwa41
      have HA41 : Hid (u40.heap.size = A41) := hA41
      have HW41 : Hid ((w41a.setCell ⟨A41, 0, none⟩ (.string ⟨#[]⟩)).setCell ⟨A41, 1, none⟩ (.int .i64 0) = w41) := hw41
      have qa41 := ba41.frozen 0
      have qb41 := ba41.frozen 1
      obtain ⟨fa41, fb41⟩ := ba41.cells
      have o41 := o40.later kb41
      obtain ⟨y0, y1⟩ := bb41.cells
      have HL1 : Hid (Calls Try.prog 7 #[.pointer (some ⟨B, 0, none⟩)] w41 _) := o41.len (m := 0) rfl
      clear o40 o41 hwa41 hA41 hw41 ba41 bb41 kb41
      have heq := eql_same
      go_wp2_with (first | rw [HWa41.out, HA41.out] | rw [HW41.out])
      refine HL1.out.mono ?_
      rintro e u42 ⟨rfl, o42⟩
      clear HL1
      have HF1 : Hid (Calls Try.prog 8 #[.pointer (some ⟨B, 0, none⟩)] u42 _) := o42.full (b := false) (decide_eq_false (by have := HNN.out; simp; omega))
      clear o42
      go_wp2_with fail
      refine HF1.out.mono ?_
      rintro e u43 ⟨rfl, o43⟩
      have HE : Hid (Below w.heap.size w u43) := o43.below
      clear o43 HF1
      go_wp2
      go_ret
      exact ⟨rfl, HE.out⟩
end Go.Proofs.Ytclcpblpmfijiaa
