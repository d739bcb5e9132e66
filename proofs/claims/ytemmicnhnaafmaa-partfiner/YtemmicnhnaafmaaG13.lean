/- PartFiner. -/
import Derived.Test.YtemmicnhnaafmaaG12
namespace Go.Proofs.Ytemmicnhnaafmaa
open Go.RowKit

/-- the state of the law: the classes in their block, the set that is one more, the sets -/
structure Fn (ss : List Oct.S) (w u : World) (a : Option Addr) (A : Nat) (mo : Oct.S) : Prop where
  arr : AB u A (clsV ss)
  one : SB u w.heap.size mo
  sets : SetsAt u a ss
  low : Below w.heap.size w u
theorem Fn.later {ss : List Oct.S} {w u u' : World} {a : Option Addr} {A : Nat} {mo : Oct.S} (h : Fn ss w u a A mo) (hb : Below u.heap.size u u') : Fn ss w u' a A mo := ⟨h.arr.later hb, h.one.later hb, setsAt_later hb h.sets, below_trans h.low hb h.low.size⟩
set_option maxRecDepth 20000 in
set_option maxHeartbeats 8000000 in
theorem finer_any (a : Option Addr) (n cap : Nat) (ss0 : List Oct.S) (mo : Oct.S) (w : World) (hn0 : n = ss0.length) (hc : n ≤ cap) (hat0 : SetsAt w a ss0) :
    Calls Try.prog 5 #[.slice a n cap, setV mo] w fun e w' => e = .returned (.bool true) ∧ Below w.heap.size w w' := by
  have ha : n = 0 ∨ ∃ b off, a = some ⟨b, off, none⟩ := by
    rcases hat0 with h | ⟨b, off, h, _⟩
    · left; rw [hn0, h]; rfl
    · exact .inr ⟨b, off, h⟩
  have k0 : Below w.heap.size w (w.alloc (.cells #[.int .u64 (Oct.word mo 0 : Nat), .int .u64 (Oct.word mo 1 : Nat), .int .u64 (Oct.word mo 2 : Nat), .int .u64 (Oct.word mo 3 : Nat)] 31)) := (Below.refl _ _).alloc (Nat.le_refl _) _
  have s0 := sb_new w mo
  obtain ⟨w1, hw1⟩ : ∃ w1, w.alloc (.cells #[.int .u64 (Oct.word mo 0 : Nat), .int .u64 (Oct.word mo 1 : Nat), .int .u64 (Oct.word mo 2 : Nat), .int .u64 (Oct.word mo 3 : Nat)] 31) = w1 := ⟨_, rfl⟩
  rw [hw1] at k0 s0
  have HW1 : Hid (w.alloc (.cells #[.int .u64 (Oct.word mo 0 : Nat), .int .u64 (Oct.word mo 1 : Nat), .int .u64 (Oct.word mo 2 : Nat), .int .u64 (Oct.word mo 3 : Nat)] 31) = w1) := hw1
  have HB1 : Hid (Below w.heap.size w w1) := k0
  have HS1 : Hid (SB w1 w.heap.size mo) := s0
  have HSM : Hid (Calls Try.prog 12 #[.slice a n cap, .int .i64 30] w1 fun e w' => e = .returned (.slice a (min n 30) cap) ∧ w' = w1) := small_any a n cap 30 w1 hc (by decide) ha
  obtain ⟨m, hm⟩ : ∃ m, m = min n 30 := ⟨_, rfl⟩
  rw [← hm] at HSM
  obtain ⟨ss, hss⟩ : ∃ ss, ss = ss0.take 30 := ⟨_, rfl⟩
  have HN : Hid (m = ss.length) := by show _ = _; rw [hss, List.length_take, hm, hn0]; omega
  have HAT : Hid (SetsAt w1 a ss) := by rw [hss]; exact setsAt_later k0 (setsAt_take hat0 30)
  have hm30 : m ≤ 30 := by omega
  have hmc : m ≤ cap := by omega
  clear hm hss hn0 hat0 hc ha hw1 k0 s0
  have hz := zeroArr
  unfold setV
  go_enter Try.func5, Try.ntmps5
  go_upto_region 1 with fail
  rw [HW1.out]
  clear HW1
  go_wp2_with fail
  refine HSM.out.mono ?_
  rintro e w1' ⟨rfl, hw1'⟩
  subst hw1'
  clear HSM
  go_wp2_with fail
  refine (known_any w1').mono ?_
  rintro e w2 ⟨rfl, hb2⟩
  have HB2 : Hid (Below w1'.heap.size w1' w2) := hb2
  clear hb2
  go_wp2_with fail
  refine (classes_any a m cap ss w2 HN.out (by omega) hmc (setsAt_later HB2.out HAT.out)).mono ?_
  rintro e w3 ⟨rfl, hb3⟩
  have HB3 : Hid (Below w1'.heap.size w1' w3) := below_trans HB2.out hb3 HB2.out.size
  clear hb3 HB2
  obtain ⟨N, hN⟩ : ∃ N, N = Pt.cnt (Pt.sameB ss) 256 := ⟨_, rfl⟩
  rw [← hN]
  have HNN : Hid (N = Pt.cnt (Pt.sameB ss) 256) := hN
  have hN256 : N ≤ 256 := by rw [hN]; exact Pt.cnt_le 256
  clear hN
  have HA1 : Hid (AB (w3.alloc (.cells (cv fun _ => 0) 38)) w3.heap.size (fun _ => 0)) := ab_new w3 (fun _ => 0)
  have HEE : Hid ((w3.alloc (.cells (cv fun _ => 0) 38)).setRow w3.heap.size (cv (clsV ss)) = w3.alloc (.cells (cv (clsV ss)) 38)) := World.setRow_alloc_new w3 (cv fun _ => 0) (cv (clsV ss)) 38
  have HT4 : Hid (Fn ss w (w3.alloc (.cells (cv (clsV ss)) 38)) a w3.heap.size mo) := by
    have kb : Below w1'.heap.size w1' (w3.alloc (.cells (cv (clsV ss)) 38)) := HB3.out.alloc HB3.out.size _
    exact ⟨ab_new w3 (clsV ss), HS1.out.later kb, setsAt_later kb HAT.out, below_trans HB1.out kb HB1.out.size⟩
  clear HB3 HAT HS1 HB1
  go_upto_region 5 with (refine wpList_store_arr rfl (.tmp 5) (.tmp 25) rfl HA1.out rfl rfl ?_; rw [HEE.out])
  obtain ⟨w4, hw4⟩ : ∃ w4, w3.alloc (.cells (cv (clsV ss)) 38) = w4 := ⟨_, rfl⟩
  obtain ⟨A, hA⟩ : ∃ A, w3.heap.size = A := ⟨_, rfl⟩
  rw [hw4, hA] at HT4
  rw [hw4, hA]
  clear hw4 hA HA1 HEE
  go_wp2_with fail
  go_loopw [7, 29] (fun v i u => ∃ (k : Nat) (vv : Value), vv = v ∧ k ≤ m ∧ i = .int .i64 (k : Nat) ∧ Hid (OwnsS u w4.heap.size vv (ss.reverse.take k)) ∧ Hid (Below w4.heap.size w4 u)) (fun _ i _ => m - (intOf i).toNat)
  case atStart => exact ⟨0, _, rfl, Nat.zero_le _, rfl, ownsS_nil _ _, Below.refl _ _⟩
  case round =>
    obtain ⟨k, vv, rfl, hk, rfl, HO, HB⟩ := hrel
    by_cases hlt : k < m
    · have hlt' : (k : Int) < (m : Int) := by omega
      obtain ⟨q1, hq1⟩ : ∃ q1, q1 = m - 1 := ⟨_, rfl⟩
      obtain ⟨q, hq⟩ : ∃ q, q = q1 - k := ⟨_, rfl⟩
      have e1 : (m : Int) - 1 = (q1 : Int) := by omega
      have e2 : (q1 : Int) - (k : Int) = (q : Int) := by omega
      have hqm : q < m := by omega
      obtain ⟨s, hs⟩ : ∃ s, ss[q]? = some s := ⟨_, List.getElem?_eq_getElem (by rw [← HN.out]; exact hqm)⟩
      obtain ⟨g, off, rfl, c0, c1, c2, c3⟩ := setsAt_cell (HT4.out.later HB.out).sets (Below.refl _ _) hs
      have HTK : Hid (ss.reverse.take (k + 1) = ss.reverse.take k ++ [s]) := by
        show _ = _
        rw [List.take_add_one]
        have : ss.reverse[k]? = some s := by
          rw [List.getElem?_reverse (by rw [← HN.out]; exact hlt), ← HN.out, show m - 1 - k = q by omega]
          exact hs
        rw [this]
        rfl
      have HLL : Hid ((ss.reverse.take k).length ≤ 30) := by show _ ≤ _; rw [List.length_take, List.length_reverse, ← HN.out]; omega
      have hqi : (q : Int) < (m : Int) := by omega
      clear hs hq hq1
      have k12 : Below wr.heap.size wr (wr.alloc (.cells #[.int .u64 (Oct.word s 0 : Nat), .int .u64 (Oct.word s 1 : Nat), .int .u64 (Oct.word s 2 : Nat), .int .u64 (Oct.word s 3 : Nat)] 31)) := (Below.refl _ _).alloc (Nat.le_refl _) _
      have HO12 : Hid (OwnsS (wr.alloc (.cells #[.int .u64 (Oct.word s 0 : Nat), .int .u64 (Oct.word s 1 : Nat), .int .u64 (Oct.word s 2 : Nat), .int .u64 (Oct.word s 3 : Nat)] 31)) w4.heap.size vv (ss.reverse.take k)) := HO.out.later k12
      have HK12 : Hid (Below w4.heap.size w4 (wr.alloc (.cells #[.int .u64 (Oct.word s 0 : Nat), .int .u64 (Oct.word s 1 : Nat), .int .u64 (Oct.word s 2 : Nat), .int .u64 (Oct.word s 3 : Nat)] 31))) := HB.out.alloc HB.out.size _
      have hsl : SL (wr.alloc (.cells #[.int .u64 (Oct.word s 0 : Nat), .int .u64 (Oct.word s 1 : Nat), .int .u64 (Oct.word s 2 : Nat), .int .u64 (Oct.word s 3 : Nat)] 31)) wr.heap.size [s] := ⟨heap_alloc_new wr _⟩
      have HSL : Hid (SetsAt (wr.alloc (.cells #[.int .u64 (Oct.word s 0 : Nat), .int .u64 (Oct.word s 1 : Nat), .int .u64 (Oct.word s 2 : Nat), .int .u64 (Oct.word s 3 : Nat)] 31)) (some ⟨wr.heap.size, 0, none⟩) [s]) := hsl.at
      clear k12 hsl HO HB
      go_wp2_with (at_builtin; go_must (refine wpList_append_setsN rfl _ _ rfl w4 _ (ss.reverse.take k) rfl HO12.out HK12.out (some ⟨wr.heap.size, 0, none⟩) 1 1 [s] rfl rfl HSL.out (by have := HLL.out; simp at this ⊢; omega) (by simp) ?_; intro v14 w14 ho14 hb14; have HO14 : Hid (OwnsS w14 w4.heap.size v14 (ss.reverse.take k ++ [s])) := ho14; have HB14 : Hid (Below w4.heap.size w4 w14) := hb14; clear ho14 hb14))
      go_roundw
      case rel => exact ⟨k + 1, v14, rfl, by omega, by go_num, by rw [HTK.out]; exact HO14, HB14⟩
      case measure => simp [intOf]; omega
    · have hge : ¬ (k : Int) < (m : Int) := by omega
      have HO2 : Hid (OwnsS wr w4.heap.size vv ss.reverse) := by
        have h := HO.out
        rw [List.take_of_length_le (by rw [List.length_reverse, ← HN.out]; omega)] at h
        exact h
      have HLR : Hid (ss.reverse.length = m) := by show _ = _; rw [List.length_reverse, HN.out]
      have HSA : Hid (SetsAt wr a ss) := (HT4.out.later HB.out).sets
      clear HO
      go_upto_region 12 with (at_builtin; go_must (refine wpList_append_sets2 rfl _ _ rfl w4 _ ss.reverse rfl HO2.out HB.out a cap m ss HN.out rfl HSA.out (by rw [HLR.out, ← HN.out]; omega) (fun h => by rw [h]; rfl) ?_; intro v5 w5 ho5 hk5 hb5; have HO5 : Hid (OwnsS w5 w4.heap.size v5 (ss.reverse ++ ss)) := ho5; have HK5 : Hid (OwnsS w5 w4.heap.size vv ss.reverse) := hk5; have HB5 : Hid (Below w4.heap.size w4 w5) := hb5; clear ho5 hk5 hb5))
      obtain ⟨a5, c5, e5, hat5, hc5⟩ := HO5.out.at2
      subst e5
      have hl5 : (ss.reverse ++ ss).length ≤ 60 := by rw [List.length_append, HLR.out, ← HN.out]; omega
      refine (classes_any a5 _ c5 (ss.reverse ++ ss) w5 rfl (by omega) hc5 hat5).mono ?_
      rintro e w6 ⟨rfl, hb6⟩
      rw [sameB_back, clsV_back, ← HNN.out]
      have HB6 : Hid (Below w4.heap.size w4 w6) := below_trans HB5.out hb6 HB5.out.size
      have HK6 : Hid (OwnsS w6 w4.heap.size vv ss.reverse) := HK5.out.later hb6
      clear hb6 hat5 hc5 hl5 HO5 HK5 HB5 HO2 HB HSA
      obtain ⟨l5, hl5⟩ : ∃ l5, l5 = (ss.reverse ++ ss).length := ⟨_, rfl⟩
      rw [← hl5]
      clear hl5
      have HA6 : Hid (AB (w6.alloc (.cells (cv fun _ => 0) 38)) w6.heap.size (fun _ => 0)) := ab_new w6 (fun _ => 0)
      have HE6 : Hid ((w6.alloc (.cells (cv fun _ => 0) 38)).setRow w6.heap.size (cv (clsV ss)) = w6.alloc (.cells (cv (clsV ss)) 38)) := World.setRow_alloc_new w6 (cv fun _ => 0) (cv (clsV ss)) 38
      have HB7 : Hid (Below w4.heap.size w4 (w6.alloc (.cells (cv (clsV ss)) 38))) := HB6.out.alloc HB6.out.size _
      have HK7 : Hid (OwnsS (w6.alloc (.cells (cv (clsV ss)) 38)) w4.heap.size vv ss.reverse) := HK6.out.later ((Below.refl _ _).alloc (Nat.le_refl _) _)
      have HA7 : Hid (AB (w6.alloc (.cells (cv (clsV ss)) 38)) w6.heap.size (clsV ss)) := ab_new w6 (clsV ss)
      clear HB6 HK6
      go_upto_region 12 with (refine wpList_store_arr rfl (.tmp 9) (.tmp 49) rfl HA6.out rfl rfl ?_; rw [HE6.out])
      obtain ⟨w7, hw7⟩ : ∃ w7, w6.alloc (.cells (cv (clsV ss)) 38) = w7 := ⟨_, rfl⟩
      obtain ⟨A7, hA7⟩ : ∃ A7, w6.heap.size = A7 := ⟨_, rfl⟩
      rw [hw7] at HB7 HK7 HA7
      rw [hA7] at HA7
      rw [hw7, hA7]
      clear hw7 hA7 HA6 HE6
      have HT7 : Hid (Fn ss w w7 a A mo) := HT4.out.later HB7.out
      have HAA : Hid (AB w7 A (clsV ss)) := HT7.out.arr
      have heq := eqArr (clsV ss) (clsV_range ss)
      obtain ⟨m0, m1, m2, m3⟩ := HT7.out.one.cells
      have hsl : SL (w7.alloc (.cells #[.int .u64 (Oct.word mo 0 : Nat), .int .u64 (Oct.word mo 1 : Nat), .int .u64 (Oct.word mo 2 : Nat), .int .u64 (Oct.word mo 3 : Nat)] 31)) w7.heap.size [mo] := ⟨heap_alloc_new w7 _⟩
      have HSL : Hid (SetsAt (w7.alloc (.cells #[.int .u64 (Oct.word mo 0 : Nat), .int .u64 (Oct.word mo 1 : Nat), .int .u64 (Oct.word mo 2 : Nat), .int .u64 (Oct.word mo 3 : Nat)] 31)) (some ⟨w7.heap.size, 0, none⟩) [mo]) := hsl.at
      have k8 : Below w7.heap.size w7 (w7.alloc (.cells #[.int .u64 (Oct.word mo 0 : Nat), .int .u64 (Oct.word mo 1 : Nat), .int .u64 (Oct.word mo 2 : Nat), .int .u64 (Oct.word mo 3 : Nat)] 31)) := (Below.refl _ _).alloc (Nat.le_refl _) _
      have HK8 : Hid (OwnsS (w7.alloc (.cells #[.int .u64 (Oct.word mo 0 : Nat), .int .u64 (Oct.word mo 1 : Nat), .int .u64 (Oct.word mo 2 : Nat), .int .u64 (Oct.word mo 3 : Nat)] 31)) w4.heap.size vv ss.reverse) := HK7.out.later k8
      have HB8 : Hid (Below w4.heap.size w4 (w7.alloc (.cells #[.int .u64 (Oct.word mo 0 : Nat), .int .u64 (Oct.word mo 1 : Nat), .int .u64 (Oct.word mo 2 : Nat), .int .u64 (Oct.word mo 3 : Nat)] 31))) := HB7.out.alloc HB7.out.size _
      clear hsl k8
      go_upto_region 15 with (first | refine wpList_load_arr rfl (.tmp 9) rfl HA7.out rfl ?_ | refine wpList_load_arr rfl (.tmp 5) rfl HAA.out rfl ?_ | (at_builtin; go_must (refine wpList_append_setsN rfl _ _ rfl w4 _ ss.reverse rfl HK8.out HB8.out (some ⟨w7.heap.size, 0, none⟩) 1 1 [mo] rfl rfl HSL.out (by rw [HLR.out]; simp; omega) (by simp) ?_; intro v9 w9 ho9 hb9; have HO9 : Hid (OwnsS w9 w4.heap.size v9 (ss.reverse ++ [mo])) := ho9; have HB9 : Hid (Below w4.heap.size w4 w9) := hb9; clear ho9 hb9)))
      clear heq m0 m1 m2 m3
      obtain ⟨a9, c9, e9, hat9, hc9⟩ := HO9.out.at2
      subst e9
      have hl9 : (ss.reverse ++ [mo]).length = m + 1 := by rw [List.length_append, HLR.out]; rfl
      rw [hl9] at hc9 ⊢
      refine (classes_any a9 (m + 1) c9 (ss.reverse ++ [mo]) w9 hl9.symm (by omega) hc9 hat9).mono ?_
      rintro e w10 ⟨rfl, hb10⟩
      have HB10 : Hid (Below w4.heap.size w4 w10) := below_trans HB9.out hb10 HB9.out.size
      clear hb10 hat9 hc9 hl9 HO9 HB9 HK7 HK8 HB8 HSL HAA HT7 HA7 HB7
      have hge9 := cnt_more_ge ss mo
      have hle9 := cnt_more_le ss mo
      rw [← HNN.out] at hge9 hle9
      have hfe : ∀ x y, Pt.cls (Pt.sameB (ss.reverse ++ [mo])) x = Pt.cls (Pt.sameB (ss.reverse ++ [mo])) y → Pt.cls (Pt.sameB ss) x = Pt.cls (Pt.sameB ss) y := fun x y h => finer_eq h
      obtain ⟨fs, hfs⟩ : ∃ fs, fs = ss.reverse ++ [mo] := ⟨_, rfl⟩
      rw [← hfs] at hge9 hle9 hfe ⊢
      clear hfs
      have HFE : Hid (∀ x y, Pt.cls (Pt.sameB fs) x = Pt.cls (Pt.sameB fs) y → Pt.cls (Pt.sameB ss) x = Pt.cls (Pt.sameB ss) y) := hfe
      obtain ⟨N2, hN2⟩ : ∃ N2, N2 = Pt.cnt (Pt.sameB fs) 256 := ⟨_, rfl⟩
      rw [← hN2] at hge9 hle9 ⊢
      have HN2 : Hid (N2 = Pt.cnt (Pt.sameB fs) 256) := hN2
      have hN2l : N2 ≤ 256 := by rw [hN2]; exact Pt.cnt_le 256
      clear hN2 hfe
      have HA11 : Hid (AB (w10.alloc (.cells (cv fun _ => 0) 38)) w10.heap.size (fun _ => 0)) := ab_new w10 (fun _ => 0)
      have HE11 : Hid ((w10.alloc (.cells (cv fun _ => 0) 38)).setRow w10.heap.size (cv (clsV fs)) = w10.alloc (.cells (cv (clsV fs)) 38)) := World.setRow_alloc_new w10 (cv fun _ => 0) (cv (clsV fs)) 38
      have HB12 : Hid (Below w4.heap.size w4 (w10.alloc (.cells (cv (clsV fs)) 38))) := HB10.out.alloc HB10.out.size _
      have HA12 : Hid (AB (w10.alloc (.cells (cv (clsV fs)) 38)) w10.heap.size (clsV fs)) := ab_new w10 (clsV fs)
      clear HB10
      go_upto_region 15 with (refine wpList_store_arr rfl (.tmp 11) (.tmp 65) rfl HA11.out rfl rfl ?_; rw [HE11.out])
      obtain ⟨w12, hw12⟩ : ∃ w12, w10.alloc (.cells (cv (clsV fs)) 38) = w12 := ⟨_, rfl⟩
      obtain ⟨A12, hA12⟩ : ∃ A12, w10.heap.size = A12 := ⟨_, rfl⟩
      rw [hw12] at HB12 HA12
      rw [hA12] at HA12
      rw [hw12, hA12]
      clear hw12 hA12 HA11 HE11
      have HT12 : Hid (Fn ss w w12 a A mo) := HT4.out.later HB12.out
      have g1 : ¬ (N2 : Int) < (N : Int) := by omega
      have g2 : ¬ 2 * (N : Int) < (N2 : Int) := by omega
      have g3 : IntKind.i64.wrap (2 * (N : Int)) = 2 * (N : Int) := by rw [IntKind.wrap_i64]; omega
      clear HT4 HB12
      go_wp2_with fail
      clear g1 g2 g3
      go_loopw [13] (fun i u => ∃ k : Nat, k ≤ 256 ∧ i = .int .i64 (k : Nat) ∧ Hid (Below w12.heap.size w12 u)) (fun i _ => 256 - (intOf i).toNat)
      case atStart => exact ⟨0, by omega, rfl, Below.refl _ _⟩
      case round =>
        obtain ⟨k, hk, rfl, HB5⟩ := hrel
        by_cases hlt : k < 256
        · have hlt' : (k : Int) < 256 := by omega
          go_wp2_with fail
          go_loopw [14] (fun i u => ∃ j : Nat, j ≤ k ∧ i = .int .i64 (j : Nat) ∧ Hid (Below w12.heap.size w12 u)) (fun i _ => k - (intOf i).toNat)
          case atStart => exact ⟨0, by omega, rfl, HB5⟩
          case round =>
            clear HB5
            obtain ⟨j, hj, rfl, HB7⟩ := hrel
            by_cases hjk : j < k
            · have hjk' : (j : Int) < (k : Int) := by omega
              have hj256 : j < 256 := by omega
              have hj256' : (j : Int) < 256 := by omega
              obtain ⟨x1, hx1⟩ : ∃ x1, x1 = Pt.cls (Pt.sameB fs) k := ⟨_, rfl⟩
              obtain ⟨x2, hx2⟩ : ∃ x2, x2 = Pt.cls (Pt.sameB fs) j := ⟨_, rfl⟩
              obtain ⟨y1, hy1⟩ : ∃ y1, y1 = Pt.cls (Pt.sameB ss) k := ⟨_, rfl⟩
              obtain ⟨y2, hy2⟩ : ∃ y2, y2 = Pt.cls (Pt.sameB ss) j := ⟨_, rfl⟩
              have HXY : Hid (x1 = x2 → y1 = y2) := by show _ → _; rw [hx1, hx2, hy1, hy2]; exact HFE.out k j
              have hne : Nonempty (Later wr) := ⟨⟨wr, Below.refl _ _⟩⟩
              have q1 : ∀ u : Later wr, u.at_.cell? ⟨A12, k, none⟩ = some (.int .i64 (x1 : Nat)) := fun u => by rw [hx1]; exact (((HA12.out.later HB7.out).later u.below).cell hlt).1
              have q2 : ∀ u : Later wr, u.at_.cell? ⟨A12, j, none⟩ = some (.int .i64 (x2 : Nat)) := fun u => by rw [hx2]; exact (((HA12.out.later HB7.out).later u.below).cell hj256).1
              have q3 : ∀ u : Later wr, u.at_.cell? ⟨A, k, none⟩ = some (.int .i64 (y1 : Nat)) := fun u => by rw [hy1]; exact (((HT12.out.arr.later HB7.out).later u.below).cell hlt).1
              have q4 : ∀ u : Later wr, u.at_.cell? ⟨A, j, none⟩ = some (.int .i64 (y2 : Nat)) := fun u => by rw [hy2]; exact (((HT12.out.arr.later HB7.out).later u.below).cell hj256).1
              clear hx1 hx2 hy1 hy2
              by_cases hq : x1 = x2
              · obtain rfl : y1 = y2 := HXY.out hq
                subst hq
                clear HXY
                go_upto_region 23 with fail
                go_cut [100] from 85 to 100 (fun b wx => b = .bool false ∧ Hid (Below wr.heap.size wr wx))
                case first =>
                  refine wp_region_later (by kernel_rfl) (by kernel_rfl) ?_
                  repeat (first
                    | go_big_quiet_step (fail)
                    | quiet_step (fail))
                  refine wpQuiet_nil ?_
                  intro _ hw'
                  obtain ⟨u, hw''⟩ := hw'
                  subst hw''
                  go_wp2_with fail
                  go_meet
                  case rel => exact ⟨rfl, u.below⟩
                case rest =>
                obtain ⟨rfl, kk⟩ := hcut
                have HB9 : Hid (Below w12.heap.size w12 wc) := below_trans HB7.out kk.out HB7.out.size
                clear q1 q2 q3 q4 hne kk HB7
                go_wp2
                go_roundw
                case rel => exact ⟨j + 1, by omega, by go_num, HB9⟩
                case measure => simp [intOf]; omega
              · have hqq : ((x1 : Int) == (x2 : Int)) = false := by
                  simp
                  omega
                have hq2 : ¬ (x1 : Int) = (x2 : Int) := by omega
                clear HXY hq
                go_upto_region 23 with fail
                go_cut [100] from 85 to 100 (fun b wx => b = .bool false ∧ Hid (Below wr.heap.size wr wx))
                case first =>
                  refine wp_region_later (by kernel_rfl) (by kernel_rfl) ?_
                  repeat (first
                    | go_big_quiet_step (fail)
                    | quiet_step (fail))
                  refine wpQuiet_nil ?_
                  intro _ hw'
                  obtain ⟨u, hw''⟩ := hw'
                  subst hw''
                  go_wp2_with fail
                  go_meet
                  case rel => exact ⟨rfl, u.below⟩
                case rest =>
                obtain ⟨rfl, kk⟩ := hcut
                have HB9 : Hid (Below w12.heap.size w12 wc) := below_trans HB7.out kk.out HB7.out.size
                clear q1 q2 q3 q4 hne kk HB7
                go_wp2
                go_roundw
                case rel => exact ⟨j + 1, by omega, by go_num, HB9⟩
                case measure => simp [intOf]; omega
            · have hjk' : ¬ (j : Int) < (k : Int) := by omega
              go_wp2_with fail
              go_roundw
              case rel => exact ⟨k + 1, by omega, by go_num, HB7⟩
              case measure => simp [intOf]; omega
        · have hge2 : ¬ (k : Int) < 256 := by omega
          go_wp2_with fail
          go_loopw [15, 16] (fun x i u => ∃ (c z : Nat), c ≤ N2 ∧ i = .int .i64 (c : Nat) ∧ x = .int .i64 (z : Nat) ∧ z ≤ 256 ∧ Hid (z = Pt.sumTo (szC fs) c) ∧ Hid (Below w12.heap.size w12 u)) (fun _ i _ => N2 - (intOf i).toNat)
          case atStart => exact ⟨0, 0, Nat.zero_le _, rfl, rfl, by omega, (by show _ = _; rfl), HB5⟩
          case round =>
            clear HB5
            obtain ⟨c, z, hc, rfl, rfl, hz256, HZ, HB7⟩ := hrel
            by_cases hcN : c < N2
            · have hcN' : (c : Int) < (N2 : Int) := by omega
              have HAR : Hid (AB wr A12 (clsV fs)) := HA12.out.later HB7.out
              go_wp2_with (refine wpList_load_arr rfl (.tmp 11) rfl HAR.out rfl ?_)
              refine (members_any (clsV fs) (c : Nat) wr).mono ?_
              rintro e w9 ⟨rfl, hb9⟩
              have HB9 : Hid (Below w12.heap.size w12 w9) := below_trans HB7.out hb9 HB7.out.size
              clear hb9 HB7 HAR
              go_wp2_with fail
              refine (count_any (Pt.memb (clsV fs) (c : Nat)) w9).mono ?_
              rintro e w10 ⟨rfl, hb10⟩
              have HB10 : Hid (Below w12.heap.size w12 w10) := below_trans HB9.out hb10 HB9.out.size
              clear hb10 HB9
              have hpos := szC_pos (ss := fs) (c := c) (by rw [← HN2.out]; exact hcN)
              have hsum := sum_le fs (c + 1)
              rw [count_memb]
              obtain ⟨y, hy⟩ : ∃ y, y = szC fs c := ⟨_, rfl⟩
              have hs2 : Pt.sumTo (szC fs) (c + 1) = z + y := by show _ + _ = _; rw [← HZ.out, ← hy]
              rw [← hy] at hpos ⊢
              rw [hs2] at hsum
              have HS2 : Hid (z + y = Pt.sumTo (szC fs) (c + 1)) := hs2.symm
              have hy0 : ((y : Int) == 0) = false := by simp; omega
              have hy1 : ¬ (y : Int) = 0 := by omega
              clear hy hs2 HZ
              obtain ⟨t, ht⟩ : ∃ t, t = z + y := ⟨_, rfl⟩
              rw [← ht] at HS2 hsum
              have ht2 : (z : Int) + (y : Int) = (t : Int) := by omega
              have ht3 : IntKind.i64.wrap ((z : Int) + (y : Int)) = (t : Int) := by rw [IntKind.wrap_i64]; omega
              clear ht
              go_wp2
              go_roundw
              case rel => exact ⟨c + 1, t, by omega, by go_num, (by first | rfl | (rw [ht2])), by omega, HS2, HB10⟩
              case measure => simp [intOf]; omega
            · have hcN' : ¬ (c : Int) < (N2 : Int) := by omega
              obtain rfl : c = N2 := by omega
              obtain rfl : z = 256 := by rw [HZ.out, HN2.out]; exact sum_all fs
              have HLO : Hid (Below w.heap.size w wr) := below_trans HT12.out.low HB7.out HT12.out.low.size
              go_wp2
              go_ret
              exact ⟨rfl, HLO.out⟩
end Go.Proofs.Ytemmicnhnaafmaa
