/- NfaUnited, walked. -/
import Derived.Test.YtjmbimgofceanaaG39
namespace Go.Proofs.Ytjmbimgofceanaa
open Go.RowKit
attribute [local go_sem ↓] Go.wp_at_zero Go.wp_at_succ

set_option maxRecDepth 4000 in
set_option maxHeartbeats 64000000 in
theorem united_any {ss : List ByteArray} {a : Option Addr} {n c : Nat} (w : World) (gm : GM w) (hs : StrAt w a ss) (hn : ss.length = n) (hnc : n ≤ c) (line0 : ByteArray) : Calls Try.prog 5 #[.slice a n c, .string line0] w fun e w' => e = .returned (.bool true) ∧ Below w.heap.size w w' := by
  obtain ⟨K, hK⟩ : ∃ K : Nat, min (n : Int) 12 = (K : Nat) := ⟨min n 12, by omega⟩
  have hKn : K ≤ n := by omega
  have hK12 : K ≤ 12 := by omega
  have hKc : (K : Int) ≤ (c : Int) := by omega
  have HKn : Hid (ss.length = n) := hn
  have HST : Hid (StrAt w a ss) := hs
  have HGM : Hid (GM w) := gm
  have HKN : Hid (KnownOK) := known_any build_ok union_ok right_ok
  clear gm hs hn
  go_enter Try.func5, Try.ntmps5
  go_wp2_with fail
  refine (HKN.out w).mono ?_
  rintro e w1 ⟨rfl, k1⟩
  have HB1 : Hid (Below w.heap.size w w1) := k1
  clear k1 HKN
  go_wp2_with fail
  refine (short_any line0 w1).mono ?_
  rintro e w2 ⟨line, rfl, hl60, hw2⟩
  subst hw2
  go_wp2_with fail
  have HUL0 : Hid (Ul w w2 (.slice none 0 0) (.slice none 0 0) [] []) := ⟨rowM_nil _ _, rowM_nil _ _, fun i M y h => (by simp at h), rfl, HB1.out, fun b hb => by simp [Value.ownBlock] at hb⟩
  clear HB1
  go_loopw [5, 6, 7, 8, 30] (fun v5 v6 v7 v8 i u => ∃ (j : Nat) (Ms : List Ma) (ys : List Nf) (Rs : List Nat) (st wt : Nat), i = .int .i64 (j : Nat) ∧ j ≤ K ∧ Ms.length ≤ j ∧ v7 = .int .i64 (st : Nat) ∧ st ≤ 1 + 300 * j ∧ v8 = .int .u32 (wt : Nat) ∧ wt < 4294967296 ∧ Hid (st = 1 + sumR Ms ∧ wt = Rs.foldl (· ||| ·) 0) ∧ Hid (Fines line Ms Rs) ∧ Hid (Ul w u v5 v6 Ms ys)) (fun _ _ _ _ i _ => K - (intOf i).toNat)
  case atStart => exact ⟨0, [], [], [], 1, 0, rfl, Nat.zero_le _, Nat.le_refl _, rfl, by omega, rfl, by decide, ⟨rfl, rfl⟩, ⟨rfl, fun i M R h => by simp at h⟩, HUL0⟩
  case round =>
    clear HUL0
    obtain ⟨j, Ms, ys, Rs, st, wt, rfl, hjK, hMj, rfl, hst, rfl, hwt, HSW, HFI, HUL⟩ := hrel
    by_cases hlt : j < K
    · have hlt' : (j : Int) < (K : Int) := by omega
      obtain ⟨s, hsj⟩ : ∃ s, ss[j]? = some s := ⟨_, List.getElem?_eq_getElem (by rw [HKn.out]; omega)⟩
      obtain ⟨b, off, rfl, hcell⟩ := (HST.out.later HUL.out.low).nth hsj
      clear hsj
      have HC : Hid (Calls Try.prog 9 #[.string s] wr _) := parse_tree s wr (HGM.out.low HUL.out.low)
      go_wp2_with fail
      refine HC.out.mono ?_
      rintro e w3 ⟨k3, x, pa, rfl, hin3⟩
      have HGD : Hid ((readT s).2 = 0 → (plc (readT s).1).2 = true ∧ ¬ 2048 < placesOf (readT s).1) := fun h => readT_good h
      obtain ⟨t, ht⟩ : ∃ t, (readT s).1 = t := ⟨_, rfl⟩
      obtain ⟨er, her⟩ : ∃ er, (readT s).2 = er := ⟨_, rfl⟩
      rw [ht] at hin3 HGD
      rw [her] at HGD ⊢
      clear ht her HC hcell
      have HIN3 : Hid (InAt w3 t x) := hin3
      have HUL3 : Hid (Ul w w3 u5 u6 Ms ys) := HUL.out.later k3
      clear hin3 k3 HUL
      have kk : Below w3.heap.size w3 (w3.alloc (.cells #[.int .i64 x.k, .int .u64 (Oct.word x.s 0 : Nat), .int .u64 (Oct.word x.s 1 : Nat), .int .u64 (Oct.word x.s 2 : Nat), .int .u64 (Oct.word x.s 3 : Nat), .slice x.a x.n x.c, .int .i64 x.mn, .int .i64 x.mx] 30)) := (Below.refl _ _).alloc (Nat.le_refl _) _
      have HNX : Hid (NB (w3.alloc (.cells #[.int .i64 x.k, .int .u64 (Oct.word x.s 0 : Nat), .int .u64 (Oct.word x.s 1 : Nat), .int .u64 (Oct.word x.s 2 : Nat), .int .u64 (Oct.word x.s 3 : Nat), .slice x.a x.n x.c, .int .i64 x.mn, .int .i64 x.mx] 30)) w3.heap.size x) := nb_new w3 x
      have HIN4 : Hid (InAt (w3.alloc (.cells #[.int .i64 x.k, .int .u64 (Oct.word x.s 0 : Nat), .int .u64 (Oct.word x.s 1 : Nat), .int .u64 (Oct.word x.s 2 : Nat), .int .u64 (Oct.word x.s 3 : Nat), .slice x.a x.n x.c, .int .i64 x.mn, .int .i64 x.mx] 30)) t x) := HIN3.out.later kk
      have HUL4 : Hid (Ul w (w3.alloc (.cells #[.int .i64 x.k, .int .u64 (Oct.word x.s 0 : Nat), .int .u64 (Oct.word x.s 1 : Nat), .int .u64 (Oct.word x.s 2 : Nat), .int .u64 (Oct.word x.s 3 : Nat), .slice x.a x.n x.c, .int .i64 x.mn, .int .i64 x.mx] 30)) u5 u6 Ms ys) := HUL3.out.later kk
      unfold Nd.val
      go_upto_region 10 with fail
      obtain ⟨w4, hw4⟩ : ∃ w4, w3.alloc (.cells #[.int .i64 x.k, .int .u64 (Oct.word x.s 0 : Nat), .int .u64 (Oct.word x.s 1 : Nat), .int .u64 (Oct.word x.s 2 : Nat), .int .u64 (Oct.word x.s 3 : Nat), .slice x.a x.n x.c, .int .i64 x.mn, .int .i64 x.mx] 30) = w4 := ⟨_, rfl⟩
      obtain ⟨A11, hA11⟩ : ∃ A11, w3.heap.size = A11 := ⟨_, rfl⟩
      rw [hw4] at HNX HIN4 HUL4 ⊢
      rw [hA11] at HNX ⊢
      clear hw4 hA11 kk HIN3 HUL3
      obtain ⟨y0, y1, y2, y3, y4, y5, y6, y7⟩ := HNX.out.cells
      have HC : Hid (Calls Try.prog 11 #[x.val, .int .i64 (j : Nat)] w4 (BuildPost w4 t (j : Nat))) := build_ok t x w4 (j : Nat) HIN4.out
      unfold Nd.val at HC
      go_wp2_with fail
      refine HC.out.mono ?_
      rintro e w5 ⟨k5, y, rfl, hm5⟩
      have HBD : Hid (er = 0 → buildOf t (j : Nat) = (mach t j, 0)) := fun h0 => by
        obtain ⟨g1, g2⟩ := HGD.out h0
        unfold buildOf
        rw [if_neg (by rw [g1]; decide), if_neg g2, if_neg (by omega), Int.toNat_natCast]
      obtain ⟨BD, hBD⟩ : ∃ BD, buildOf t (j : Nat) = BD := ⟨_, rfl⟩
      rw [hBD] at hm5 HBD
      have HM5 : Hid (MaAt (fun b => ¬ TyB w5 38 b) w5 BD.1 y) := hm5.keep (fun b hb _ => hb.2) (fun _ _ _ => rfl)
      have HUL5 : Hid (Ul w w5 u5 u6 Ms ys) := HUL4.out.later k5
      rw [hBD]
      clear hm5 k5 HC HNX HIN4 HUL4 hBD y0 y1 y2 y3 y4 y5 y6 y7
      have kk : Below w5.heap.size w5 (w5.alloc (.cells #[.int .i64 y.S, .slice y.ea y.en y.ec, .slice y.ra y.rn y.rc] 38)) := (Below.refl _ _).alloc (Nat.le_refl _) _
      have HNY : Hid (NFB (w5.alloc (.cells #[.int .i64 y.S, .slice y.ea y.en y.ec, .slice y.ra y.rn y.rc] 38)) w5.heap.size y) := nfb_new w5 y
      have HM6 : Hid (MaAt (fun b => ¬ TyB (w5.alloc (.cells #[.int .i64 y.S, .slice y.ea y.en y.ec, .slice y.ra y.rn y.rc] 38)) 38 b) (w5.alloc (.cells #[.int .i64 y.S, .slice y.ea y.en y.ec, .slice y.ra y.rn y.rc] 38)) BD.1 y) := HM5.out.std (fun b _ hlt => kk.block b hlt)
      have HUL6 : Hid (Ul w (w5.alloc (.cells #[.int .i64 y.S, .slice y.ea y.en y.ec, .slice y.ra y.rn y.rc] 38)) u5 u6 Ms ys) := HUL5.out.later kk
      have HAF : Hid (∀ b, u5.ownBlock = some b → b < w5.heap.size) := HUL5.out.r5.own_lt
      unfold Nf.val
      go_upto_region 11 with fail
      obtain ⟨w6, hw6⟩ : ∃ w6, w5.alloc (.cells #[.int .i64 y.S, .slice y.ea y.en y.ec, .slice y.ra y.rn y.rc] 38) = w6 := ⟨_, rfl⟩
      obtain ⟨A, hA⟩ : ∃ A, w5.heap.size = A := ⟨_, rfl⟩
      rw [hw6] at HNY HM6 HUL6 ⊢
      rw [hA] at HNY HAF ⊢
      clear hw6 hA kk HM5 HUL5
      obtain ⟨z0, z1, z2⟩ := HNY.out.cells
      by_cases her : er = 0
      case neg =>
        have h1 : ((er : Int) != 0) = true := by simp; omega
        have h2 : ((er : Int) == 0) = false := by simp; omega
        go_wp2_with (first | (go_at_call 10; refine (num_int _ _).mono ?_; rintro e w' ⟨rfl, rfl⟩) | fail)
        go_roundw
        case rel => exact ⟨j + 1, Ms, ys, Rs, st, wt, by go_num, by omega, by omega, rfl, by omega, rfl, hwt, HSW, HFI, HUL6⟩
        case measure => simp [intOf]; omega
      subst her
      obtain ⟨g1, g2⟩ := HGD.out rfl
      have hBDe := HBD.out rfl
      subst hBDe
      have HP : Hid ((plc t).2 = true ∧ ¬ 2048 < placesOf t) := ⟨g1, g2⟩
      clear HGD HBD g1 g2
      obtain ⟨M, hM⟩ : ∃ M, mach t j = M := ⟨_, rfl⟩
      have HMM : Hid (mach t j = M) := hM
      have hrt : rightOf M = true := by rw [← hM]; exact mach_right HP.out.1 j
      have hMS : M.S = (placesOf t : Nat) := by rw [← hM]; exact mach_states HP.out.1 HP.out.2 j
      have hMe : M.es.length ≤ 4096 := by rw [← hM]; exact (lay_bounds HP.out.1 HP.out.2).2
      simp only [hM] at HM6
      simp only [Int.natCast_zero]
      clear hM
      have e1 : y.S = M.S := HM6.out.s
      have e3 : y.rn = M.rs.length := HM6.out.r
      obtain ⟨_, hrl, _⟩ := right_parts hrt
      obtain ⟨S, hS⟩ : ∃ S, placesOf t = S := ⟨_, rfl⟩
      have hS2 : S ≤ 2048 := by have := HP.out.2; omega
      have HS : Hid (placesOf t = S ∧ M.S = (S : Nat) ∧ M.rs.length = S ∧ 1 ≤ S) := ⟨hS, by omega, by omega, by have h1 := (right_parts hrt).1; omega⟩
      have HRT : Hid (rightOf M = true ∧ M.es.length ≤ 4096) := ⟨hrt, hMe⟩
      obtain ⟨yS, ya, yn, yc, yra, yrn, yrc⟩ := y
      simp only at e1 e3 z0 z1 z2
      have e1' : yS = (S : Nat) := by omega
      have e3' : S = yrn := by omega
      subst e1' e3'
      clear e1 e3 hrl hS hMS hMe hrt
      by_cases h300 : 300 < S
      · have h3 : (300 : Int) < (S : Int) := by omega
        go_wp2_with (first | (go_at_call 10; refine (num_int _ _).mono ?_; rintro e w' ⟨rfl, rfl⟩) | fail)
        go_roundw
        case rel => exact ⟨j + 1, Ms, ys, Rs, st, wt, by go_num, by omega, by omega, rfl, by omega, rfl, hwt, HSW, HFI, HUL6⟩
        case measure => simp [intOf]; omega
      have h3 : ¬ (300 : Int) < (S : Int) := by omega
      have HCR : Hid (Calls Try.prog 12 #[Nf.val ⟨(S : Nat), ya, yn, yc, yra, S, yrc⟩] w6 fun e w' => e = .returned (.bool true) ∧ Below w6.heap.size w6 w') := by
        have h1 := right_ok M ⟨(S : Nat), ya, yn, yc, yra, S, yrc⟩ w6 (HM6.out.keep (fun _ _ _ => trivial) (fun _ _ _ => rfl)) (by have := HRT.out.2; omega) (by have := HS.out.2.2.1; omega)
        rw [HRT.out.1] at h1
        exact h1
      unfold Nf.val at HCR
      simp only at HCR
      go_wp2_with (first | (go_at_call 10; refine (num_int _ _).mono ?_; rintro e w' ⟨rfl, rfl⟩) | fail)
      refine HCR.out.mono ?_
      rintro e w7 ⟨rfl, k7⟩
      have HK7 : Hid (Below w6.heap.size w6 w7) := k7
      clear k7
      go_upto_region 14 with fail
      have HNY7 : Hid (NFB w7 A ⟨(S : Nat), ya, yn, yc, yra, S, yrc⟩) := HNY.out.later HK7.out
      have HM7 : Hid (MaAt (fun b => ¬ TyB w7 38 b) w7 M ⟨(S : Nat), ya, yn, yc, yra, S, yrc⟩) := HM6.out.std (fun b _ hlt => HK7.out.block b hlt)
      have HUL7 : Hid (Ul w w7 u5 u6 Ms ys) := HUL6.out.later HK7.out
      clear HNY HM6 HUL6 HK7 HCR z0 z1 z2
      obtain ⟨z0, z1, z2⟩ := HNY7.out.cells
      simp only at z0 z1 z2
      have kk : Below w7.heap.size w7 (w7.alloc (.cells #[.int .i64 (S : Nat), .slice ya yn yc, .slice yra S yrc] 38)) := (Below.refl _ _).alloc (Nat.le_refl _) _
      have HNY8 : Hid (NFB (w7.alloc (.cells #[.int .i64 (S : Nat), .slice ya yn yc, .slice yra S yrc] 38)) A ⟨(S : Nat), ya, yn, yc, yra, S, yrc⟩) := HNY7.out.later kk
      have HM8 : Hid (MaAt (fun b => ¬ TyB (w7.alloc (.cells #[.int .i64 (S : Nat), .slice ya yn yc, .slice yra S yrc] 38)) 38 b) (w7.alloc (.cells #[.int .i64 (S : Nat), .slice ya yn yc, .slice yra S yrc] 38)) M ⟨(S : Nat), ya, yn, yc, yra, S, yrc⟩) := HM7.out.std (fun b _ hlt => kk.block b hlt)
      have HUL8 : Hid (Ul w (w7.alloc (.cells #[.int .i64 (S : Nat), .slice ya yn yc, .slice yra S yrc] 38)) u5 u6 Ms ys) := HUL7.out.later kk
      have HCC8 : Hid (∀ j v, (Nf.cells ⟨(S : Nat), ya, yn, yc, yra, S, yrc⟩)[j]? = some v → (w7.alloc (.cells #[.int .i64 (S : Nat), .slice ya yn yc, .slice yra S yrc] 38)).cell? ((⟨w7.heap.size, 0, none⟩ : Addr).add j) = some v) := cells_newM w7 ⟨(S : Nat), ya, yn, yc, yra, S, yrc⟩
      have HZ8 : Hid (w.heap.size ≤ (w7.alloc (.cells #[.int .i64 (S : Nat), .slice ya yn yc, .slice yra S yrc] 38)).heap.size) := HUL8.out.low.size
      obtain ⟨N, hN⟩ : ∃ N, ys.length = N := ⟨_, rfl⟩
      have HYL : Hid (ys.length = N) := hN
      have HLEN : Hid (ys.length = Ms.length) := HUL8.out.len
      have hN12 : N ≤ 12 := by have := HLEN.out; omega
      clear hN kk
      go_upto_region 15 with (at_builtin; go_must (refine wpList_append_nf2 rfl _ _ rfl w.heap.size N _ ys rfl HYL.out HUL8.out.r5 ⟨w7.heap.size, 0, none⟩ 1 ⟨(S : Nat), ya, yn, yc, yra, S, yrc⟩ rfl HCC8.out (by omega) HZ8.out ?_; intro g cap w9 hr9 hg9 hgg9; have HR9 : Hid (RowM w9 w.heap.size (.slice (some ⟨g, 0, none⟩) (N + 1) cap) (ys ++ [⟨(S : Nat), ya, yn, yc, yra, S, yrc⟩])) := hr9; have HG9 : Hid ((w7.alloc (.cells #[.int .i64 (S : Nat), .slice ya yn yc, .slice yra S yrc] 38)).grownBy w9 u5.ownBlock ∧ (u5.ownBlock = some g ∨ (w7.alloc (.cells #[.int .i64 (S : Nat), .slice ya yn yc, .slice yra S yrc] 38)).heap.size ≤ g)) := ⟨hg9, hgg9⟩; clear hr9 hg9 hgg9))
      obtain ⟨n1, n2, n3, n4, n5⟩ := HUL8.out.snoc HM8.out HR9.out HG9.out.1 HG9.out.2
      have HR6 : Hid (RowM w9 w.heap.size u6 ys.reverse) := n1
      have HMA : Hid (Mas w9 (Ms ++ [M]) (ys ++ [⟨(S : Nat), ya, yn, yc, yra, S, yrc⟩])) := n2
      have HLO : Hid (Below w.heap.size w w9) := n3
      have HNE : Hid (u6.ownBlock ≠ some g ∧ g < w9.heap.size) := ⟨n4, n5⟩
      have HNY9 : Hid (NFB w9 A ⟨(S : Nat), ya, yn, yc, yra, S, yrc⟩) := (HG9.out.1.block A HNY8.out.lt (fun e => by have := HAF.out A e.symm; omega)).trans HNY8.out
      clear n1 n2 n3 n4 n5 HUL7 HUL8 HM7 HM8 HNY7 HNY8 HCC8 HZ8 HG9 z0 z1 z2
      obtain ⟨z0, z1, z2⟩ := HNY9.out.cells
      simp only at z0 z1 z2
      have kk : Below w9.heap.size w9 (w9.alloc (.cells #[.int .i64 (S : Nat), .slice ya yn yc, .slice yra S yrc] 38)) := (Below.refl _ _).alloc (Nat.le_refl _) _
      have HNYa : Hid (NFB (w9.alloc (.cells #[.int .i64 (S : Nat), .slice ya yn yc, .slice yra S yrc] 38)) A ⟨(S : Nat), ya, yn, yc, yra, S, yrc⟩) := HNY9.out.later kk
      have HR9a : Hid (RowM (w9.alloc (.cells #[.int .i64 (S : Nat), .slice ya yn yc, .slice yra S yrc] 38)) w.heap.size (.slice (some ⟨g, 0, none⟩) (N + 1) cap) (ys ++ [⟨(S : Nat), ya, yn, yc, yra, S, yrc⟩])) := HR9.out.later kk
      have HR6a : Hid (RowM (w9.alloc (.cells #[.int .i64 (S : Nat), .slice ya yn yc, .slice yra S yrc] 38)) w.heap.size u6 ys.reverse) := HR6.out.later kk
      have HMAa : Hid (Mas (w9.alloc (.cells #[.int .i64 (S : Nat), .slice ya yn yc, .slice yra S yrc] 38)) (Ms ++ [M]) (ys ++ [⟨(S : Nat), ya, yn, yc, yra, S, yrc⟩])) := HMA.out.std (fun b _ hlt => kk.block b hlt)
      have HLOa : Hid (Below w.heap.size w (w9.alloc (.cells #[.int .i64 (S : Nat), .slice ya yn yc, .slice yra S yrc] 38))) := below_step HLO.out kk
      have HROW : Hid (RowM (w9.alloc (.cells #[.int .i64 (S : Nat), .slice ya yn yc, .slice yra S yrc] 38)) w.heap.size (.slice (some ⟨w9.heap.size, 0, none⟩) 1 1) [⟨(S : Nat), ya, yn, yc, yra, S, yrc⟩]) := rowM_one w9 w.heap.size ⟨(S : Nat), ya, yn, yc, yra, S, yrc⟩ HLO.out.size
      obtain ⟨a6, c6, hu6, hle6, hmx6, hat6⟩ := HR6a.out.form
      have HA6 : Hid (LAt (w9.alloc (.cells #[.int .i64 (S : Nat), .slice ya yn yc, .slice yra S yrc] 38)) a6 ys.reverse) := hat6
      have hrl : ys.reverse.length = N := by rw [List.length_reverse]; exact HYL.out
      have HRL : Hid (ys.reverse.length = N) := hrl
      rw [hrl] at hu6
      subst hu6
      have HRUN : Hid (∀ ty, ∃ g' c' w', (Builtin.append_ #[48, 48] ty #[.slice (some ⟨w9.heap.size, 0, none⟩) 1 1, .slice a6 N c6]).run Try.prog (w9.alloc (.cells #[.int .i64 (S : Nat), .slice ya yn yc, .slice yra S yrc] 38)) = .ok (.slice (some ⟨g', 0, none⟩) (1 + N) c') w' ∧ RowM w' w.heap.size (.slice (some ⟨g', 0, none⟩) (1 + N) c') ([(⟨(S : Nat), ya, yn, yc, yra, S, yrc⟩ : Nf)] ++ ys.reverse) ∧ (w9.alloc (.cells #[.int .i64 (S : Nat), .slice ya yn yc, .slice yra S yrc] 38)).grownBy w' (some w9.heap.size) ∧ (g' = w9.heap.size ∨ (w9.alloc (.cells #[.int .i64 (S : Nat), .slice ya yn yc, .slice yra S yrc] 38)).heap.size ≤ g')) := fun ty => run_append_nfs2 _ ty w.heap.size w9.heap.size 1 1 [⟨(S : Nat), ya, yn, yc, yra, S, yrc⟩] rfl HROW.out a6 N c6 ys.reverse HRL.out HA6.out (by omega) HLOa.out.size
      clear hle6 hmx6 hat6 kk hrl
      go_upto_region 16 with (at_builtin; go_must (refine wpList_builtin_append (V := fun g' c' => .slice (some ⟨g', 0, none⟩) (1 + N) c') (K := fun g' c' _ w' => RowM w' w.heap.size (.slice (some ⟨g', 0, none⟩) (1 + N) c') ([(⟨(S : Nat), ya, yn, yc, yra, S, yrc⟩ : Nf)] ++ ys.reverse) ∧ (w9.alloc (.cells #[.int .i64 (S : Nat), .slice ya yn yc, .slice yra S yrc] 38)).grownBy w' (some w9.heap.size) ∧ (g' = w9.heap.size ∨ (w9.alloc (.cells #[.int .i64 (S : Nat), .slice ya yn yc, .slice yra S yrc] 38)).heap.size ≤ g')) rfl _ _ rfl (.slice (some ⟨w9.heap.size, 0, none⟩) 1 1) (.slice a6 N c6) rfl rfl HRUN.out ?_; rintro v wA ⟨g', c', rfl, hrA, hgA, hggA⟩; have HRA : Hid (RowM wA w.heap.size (.slice (some ⟨g', 0, none⟩) (1 + N) c') ([(⟨(S : Nat), ya, yn, yc, yra, S, yrc⟩ : Nf)] ++ ys.reverse)) := hrA; have HGA : Hid ((w9.alloc (.cells #[.int .i64 (S : Nat), .slice ya yn yc, .slice yra S yrc] 38)).grownBy wA (some w9.heap.size) ∧ (g' = w9.heap.size ∨ (w9.alloc (.cells #[.int .i64 (S : Nat), .slice ya yn yc, .slice yra S yrc] 38)).heap.size ≤ g')) := ⟨hgA, hggA⟩; clear hrA hgA hggA))
      have HULb : Hid (Ul w wA (.slice (some ⟨g, 0, none⟩) (N + 1) cap) (.slice (some ⟨g', 0, none⟩) (1 + N) c') (Ms ++ [M]) (ys ++ [⟨(S : Nat), ya, yn, yc, yra, S, yrc⟩])) := Ul.more HR9a.out (by have := HNE.out.2; omega) HMAa.out (by rw [List.length_append, List.length_append, HLEN.out]; rfl) HLOa.out HLO.out.size ⟨_, _, heap_alloc_new w9 _⟩ (by rw [List.reverse_append]; exact HRA.out) HGA.out.1 HGA.out.2
      have HNYb : Hid (NFB wA A ⟨(S : Nat), ya, yn, yc, yra, S, yrc⟩) := (HGA.out.1.block A HNYa.out.lt (fun e => by cases e; have := HNY9.out.lt; omega)).trans HNYa.out
      clear HR9 HR6 HMA HLO HNE HNY9 HNYa HR9a HR6a HMAa HLOa HROW HA6 HRUN HRA HGA z0 z1 z2
      obtain ⟨z0, z1, z2⟩ := HNYb.out.cells
      simp only at z0 z1 z2
      have HMb : Hid (MaAt (fun _ => True) wA M ⟨(S : Nat), ya, yn, yc, yra, S, yrc⟩) := (HULb.out.mas Ms.length M ⟨(S : Nat), ya, yn, yc, yra, S, yrc⟩ (by simp) (by rw [List.getElem?_append_right (by rw [HLEN.out]; exact Nat.le_refl _), HLEN.out, Nat.sub_self]; rfl)).keep (fun _ _ _ => trivial) (fun _ _ _ => rfl)
      have HC : Hid (Calls Try.prog 16 #[Nf.val ⟨(S : Nat), ya, yn, yc, yra, S, yrc⟩, .string line] wA _) := met_any (S := S) (line := line) wA HMb.out HS.out.2.1 HS.out.2.2.2 HS.out.2.2.1 (by omega) (by have := HRT.out.2; omega) (by have h1 := right_inR HRT.out.1; rw [HS.out.2.2.1] at h1; exact h1) (by rw [← HMM.out]; exact mach_words t (by omega)) (by omega)
      unfold Nf.val at HC
      simp only at HC
      go_wp2_with fail
      refine HC.out.mono ?_
      rintro e wB ⟨kB, R, rfl, hwalk⟩
      have HF : Hid (Fine line M R) := by
        rw [← HMM.out]
        exact fine_mach HP.out.1 HP.out.2 (by omega) (by have := HS.out.1; omega) (by rw [HS.out.1, HMM.out]; exact hwalk)
      have hR32 := HF.out.lt
      have hor : bits .or .u32 (wt : Nat) (R : Nat) = ((wt ||| R : Nat) : Int) := u32_or_nat wt R hwt hR32
      have hol := or_lt32 hwt hR32
      have HULc : Hid (Ul w wB (.slice (some ⟨g, 0, none⟩) (N + 1) cap) (.slice (some ⟨g', 0, none⟩) (1 + N) c') (Ms ++ [M]) (ys ++ [⟨(S : Nat), ya, yn, yc, yra, S, yrc⟩])) := HULb.out.later kB
      have HFI2 : Hid (Fines line (Ms ++ [M]) (Rs ++ [R])) := HFI.out.snoc HF.out
      have HSW2 : Hid (st + S = 1 + sumR (Ms ++ [M]) ∧ (wt ||| R) = (Rs ++ [R]).foldl (· ||| ·) 0) := by
        refine ⟨?_, ?_⟩
        · rw [sumR_append, sumR, sumR, HS.out.2.2.1]
          have := HSW.out.1
          omega
        · rw [foldl_or_snoc, ← HSW.out.2]
      clear kB hwalk HC HULb HNYb HMb z0 z1 z2
      go_wp2
      go_roundw
      case rel => exact ⟨j + 1, Ms ++ [M], ys ++ [⟨(S : Nat), ya, yn, yc, yra, S, yrc⟩], Rs ++ [R], st + S, (wt ||| R), by go_num, by omega, by simp; omega, by go_num, by omega, rfl, hol, HSW2, HFI2, HULc⟩
      case measure => simp [intOf]; omega
    · have hlt' : ¬ (j : Int) < (K : Int) := by omega
      have hst2 : st ≤ 3601 := by omega
      have hMs12 : Ms.length ≤ 12 := by omega
      have HFU : Hid (FineU line (unions Ms ⟨1, [], [0]⟩) st wt) := by have h1 := HFI.out.union hMs12; rw [← HSW.out.1, ← HSW.out.2] at h1; exact h1
      have HFV : Hid (FineU line (unions Ms.reverse ⟨1, [], [0]⟩) st wt) := by have h1 := HFI.out.rev.union (by rw [List.length_reverse]; exact hMs12); rw [sumR_reverse, foldl_or_rev, ← HSW.out.1, ← HSW.out.2] at h1; exact h1
      have HOU : Hid (unionOf Ms = (unions Ms ⟨1, [], [0]⟩, 0)) := by
        show _ = _
        unfold unionOf
        rw [if_pos (List.all_eq_true.2 (fun M hM => by obtain ⟨R, hR⟩ := HFI.out.mem M hM; exact hR.rt))]
      have HOV : Hid (unionOf Ms.reverse = (unions Ms.reverse ⟨1, [], [0]⟩, 0)) := by
        show _ = _
        unfold unionOf
        rw [if_pos (List.all_eq_true.2 (fun M hM => by obtain ⟨R, hR⟩ := HFI.out.rev.mem M hM; exact hR.rt))]
      obtain ⟨a5, c5, hu5, hle5, hmx5, hat5⟩ := HUL.out.r5.form
      obtain ⟨a6, c6, hu6, hle6, hmx6, hat6⟩ := HUL.out.r6.form
      have HLU : Hid (ListAt wr a5 Ms ys) := HUL.out.mas.list HUL.out.len hat5
      have HLV : Hid (ListAt wr a6 Ms.reverse ys.reverse) := (HUL.out.mas.rev HUL.out.len).list (by rw [List.length_reverse, List.length_reverse]; exact HUL.out.len) hat6
      have HBW : Hid (Below w.heap.size w wr) := HUL.out.low
      have hyl : ys.length = Ms.length := HUL.out.len
      have hyr : ys.reverse.length = Ms.reverse.length := by rw [List.length_reverse, List.length_reverse, hyl]
      rw [hyl] at hu5 hle5
      rw [hyr] at hu6 hle6
      subst hu5 hu6
      have HCU : Hid (Calls Try.prog 21 #[.slice a5 Ms.length c5] wr (UnionPost wr Ms)) := union_ok Ms ys a5 c5 wr HLU.out hle5 hmx5 (by omega) HFU.out.es (by rw [HFU.out.rs]; exact HFU.out.le)
      have HCV : Hid (∀ u, Below wr.heap.size wr u → Calls Try.prog 21 #[.slice a6 Ms.reverse.length c6] u (UnionPost u Ms.reverse)) := fun u hu => union_ok Ms.reverse ys.reverse a6 c6 u (HLV.out.later hu) hle6 hmx6 (by rw [List.length_reverse]; omega) HFV.out.es (by rw [HFV.out.rs]; exact HFV.out.le)
      obtain ⟨U, hU⟩ : ∃ U, unions Ms ⟨1, [], [0]⟩ = U := ⟨_, rfl⟩
      obtain ⟨V, hV⟩ : ∃ V, unions Ms.reverse ⟨1, [], [0]⟩ = V := ⟨_, rfl⟩
      obtain ⟨N, hN⟩ : ∃ N, Ms.length = N := ⟨_, rfl⟩
      have hN2 : Ms.reverse.length = N := by rw [List.length_reverse]; exact hN
      rw [hU] at HFU HOU
      rw [hV] at HFV HOV
      rw [hN] at HCU ⊢
      rw [hN2] at HCV ⊢
      clear hU hV hN hN2 hat5 hat6 hle5 hle6 hmx5 hmx6 hyl hyr HLU HLV HUL HFI HSW HST HKn
      go_wp2_with fail
      refine HCU.out.mono ?_
      rintro e w3 ⟨k3, y, rfl, hm3⟩
      rw [HOU.out] at hm3 ⊢
      have e1 : y.S = (st : Nat) := hm3.s.trans HFU.out.s
      have e3 : y.rn = st := hm3.r.trans HFU.out.rs
      have HM3 : Hid (MaAt (fun _ => True) w3 U y) := hm3.keep (fun _ _ _ => trivial) (fun _ _ _ => rfl)
      obtain ⟨yS, ya, yn, yc, yra, yrn, yrc⟩ := y
      simp only at e1 e3
      subst e1
      have e3' : st = yrn := e3.symm
      subst e3'
      clear e3 hm3 HCU
      have HB3 : Hid (Below wr.heap.size wr w3) := k3
      clear k3
      have kk : Below w3.heap.size w3 (w3.alloc (.cells #[.int .i64 (st : Nat), .slice ya yn yc, .slice yra st yrc] 38)) := (Below.refl _ _).alloc (Nat.le_refl _) _
      have HNU : Hid (NFB (w3.alloc (.cells #[.int .i64 (st : Nat), .slice ya yn yc, .slice yra st yrc] 38)) w3.heap.size ⟨(st : Nat), ya, yn, yc, yra, st, yrc⟩) := nfb_new w3 ⟨(st : Nat), ya, yn, yc, yra, st, yrc⟩
      have HM4 : Hid (MaAt (fun _ => True) (w3.alloc (.cells #[.int .i64 (st : Nat), .slice ya yn yc, .slice yra st yrc] 38)) U ⟨(st : Nat), ya, yn, yc, yra, st, yrc⟩) := HM3.out.later kk
      have HB4 : Hid (Below wr.heap.size wr (w3.alloc (.cells #[.int .i64 (st : Nat), .slice ya yn yc, .slice yra st yrc] 38))) := below_step HB3.out kk
      unfold Nf.val
      simp only [Int.natCast_zero]
      go_upto_region 20 with fail
      obtain ⟨w4, hw4⟩ : ∃ w4, w3.alloc (.cells #[.int .i64 (st : Nat), .slice ya yn yc, .slice yra st yrc] 38) = w4 := ⟨_, rfl⟩
      obtain ⟨A, hA⟩ : ∃ A, w3.heap.size = A := ⟨_, rfl⟩
      rw [hw4] at HNU HM4 HB4 ⊢
      rw [hA] at HNU ⊢
      clear hw4 hA kk HM3 HB3
      have HCV4 : Hid (Calls Try.prog 21 #[.slice a6 N c6] w4 (UnionPost w4 Ms.reverse)) := HCV.out w4 HB4.out
      go_wp2_with fail
      refine HCV4.out.mono ?_
      rintro e w5 ⟨k5, z, rfl, hm5⟩
      rw [HOV.out] at hm5 ⊢
      have e1 : z.S = (st : Nat) := hm5.s.trans HFV.out.s
      have e3 : z.rn = st := hm5.r.trans HFV.out.rs
      have HM5 : Hid (MaAt (fun _ => True) w5 V z) := hm5.keep (fun _ _ _ => trivial) (fun _ _ _ => rfl)
      obtain ⟨zS, za, zn, zc, zra, zrn, zrc⟩ := z
      simp only at e1 e3
      subst e1
      have e3' : st = zrn := e3.symm
      subst e3'
      clear e3 hm5 HCV HCV4
      have HB5 : Hid (Below w4.heap.size w4 w5) := k5
      clear k5
      have kk : Below w5.heap.size w5 (w5.alloc (.cells #[.int .i64 (st : Nat), .slice za zn zc, .slice zra st zrc] 38)) := (Below.refl _ _).alloc (Nat.le_refl _) _
      have HNV : Hid (NFB (w5.alloc (.cells #[.int .i64 (st : Nat), .slice za zn zc, .slice zra st zrc] 38)) w5.heap.size ⟨(st : Nat), za, zn, zc, zra, st, zrc⟩) := nfb_new w5 ⟨(st : Nat), za, zn, zc, zra, st, zrc⟩
      have HMV : Hid (MaAt (fun _ => True) (w5.alloc (.cells #[.int .i64 (st : Nat), .slice za zn zc, .slice zra st zrc] 38)) V ⟨(st : Nat), za, zn, zc, zra, st, zrc⟩) := HM5.out.later kk
      have HB6 : Hid (Below w4.heap.size w4 (w5.alloc (.cells #[.int .i64 (st : Nat), .slice za zn zc, .slice zra st zrc] 38))) := below_step HB5.out kk
      unfold Nf.val
      simp only [Int.natCast_zero]
      go_upto_region 21 with fail
      obtain ⟨w6, hw6⟩ : ∃ w6, w5.alloc (.cells #[.int .i64 (st : Nat), .slice za zn zc, .slice zra st zrc] 38) = w6 := ⟨_, rfl⟩
      obtain ⟨C, hC⟩ : ∃ C, w5.heap.size = C := ⟨_, rfl⟩
      rw [hw6] at HNV HMV HB6 ⊢
      rw [hC] at HNV ⊢
      have HNU6 : Hid (NFB w6 A ⟨(st : Nat), ya, yn, yc, yra, st, yrc⟩) := HNU.out.later HB6.out
      have HMU6 : Hid (MaAt (fun _ => True) w6 U ⟨(st : Nat), ya, yn, yc, yra, st, yrc⟩) := HM4.out.later HB6.out
      have HBW6 : Hid (Below w.heap.size w w6) := below_step HBW.out (below_step HB4.out HB6.out)
      clear hw6 hC kk HM5 HB5 HB6 HB4 HNU HM4 HBW HOU HOV
      have HCR : Hid (∀ u, Below w6.heap.size w6 u → Calls Try.prog 12 #[Nf.val ⟨(st : Nat), ya, yn, yc, yra, st, yrc⟩] u fun e w' => e = .returned (.bool true) ∧ Below u.heap.size u w') := fun u hu => by
        have h1 := right_ok U ⟨(st : Nat), ya, yn, yc, yra, st, yrc⟩ u (HMU6.out.later hu) HFU.out.es (by rw [HFU.out.rs]; exact HFU.out.le)
        rw [HFU.out.rt] at h1
        exact h1
      have HCS : Hid (∀ u, Below w6.heap.size w6 u → Calls Try.prog 12 #[Nf.val ⟨(st : Nat), za, zn, zc, zra, st, zrc⟩] u fun e w' => e = .returned (.bool true) ∧ Below u.heap.size u w') := fun u hu => by
        have h1 := right_ok V ⟨(st : Nat), za, zn, zc, zra, st, zrc⟩ u (HMV.out.later hu) HFV.out.es (by rw [HFV.out.rs]; exact HFV.out.le)
        rw [HFV.out.rt] at h1
        exact h1
      have HCM : Hid (∀ u, Below w6.heap.size w6 u → Calls Try.prog 16 #[Nf.val ⟨(st : Nat), ya, yn, yc, yra, st, yrc⟩, .string line] u fun e w' => e = .returned (.int .u32 (wt : Nat)) ∧ Below u.heap.size u w') := fun u hu => by
        refine (met_any (S := st) (line := line) u (HMU6.out.later hu) HFU.out.s HFU.out.one HFU.out.rs HFU.out.le HFU.out.es (by have h1 := right_inR HFU.out.rt; rw [HFU.out.rs] at h1; exact h1) HFU.out.u (by omega)).mono ?_
        rintro e w' ⟨kb, R, rfl, hw⟩
        exact ⟨by rw [Walks.same HFU.out.wk HFU.out.rs hw], kb⟩
      have HCN : Hid (∀ u, Below w6.heap.size w6 u → Calls Try.prog 16 #[Nf.val ⟨(st : Nat), za, zn, zc, zra, st, zrc⟩, .string line] u fun e w' => e = .returned (.int .u32 (wt : Nat)) ∧ Below u.heap.size u w') := fun u hu => by
        refine (met_any (S := st) (line := line) u (HMV.out.later hu) HFV.out.s HFV.out.one HFV.out.rs HFV.out.le HFV.out.es (by have h1 := right_inR HFV.out.rt; rw [HFV.out.rs] at h1; exact h1) HFV.out.u (by omega)).mono ?_
        rintro e w' ⟨kb, R, rfl, hw⟩
        exact ⟨by rw [Walks.same HFV.out.wk HFV.out.rs hw], kb⟩
      clear HFU HFV HMU6 HMV
      obtain ⟨p0, p1, p2⟩ := HNU6.out.cells
      obtain ⟨q0, q1, q2⟩ := HNV.out.cells
      simp only at p0 p1 p2 q0 q1 q2
      have HC1 : Hid (Calls Try.prog 12 #[Nf.val ⟨(st : Nat), ya, yn, yc, yra, st, yrc⟩] w6 _) := HCR.out w6 (Below.refl _ _)
      unfold Nf.val at HC1
      simp only at HC1
      go_wp2_with (first | (go_at_call 10; refine (num_int _ _).mono ?_; rintro e w' ⟨rfl, rfl⟩) | fail)
      refine HC1.out.mono ?_
      rintro e w7 ⟨rfl, k7⟩
      have HK7 : Hid (Below w6.heap.size w6 w7) := k7
      have HNU7 : Hid (NFB w7 A ⟨(st : Nat), ya, yn, yc, yra, st, yrc⟩) := HNU6.out.later k7
      have HNV7 : Hid (NFB w7 C ⟨(st : Nat), za, zn, zc, zra, st, zrc⟩) := HNV.out.later k7
      clear k7 HC1 HCR p0 p1 p2 q0 q1 q2 HNU6 HNV
      obtain ⟨p0, p1, p2⟩ := HNU7.out.cells
      obtain ⟨q0, q1, q2⟩ := HNV7.out.cells
      simp only at p0 p1 p2 q0 q1 q2
      have HC1 : Hid (Calls Try.prog 12 #[Nf.val ⟨(st : Nat), za, zn, zc, zra, st, zrc⟩] w7 _) := HCS.out w7 HK7.out
      unfold Nf.val at HC1
      simp only at HC1
      go_wp2_with (first | (go_at_call 10; refine (num_int _ _).mono ?_; rintro e w' ⟨rfl, rfl⟩) | fail)
      refine HC1.out.mono ?_
      rintro e w8 ⟨rfl, k8⟩
      have HK8 : Hid (Below w6.heap.size w6 w8) := below_step HK7.out k8
      have HNU8 : Hid (NFB w8 A ⟨(st : Nat), ya, yn, yc, yra, st, yrc⟩) := HNU7.out.later k8
      have HNV8 : Hid (NFB w8 C ⟨(st : Nat), za, zn, zc, zra, st, zrc⟩) := HNV7.out.later k8
      clear k8 HC1 HCS p0 p1 p2 q0 q1 q2 HNU7 HNV7 HK7
      obtain ⟨p0, p1, p2⟩ := HNU8.out.cells
      obtain ⟨q0, q1, q2⟩ := HNV8.out.cells
      simp only at p0 p1 p2 q0 q1 q2
      have HC1 : Hid (Calls Try.prog 16 #[Nf.val ⟨(st : Nat), ya, yn, yc, yra, st, yrc⟩, .string line] w8 _) := HCM.out w8 HK8.out
      unfold Nf.val at HC1
      simp only at HC1
      go_wp2_with fail
      refine HC1.out.mono ?_
      rintro e w9 ⟨rfl, k9⟩
      have HK9 : Hid (Below w6.heap.size w6 w9) := below_step HK8.out k9
      have HNV9 : Hid (NFB w9 C ⟨(st : Nat), za, zn, zc, zra, st, zrc⟩) := HNV8.out.later k9
      clear k9 HC1 HCM p0 p1 p2 q0 q1 q2 HNU8 HNV8 HK8
      obtain ⟨q0, q1, q2⟩ := HNV9.out.cells
      simp only at q0 q1 q2
      have HC1 : Hid (Calls Try.prog 16 #[Nf.val ⟨(st : Nat), za, zn, zc, zra, st, zrc⟩, .string line] w9 _) := HCN.out w9 HK9.out
      unfold Nf.val at HC1
      simp only at HC1
      go_wp2_with fail
      refine HC1.out.mono ?_
      rintro e wA ⟨rfl, kA⟩
      have HKA : Hid (Below w.heap.size w wA) := below_step HBW6.out (below_step HK9.out kA)
      clear kA HC1 HCN q0 q1 q2 HNV9 HK9
      go_wp2
      go_ret
      exact ⟨rfl, HKA.out⟩
end Go.Proofs.Ytjmbimgofceanaa
