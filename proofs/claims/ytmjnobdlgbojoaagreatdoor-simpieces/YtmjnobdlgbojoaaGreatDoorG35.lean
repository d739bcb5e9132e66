
import Derived.Test.YtmjnobdlgbojoaaGreatDoorG32
import Derived.Test.YtmjnobdlgbojoaaGreatDoorG01
import Derived.Deep.CutBlock
namespace Go.Proofs.YtmjnobdlgbojoaaGreatDoor
open Go.RowKit
attribute [local go_sem ↓] Go.wp_at_zero Go.wp_at_succ
set_option maxRecDepth 4000 in
set_option maxHeartbeats 16000000 in
theorem lends_5 {w0 : World} {W : Nat} {line : ByteArray} (hW : w0.heap.size ≤ W) (hl9 : line.size ≤ 8) {s : Oct.S} {t1 : Tn} {yy : Nd} {M : Nat} {mx : Int} {a : Option Addr} {c : Nat} (hr : RowAt (fun _ => True) w0 a [yy]) (hs : EndsV w0 W line t1 yy) (hM : M ≤ 255) (hmx : mx = -1 ∨ (M : Int) ≤ mx ∧ mx ≤ 255) (hsc : sc t1 + 11 ≤ 1000000000) : EndsV w0 W line (.mk 5 s [t1] (M : Nat) mx) ⟨5, s, a, 1, c, (M : Nat), mx⟩ := by
  intro u i l hlow hwb hi hl1 hl2
  obtain ⟨N, hN⟩ : ∃ N, line.size + 1 = N := ⟨_, rfl⟩
  rw [hN]
  have hNI : (line.size : Int) + 1 = (N : Nat) := by omega
  have hN9 : N ≤ 9 := by omega
  have HN : Hid (line.size + 1 = N) := hN
  have kk : Below u.heap.size u (u.alloc (.cells #[.int .i64 5, .int .u64 (Oct.word s 0 : Nat), .int .u64 (Oct.word s 1 : Nat), .int .u64 (Oct.word s 2 : Nat), .int .u64 (Oct.word s 3 : Nat), .slice a 1 c, .int .i64 (M : Nat), .int .i64 mx] 30)) := (Below.refl _ _).alloc (Nat.le_refl _) _
  have HNA : Hid (NB (u.alloc (.cells #[.int .i64 5, .int .u64 (Oct.word s 0 : Nat), .int .u64 (Oct.word s 1 : Nat), .int .u64 (Oct.word s 2 : Nat), .int .u64 (Oct.word s 3 : Nat), .slice a 1 c, .int .i64 (M : Nat), .int .i64 mx] 30)) u.heap.size ⟨5, s, a, 1, c, (M : Nat), mx⟩) := nb_new u ⟨5, s, a, 1, c, (M : Nat), mx⟩
  have HG : Hid (u.grownBy (u.alloc (.cells #[.int .i64 5, .int .u64 (Oct.word s 0 : Nat), .int .u64 (Oct.word s 1 : Nat), .int .u64 (Oct.word s 2 : Nat), .int .u64 (Oct.word s 3 : Nat), .slice a 1 c, .int .i64 (M : Nat), .int .i64 mx] 30)) (some W)) := gro_later (grown_rfl _ _) kk
  have HWB : Hid (WBk (u.alloc (.cells #[.int .i64 5, .int .u64 (Oct.word s 0 : Nat), .int .u64 (Oct.word s 1 : Nat), .int .u64 (Oct.word s 2 : Nat), .int .u64 (Oct.word s 3 : Nat), .slice a 1 c, .int .i64 (M : Nat), .int .i64 mx] 30)) W line l) := hwb.later kk
  have HGF : Hid (W < u.heap.size) := hwb.lt
  have HUS : Hid (u.heap.size ≤ (u.alloc (.cells #[.int .i64 5, .int .u64 (Oct.word s 0 : Nat), .int .u64 (Oct.word s 1 : Nat), .int .u64 (Oct.word s 2 : Nat), .int .u64 (Oct.word s 3 : Nat), .slice a 1 c, .int .i64 (M : Nat), .int .i64 mx] 30)).heap.size) := kk.size
  obtain ⟨w1, hw1⟩ : ∃ w1, u.alloc (.cells #[.int .i64 5, .int .u64 (Oct.word s 0 : Nat), .int .u64 (Oct.word s 1 : Nat), .int .u64 (Oct.word s 2 : Nat), .int .u64 (Oct.word s 3 : Nat), .slice a 1 c, .int .i64 (M : Nat), .int .i64 mx] 30) = w1 := ⟨_, rfl⟩
  rw [hw1] at HNA HG HWB HUS
  obtain ⟨A, hA⟩ : ∃ A, u.heap.size = A := ⟨_, rfl⟩
  rw [hA] at HNA
  have HW1 : Hid (u.alloc (.cells #[.int .i64 5, .int .u64 (Oct.word s 0 : Nat), .int .u64 (Oct.word s 1 : Nat), .int .u64 (Oct.word s 2 : Nat), .int .u64 (Oct.word s 3 : Nat), .slice a 1 c, .int .i64 (M : Nat), .int .i64 mx] 30) = w1) := hw1
  have HAA : Hid (u.heap.size = A) := hA
  have HLW : Hid (Below w0.heap.size w0 u ∧ w0.heap.size ≤ W) := ⟨hlow, hW⟩
  have HRO : Hid (RowAt (fun _ => True) w0 a [yy]) := hr
  have HS : Hid (EndsV w0 W line t1 yy) := hs
  have HSC : Hid (sc t1 + 11 ≤ 1000000000) := hsc
  have HL9 : Hid (line.size ≤ 8) := hl9
  have HMX : Hid (mx = -1 ∨ (M : Int) ≤ mx ∧ mx ≤ 255) := hmx
  clear hr hs hsc hmx
  clear hw1 hA hlow kk hwb hW hN
  unfold Nd.val
  simp only
  go_enter Tryz.func55, Tryz.ntmps55
  go_upto_region 1 with fail
  rw [HW1.out, HAA.out]
  clear HW1
  obtain ⟨k0, k1⟩ := HWB.out.cells
  go_upto_region 2 with (first | (refine wpList_make_bool rfl _ _ rfl u.heap.size N HUS.out (by show _ = Value.int .i64 ((N : Nat) : Int); rw [← hNI]; rfl) (by show _ = Value.int .i64 ((N : Nat) : Int); rw [← hNI]; rfl) (by omega) ?_; intro w2 hr2 hb2; have HR2 : Hid (RowB w2 u.heap.size (.slice (some ⟨w1.heap.size, 0, none⟩) N N) (List.replicate N false)) := hr2; have HK2 : Hid (Below w1.heap.size w1 w2) := hb2; clear hr2 hb2) | fail)
  clear k0 k1
  obtain ⟨G, hG⟩ : ∃ G, w1.heap.size = G := ⟨_, rfl⟩
  rw [hG] at HR2 ⊢
  have HAG : Hid (A < G ∧ W < A ∧ u.heap.size ≤ G ∧ u.heap.size = A) := by have h1 := HNA.out.lt; have h2 := HGF.out; have h3 := HAA.out; exact ⟨by omega, by omega, by omega, by omega⟩
  have HNA2 : Hid (NB w2 A ⟨5, s, a, 1, c, (M : Nat), mx⟩) := HNA.out.later HK2.out
  have HG2 : Hid (u.grownBy w2 (some W)) := gro_later HG.out HK2.out
  have HWB2 : Hid (WBk w2 W line l) := HWB.out.later HK2.out
  clear hG HNA HG HK2 HWB HUS HGF HAA
  obtain ⟨k0, k1⟩ := HWB2.out.cells
  have f1 := HWB2.out.frozen 1
  have hlw : IntKind.i64.wrap (l - 1) = l - 1 := by rw [IntKind.wrap_i64]; omega
  have HWB3 : Hid (WBk (w2.setCell ⟨W, 1, none⟩ (.int .i64 (l - 1))) W line (l - 1)) := HWB2.out.set _
  have HG3 : Hid (u.grownBy (w2.setCell ⟨W, 1, none⟩ (.int .i64 (l - 1))) (some W)) := gro_set HG2.out 1 _
  have HNA3 : Hid (NB (w2.setCell ⟨W, 1, none⟩ (.int .i64 (l - 1))) A ⟨5, s, a, 1, c, (M : Nat), mx⟩) := (Below.heap_setCell w2 ⟨W, 1, none⟩ _ A (fun e => by have := HAG.out; have e2 : A = W := e; omega)).trans HNA2.out
  have HR3 : Hid (RowB (w2.setCell ⟨W, 1, none⟩ (.int .i64 (l - 1))) u.heap.size (.slice (some ⟨G, 0, none⟩) N N) (List.replicate N false)) := HR2.out.same (Below.heap_setCell w2 ⟨W, 1, none⟩ _ G (fun e => by have := HAG.out; have e2 : G = W := e; omega))
  clear HWB2 HG2 HNA2 HR2
  go_upto_region 3 with fail
  obtain ⟨w3, hw3⟩ : ∃ w3, w2.setCell ⟨W, 1, none⟩ (.int .i64 (l - 1)) = w3 := ⟨_, rfl⟩
  rw [hw3] at HWB3 HG3 HNA3 HR3 ⊢
  clear hw3 k0 k1 f1 hlw
  obtain ⟨k0, k1⟩ := HWB3.out.cells
  by_cases hneg : l - 1 < 0
  · have hd : decide (l - 1 < 0) = true := decide_eq_true hneg
    have HE : Hid (EndsPost u W N line (.mk 5 s [t1] (M : Nat) mx) i l (.returned (.slice (some ⟨G, 0, none⟩) N N)) w3) := ⟨G, N, _, l - 1, rfl, HR3.out, HG3.out, HWB3.out, by omega, fun h => by rw [sc_mk]; omega, fun _ => rfl, fun h => by omega⟩
    go_wp2
    go_ret
    exact HE.out
  have hd : decide (l - 1 < 0) = false := decide_eq_false hneg
  obtain ⟨m, hm⟩ : ∃ m : Nat, l - 1 = (m : Nat) := ⟨(l - 1).toNat, by omega⟩
  have HM : Hid (l - 1 = (m : Nat)) := hm
  rw [hm] at HWB3 k1 hd hneg ⊢
  have hm2 : m ≤ 20000 := by omega
  clear hm
  go_upto_region 5 with fail
  clear k1 hd hneg
  obtain ⟨y0, y1, y2, y3, y4, y5, y6, y7⟩ := HNA3.out.cells
  simp only at y0 y1 y2 y3 y4 y5 y6 y7
  obtain ⟨cg, fg⟩ := HR3.out.cell (i := i) (x := false) (by rw [List.getElem?_replicate, if_pos (by omega)])
  have hiN : (i : Int) < (N : Int) := by omega
  clear cg fg
  have hu3 : u.heap.size ≤ w3.heap.size := HG3.out.size
  go_upto_region 28 with (first | (refine wpList_make_bool rfl _ _ rfl u.heap.size N hu3 (by show _ = Value.int .i64 ((N : Nat) : Int); rw [← hNI]; rfl) (by show _ = Value.int .i64 ((N : Nat) : Int); rw [← hNI]; rfl) (by omega) ?_; intro w4 hr4 hb4; have HR4 : Hid (RowB w4 u.heap.size (.slice (some ⟨w3.heap.size, 0, none⟩) N N) (List.replicate N false)) := hr4; have HK4 : Hid (Below w3.heap.size w3 w4) := hb4; clear hr4 hb4) | fail)
  obtain ⟨G2, hG2⟩ : ∃ G2, w3.heap.size = G2 := ⟨_, rfl⟩
  rw [hG2] at HR4 ⊢
  have HGG : Hid (G2 ≠ G ∧ G2 ≠ W ∧ G2 ≠ A ∧ u.heap.size ≤ G2) := by have h1 := HR3.out.lt.1; have h2 := HWB3.out.lt; have h3 := HNA3.out.lt; exact ⟨by omega, by omega, by omega, by omega⟩
  have HO4 : Hid (RowB w4 u.heap.size (.slice (some ⟨G, 0, none⟩) N N) (List.replicate N false)) := HR3.out.same (HK4.out.block G HR3.out.lt.1)
  have HG4 : Hid (u.grownBy w4 (some W)) := gro_later HG3.out HK4.out
  have HN4 : Hid (NB w4 A ⟨5, s, a, 1, c, (M : Nat), mx⟩) := HNA3.out.later HK4.out
  have HW4 : Hid (WBk w4 W line m) := HWB3.out.later HK4.out
  clear hG2 HR3 HG3 HNA3 HWB3 HK4 hu3 y0 y1 y2 y3 y4 y5 y6 y7 k0
  obtain ⟨cg, fg⟩ := HR4.out.cell (i := i) (x := false) (by rw [List.getElem?_replicate, if_pos (by omega)])
  have HR5 : Hid (RowB (w4.setCell ⟨G2, i, none⟩ (.bool true)) u.heap.size (.slice (some ⟨G2, 0, none⟩) N N) ((List.replicate N false).set i true)) := HR4.out.put i true
  have HO5 : Hid (RowB (w4.setCell ⟨G2, i, none⟩ (.bool true)) u.heap.size (.slice (some ⟨G, 0, none⟩) N N) (List.replicate N false)) := HO4.out.same (Below.heap_setCell w4 ⟨G2, i, none⟩ _ G (fun e => HGG.out.1 (by have e2 : G = G2 := e; omega)))
  have HG5 : Hid (u.grownBy (w4.setCell ⟨G2, i, none⟩ (.bool true)) (some W)) := gro_new HG4.out (grown_one w4 G2 i _) HGG.out.2.2.2
  have HW5 : Hid (WBk (w4.setCell ⟨G2, i, none⟩ (.bool true)) W line m) := HW4.out.same (Below.heap_setCell w4 ⟨G2, i, none⟩ _ W (fun e => HGG.out.2.1 (by have e2 : W = G2 := e; omega)))
  have HN5 : Hid (NB (w4.setCell ⟨G2, i, none⟩ (.bool true)) A ⟨5, s, a, 1, c, (M : Nat), mx⟩) := (Below.heap_setCell w4 ⟨G2, i, none⟩ _ A (fun e => HGG.out.2.2.1 (by have e2 : A = G2 := e; omega))).trans HN4.out
  have HI5 : Hid (∀ j, bt ((List.replicate N false).set i true) j ↔ powR (Tk line t1) 0 i j) := fun j => by rw [bt_set (by simp; omega)]; simp [bt_rep, powR]
  clear HR4 HO4 HG4 HW4 HN4
  go_upto_region 29 with fail
  obtain ⟨w5, hw5⟩ : ∃ w5, w4.setCell ⟨G2, i, none⟩ (.bool true) = w5 := ⟨_, rfl⟩
  rw [hw5] at HR5 HO5 HG5 HW5 HN5 ⊢
  clear hw5 cg fg
  go_upto_block 5 with fail
  go_cut [10] (fun v10 v => ∃ (g c' : Nat) (bk : List Bool) (lk : Int), v10 = .slice (some ⟨g, 0, none⟩) N c' ∧ Hid (g ≠ G ∧ g ≠ W) ∧ Hid (RowB v u.heap.size (.slice (some ⟨g, 0, none⟩) N c') bk) ∧ Hid (RowB v u.heap.size (.slice (some ⟨G, 0, none⟩) N N) (List.replicate N false)) ∧ Hid (u.grownBy v (some W)) ∧ Hid (NB v A ⟨5, s, a, 1, c, (M : Nat), mx⟩) ∧ Hid (WBk v W line lk) ∧ Hid (lk ≤ m ∧ -((sc t1 : Int) + 9) ≤ lk) ∧ Hid (0 ≤ lk → ∀ j, bt bk j ↔ powR (Tk line t1) M i j))
  case first =>
    go_wp2_with fail
    go_loopw [10, 11] (fun v10 q v => ∃ (k g c' : Nat) (bk : List Bool) (lk : Int), v10 = .slice (some ⟨g, 0, none⟩) N c' ∧ q = .int .i64 (k : Nat) ∧ k ≤ M ∧ Hid (g ≠ G ∧ g ≠ W) ∧ Hid (RowB v u.heap.size (.slice (some ⟨g, 0, none⟩) N c') bk) ∧ Hid (RowB v u.heap.size (.slice (some ⟨G, 0, none⟩) N N) (List.replicate N false)) ∧ Hid (u.grownBy v (some W)) ∧ Hid (NB v A ⟨5, s, a, 1, c, (M : Nat), mx⟩) ∧ Hid (WBk v W line lk) ∧ Hid (lk ≤ m ∧ -((sc t1 : Int) + 9) ≤ lk) ∧ Hid (0 ≤ lk → ∀ j, bt bk j ↔ powR (Tk line t1) k i j)) (fun _ q _ => M - (intOf q).toNat)
    case atStart => exact ⟨0, G2, N, _, m, rfl, rfl, Nat.zero_le _, ⟨HGG.out.1, HGG.out.2.1⟩, HR5, HO5, HG5, HN5, HW5, ⟨Int.le_refl _, by omega⟩, fun _ => HI5.out⟩
    case round =>
      clear HR5 HO5 HG5 HN5 HW5 HI5
      obtain ⟨k, g, c', bk, lk, rfl, rfl, hk, HGE, HRk, HOk, HGk, HNk, HWk, HLk, HIk⟩ := hrel
      obtain ⟨y0, y1, y2, y3, y4, y5, y6, y7⟩ := HNk.out.cells
      simp only at y0 y1 y2 y3 y4 y5 y6 y7
      obtain ⟨k0, k1⟩ := HWk.out.cells
      by_cases hlt : k < M
      · have hlt' : (k : Int) < (M : Int) := by omega
        by_cases hpos : 0 ≤ lk
        · obtain ⟨mk, hmk⟩ : ∃ mk : Nat, lk = (mk : Nat) := ⟨lk.toNat, by omega⟩
          subst hmk
          have hdp : decide ((0 : Int) ≤ (mk : Int)) = true := decide_eq_true hpos
          have hLr : Below w0.heap.size w0 wr := HLW.out.1.trans (gro_below HGk.out HLW.out.2 HLW.out.1.size)
          obtain ⟨nb, off, hab, q0, q1, q2, q3, q4, q5, q6, q7⟩ := (HRO.out.keep (w' := wr) (Y := fun _ => True) (fun _ _ _ => trivial) (fun b hb hlt => hLr.block b hlt)).nth (i := 0) (x := yy) rfl
          subst hab
          simp only [Nat.zero_mul, Nat.add_zero] at q0 q1 q2 q3 q4 q5 q6 q7
          have HAC : Hid (Calls Tryz.prog 74 #[.pointer (some ⟨W, 0, none⟩), Nd.val yy, .slice (some ⟨g, 0, none⟩) N c'] wr (AllPost wr W N line t1 bk (mk : Nat))) := by
            have h := all_of HLW.out.2 HL9.out HS.out (by have := HSC.out; omega) wr g c' bk (mk : Nat) hLr HWk.out (by rw [← HRk.out.lt.2.1]; exact HN.out.symm) HRk.out.bat HGE.out.2 (by omega) (by have := HLk.out; omega)
            rw [HN.out] at h
            exact h
          unfold Nd.val at HAC
          clear hLr
          go_wp2_with fail
          refine HAC.out.mono ?_
          rintro e v3 ⟨g3, c3, b3, l3, rfl, hr3, hg3, hw3, hl3, hlo3, hneg3, hex3⟩
          have hWA := HAG.out
          have hgl := HOk.out.lt.1
          have HGE3 : Hid (g3 ≠ G ∧ g3 ≠ W) := by have h1 := hr3.lt.2.2; have h2 := HWk.out.lt; exact ⟨by omega, by omega⟩
          have HR3 : Hid (RowB v3 u.heap.size (.slice (some ⟨g3, 0, none⟩) N c3) b3) := rowB_lowS hr3 HGk.out.size
          have HO3 : Hid (RowB v3 u.heap.size (.slice (some ⟨G, 0, none⟩) N N) (List.replicate N false)) := HOk.out.same (hg3.block G hgl (fun e => by cases e; omega))
          have HG3 : Hid (u.grownBy v3 (some W)) := gro_trans HGk.out hg3
          have HN3 : Hid (NB v3 A ⟨5, s, some ⟨nb, off, none⟩, 1, c, (M : Nat), mx⟩) := (hg3.block A HNk.out.lt (fun e => by cases e; omega)).trans HNk.out
          have HW3 : Hid (WBk v3 W line l3) := hw3
          have HL3 : Hid (l3 ≤ m ∧ -((sc t1 : Int) + 9) ≤ l3) := ⟨by have := HLk.out; omega, hlo3 (by omega)⟩
          have HI3 : Hid (0 ≤ l3 → ∀ j, bt b3 j ↔ powR (Tk line t1) (k + 1) i j) := fun h0 j => by
            rw [hex3 h0 j, powR_add]
            constructor
            · rintro ⟨q, h1, h2⟩; exact ⟨q, (HIk.out (by omega) q).1 h1, (powR_one _ _ _).2 h2⟩
            · rintro ⟨q, h1, h2⟩; exact ⟨q, (HIk.out (by omega) q).2 h1, (powR_one _ _ _).1 h2⟩
          clear hr3 hg3 hw3 hl3 hlo3 hneg3 hex3 hWA hgl HAC HRk HOk HGk HNk HWk HLk HIk y0 y1 y2 y3 y4 y5 y6 y7 q0 q1 q2 q3 q4 q5 q6 q7 k0 k1 HGE hdp
          go_wp2
          go_roundw
          case rel => exact ⟨k + 1, g3, c3, b3, l3, rfl, by go_num, by omega, HGE3, HR3, HO3, HG3, HN3, HW3, HL3, HI3⟩
          case measure => simp [intOf]; omega
        · have hdp : decide ((0 : Int) ≤ lk) = false := decide_eq_false hpos
          have hpos2 : lk < 0 := by omega
          go_wp2_with fail
          go_meet
          case rel => exact ⟨g, c', bk, lk, rfl, HGE, HRk, HOk, HGk, HNk, HWk, HLk, fun h0 => by omega⟩
      · have hlt' : ¬ (k : Int) < (M : Int) := by omega
        have hdl : decide ((k : Int) < (M : Int)) = false := decide_eq_false hlt'
        have hkM : k = M := by omega
        have HIM : Hid (0 ≤ lk → ∀ j, bt bk j ↔ powR (Tk line t1) M i j) := by have h := HIk.out; rw [hkM] at h; exact h
        clear hkM
        go_wp2_with fail
        go_meet
        case rel => exact ⟨g, c', bk, lk, rfl, HGE, HRk, HOk, HGk, HNk, HWk, HLk, HIM⟩
  case rest =>
    obtain ⟨g, c', bk, lk, rfl, HGE, HRk, HOk, HGk, HNk, HWk, HLk, HIk⟩ := hcut
    have HJ : Hid (Calls Tryz.prog 75 #[.slice (some ⟨G, 0, none⟩) N N, .slice (some ⟨g, 0, none⟩) N c'] wc (JoinPost wc u.heap.size G N N (List.replicate N false) bk)) := ljoin_any wc HOk.out HRk.out.bat HRk.out.lt.2.1.symm HGE.out.1 (by omega)
    go_wp2_with fail
    refine HJ.out.mono ?_
    rintro e v4 ⟨rfl, hg4, b4, hr4, hj4⟩
    have hWA := HAG.out
    have hgk := HRk.out.lt.1
    have HO4 : Hid (RowB v4 u.heap.size (.slice (some ⟨G, 0, none⟩) N N) b4) := hr4
    have HR4 : Hid (RowB v4 u.heap.size (.slice (some ⟨g, 0, none⟩) N c') bk) := HRk.out.same (hg4.block g hgk (fun e => by cases e; exact HGE.out.1 rfl))
    have HG4 : Hid (u.grownBy v4 (some W)) := gro_new HGk.out hg4 hWA.2.2.1
    have HN4 : Hid (NB v4 A ⟨5, s, a, 1, c, (M : Nat), mx⟩) := (hg4.block A HNk.out.lt (fun e => by cases e; omega)).trans HNk.out
    have HW4 : Hid (WBk v4 W line lk) := HWk.out.same (hg4.block W HWk.out.lt (fun e => by cases e; omega))
    have HI4 : Hid (0 ≤ lk → ∀ j, bt b4 j ↔ ∃ r, M ≤ r ∧ r ≤ M + 0 ∧ powR (Tk line t1) r i j) := fun h0 j => by
      rw [hj4 j, HIk.out h0 j]
      constructor
      · rintro (h | h)
        · exact absurd h (bt_rep N j)
        · exact ⟨M, by omega, by omega, h⟩
      · rintro ⟨r, h1, h2, h3⟩
        have e : r = M := by omega
        rw [e] at h3
        exact Or.inr h3
    clear hr4 hg4 hj4 hWA hgk HJ HRk HOk HGk HNk HWk
    obtain ⟨y0, y1, y2, y3, y4, y5, y6, y7⟩ := HN4.out.cells
    simp only at y0 y1 y2 y3 y4 y5 y6 y7
    go_wp2_with fail
    clear y0 y1 y2 y3 y4 y5 y6 y7
    go_loopw [10, 12] (fun v10 q v => ∃ (k g c' : Nat) (bk bo : List Bool) (lk : Int), v10 = .slice (some ⟨g, 0, none⟩) N c' ∧ q = .int .i64 ((M + k : Nat) : Int) ∧ k ≤ N ∧ Hid (g ≠ G ∧ g ≠ W) ∧ Hid (RowB v u.heap.size (.slice (some ⟨g, 0, none⟩) N c') bk) ∧ Hid (RowB v u.heap.size (.slice (some ⟨G, 0, none⟩) N N) bo) ∧ Hid (u.grownBy v (some W)) ∧ Hid (NB v A ⟨5, s, a, 1, c, (M : Nat), mx⟩) ∧ Hid (WBk v W line lk) ∧ Hid (lk ≤ m ∧ -((sc t1 : Int) + 9) ≤ lk) ∧ Hid (mx = -1 ∨ ((M + k : Nat) : Int) ≤ mx) ∧ Hid (0 ≤ lk → (∀ j, bt bk j ↔ powR (Tk line t1) (M + k) i j) ∧ ∀ j, bt bo j ↔ ∃ r, M ≤ r ∧ r ≤ M + k ∧ powR (Tk line t1) r i j)) (fun _ q _ => M + N + 1 - (intOf q).toNat)
    case atStart => exact ⟨0, g, c', bk, b4, lk, rfl, rfl, Nat.zero_le _, HGE, HR4, HO4, HG4, HN4, HW4, HLk, HMX.out.imp id (fun h => by have := h.1; omega), fun h0 => ⟨HIk.out h0, HI4.out h0⟩⟩
    case round =>
      clear HR4 HO4 HG4 HN4 HW4 HI4 HIk HLk HGE
      obtain ⟨k, g, c', bk, bo, lk, rfl, rfl, hk, HGE, HRk, HOk, HGk, HNk, HWk, HLk, HMk, HIk⟩ := hrel
      obtain ⟨Mk, hMk⟩ : ∃ Mk, Mk = M + k := ⟨_, rfl⟩
      rw [← hMk]
      have HMK : Hid (Mk = M + k) := hMk
      have hMk255 : Mk ≤ 300 := by omega
      have hMkI : (M : Int) + (N : Int) = ((M + N : Nat) : Int) := by omega
      obtain ⟨MN, hMN⟩ : ∃ MN, MN = M + N := ⟨_, rfl⟩
      have hs1 : (M : Int) + (line.size : Int) + 1 = (MN : Nat) := by omega
      have hMN300 : MN ≤ 300 := by omega
      have HMN : Hid (MN = M + N ∧ k ≤ N) := ⟨hMN, hk⟩
      clear hMk hMkI hMN
      obtain ⟨ct, hct⟩ : ∃ ct : Bool, ct = (decide ((Mk : Int) ≠ mx) && decide (Mk < MN) && decide (0 ≤ lk)) := ⟨_, rfl⟩
      have HCT : Hid (ct = (decide ((Mk : Int) ≠ mx) && decide (Mk < MN) && decide (0 ≤ lk))) := hct
      clear hct
      have HNL : Hid (∀ v : Later wr, NB v.at_ A ⟨5, s, a, 1, c, (M : Nat), mx⟩) := fun v => (v.below.block A HNk.out.lt).trans HNk.out
      have HWL : Hid (∀ v : Later wr, WBk v.at_ W line lk) := fun v => HWk.out.later v.below
      have g1 : ∀ v : Later wr, v.at_.cell? ⟨A, 6, none⟩ = some (.int .i64 (M : Nat)) := fun v => (HNL.out v).cells.2.2.2.2.2.2.1
      have g2 : ∀ v : Later wr, v.at_.cell? ⟨A, 7, none⟩ = some (.int .i64 mx) := fun v => (HNL.out v).cells.2.2.2.2.2.2.2
      have g5 : ∀ v : Later wr, v.at_.cell? ⟨W, 0, none⟩ = some (.string line) := fun v => (HWL.out v).cells.1
      have g6 : ∀ v : Later wr, v.at_.cell? ⟨W, 1, none⟩ = some (.int .i64 lk) := fun v => (HWL.out v).cells.2
      have hne : Nonempty (Later wr) := ⟨⟨wr, Below.refl _ _⟩⟩
      go_upto_region 35 with fail
      go_cut [182] (fun v wx => v = .bool ct ∧ Hid (Below wr.heap.size wr wx))
      case first =>
        by_cases h1 : (Mk : Int) = mx
        · have e1 : ((Mk : Int) != mx) = false := by simp [h1]
          have e2 : ct = false := by rw [HCT.out]; simp [h1]
          clear h1
          refine wp_region_later (by kernel_rfl) (by kernel_rfl) ?_
          repeat (first
            | go_big_quiet_step (fail)
            | quiet_step (fail)
            | (refine wpQuiet_step (fun K hK => ?_); go_simp; first | (refine ⟨_, fun _ => rfl, hK _ ?_⟩; clear hK K) | (refine hK _ ?_; clear hK K)))
          refine wpQuiet_nil ?_
          intro _ hw'
          obtain ⟨v, hw''⟩ := hw'
          subst hw''
          go_wp2_with fail
          go_meet
          case rel => exact ⟨by rw [e2], v.below⟩
        · have e1 : ((Mk : Int) != mx) = true := by simp [h1]
          by_cases h2 : Mk < MN
          · have e2 : decide ((Mk : Int) < (MN : Int)) = true := by simp; omega
            have e2b : decide (Mk < MN) = true := by simp; omega
            by_cases h3 : 0 ≤ lk
            · have e3 : decide (0 ≤ lk) = true := decide_eq_true h3
              have e4 : ct = true := by rw [HCT.out]; simp [h1, h2, h3]
              clear h1
              refine wp_region_later (by kernel_rfl) (by kernel_rfl) ?_
              repeat (first
                | go_big_quiet_step (fail)
                | quiet_step (fail)
                | (refine wpQuiet_step (fun K hK => ?_); go_simp; first | (refine ⟨_, fun _ => rfl, hK _ ?_⟩; clear hK K) | (refine hK _ ?_; clear hK K)))
              refine wpQuiet_nil ?_
              intro _ hw'
              obtain ⟨v, hw''⟩ := hw'
              subst hw''
              go_wp2_with fail
              go_meet
              case rel => exact ⟨by rw [e4], v.below⟩
            · have e3 : decide (0 ≤ lk) = false := decide_eq_false h3
              have e4 : ct = false := by rw [HCT.out]; simp [h3]
              clear h1
              refine wp_region_later (by kernel_rfl) (by kernel_rfl) ?_
              repeat (first
                | go_big_quiet_step (fail)
                | quiet_step (fail)
                | (refine wpQuiet_step (fun K hK => ?_); go_simp; first | (refine ⟨_, fun _ => rfl, hK _ ?_⟩; clear hK K) | (refine hK _ ?_; clear hK K)))
              refine wpQuiet_nil ?_
              intro _ hw'
              obtain ⟨v, hw''⟩ := hw'
              subst hw''
              go_wp2_with fail
              go_meet
              case rel => exact ⟨by rw [e4], v.below⟩
          · have e2 : decide ((Mk : Int) < (MN : Int)) = false := by simp; omega
            have e2b : decide (Mk < MN) = false := by simp; omega
            have e4 : ct = false := by rw [HCT.out]; simp [h2]
            clear h1
            refine wp_region_later (by kernel_rfl) (by kernel_rfl) ?_
            repeat (first
              | go_big_quiet_step (fail)
              | quiet_step (fail)
              | (refine wpQuiet_step (fun K hK => ?_); go_simp; first | (refine ⟨_, fun _ => rfl, hK _ ?_⟩; clear hK K) | (refine hK _ ?_; clear hK K)))
            refine wpQuiet_nil ?_
            intro _ hw'
            obtain ⟨v, hw''⟩ := hw'
            subst hw''
            go_wp2_with fail
            go_meet
            case rel => exact ⟨by rw [e4], v.below⟩
      case rest =>
        obtain ⟨rfl, HKx⟩ := hcut
        clear g1 g2 g5 g6 hne HNL HWL
        have HRx : Hid (RowB wc u.heap.size (.slice (some ⟨g, 0, none⟩) N c') bk) := HRk.out.same (HKx.out.block g HRk.out.lt.1)
        have HOx : Hid (RowB wc u.heap.size (.slice (some ⟨G, 0, none⟩) N N) bo) := HOk.out.same (HKx.out.block G HOk.out.lt.1)
        have HGx : Hid (u.grownBy wc (some W)) := gro_later HGk.out HKx.out
        have HNx : Hid (NB wc A ⟨5, s, a, 1, c, (M : Nat), mx⟩) := HNk.out.later HKx.out
        have HWx : Hid (WBk wc W line lk) := HWk.out.later HKx.out
        clear HRk HOk HGk HNk HWk HKx
        cases ct with
        | true =>
          have hcc := HCT.out.symm
          simp only [Bool.and_eq_true, decide_eq_true_eq] at hcc
          obtain ⟨⟨hc1, hc2⟩, hc3⟩ := hcc
          obtain ⟨mk, hmk⟩ : ∃ mk : Nat, lk = (mk : Nat) := ⟨lk.toNat, by omega⟩
          subst hmk
          have HC1 : Hid ((Mk : Int) ≠ mx) := hc1
          clear hc1
          have hLr : Below w0.heap.size w0 wc := HLW.out.1.trans (gro_below HGx.out HLW.out.2 HLW.out.1.size)
          obtain ⟨nb, off, hab, q0, q1, q2, q3, q4, q5, q6, q7⟩ := (HRO.out.keep (w' := wc) (Y := fun _ => True) (fun _ _ _ => trivial) (fun b hb hlt => hLr.block b hlt)).nth (i := 0) (x := yy) rfl
          subst hab
          simp only [Nat.zero_mul, Nat.add_zero] at q0 q1 q2 q3 q4 q5 q6 q7
          obtain ⟨y0, y1, y2, y3, y4, y5, y6, y7⟩ := HNx.out.cells
          simp only at y0 y1 y2 y3 y4 y5 y6 y7
          have HAC : Hid (Calls Tryz.prog 74 #[.pointer (some ⟨W, 0, none⟩), Nd.val yy, .slice (some ⟨g, 0, none⟩) N c'] wc (AllPost wc W N line t1 bk (mk : Nat))) := by
            have h := all_of HLW.out.2 HL9.out HS.out (by have := HSC.out; omega) wc g c' bk (mk : Nat) hLr HWx.out (by rw [← HRx.out.lt.2.1]; exact HN.out.symm) HRx.out.bat HGE.out.2 (by omega) (by have := HLk.out; omega)
            rw [HN.out] at h
            exact h
          unfold Nd.val at HAC
          clear hLr
          go_wp2_with fail
          refine HAC.out.mono ?_
          rintro e v3 ⟨g3, c3, b3, l3, rfl, hr3, hg3, hw3, hl3, hlo3, hneg3, hex3⟩
          have hWA := HAG.out
          have hgl := HOx.out.lt.1
          have HGE3 : Hid (g3 ≠ G ∧ g3 ≠ W) := by have h1 := hr3.lt.2.2; have h2 := HWx.out.lt; exact ⟨by omega, by omega⟩
          have HR3 : Hid (RowB v3 u.heap.size (.slice (some ⟨g3, 0, none⟩) N c3) b3) := rowB_lowS hr3 HGx.out.size
          have HO3 : Hid (RowB v3 u.heap.size (.slice (some ⟨G, 0, none⟩) N N) bo) := HOx.out.same (hg3.block G hgl (fun e => by cases e; omega))
          have HG3 : Hid (u.grownBy v3 (some W)) := gro_trans HGx.out hg3
          have HN3 : Hid (NB v3 A ⟨5, s, some ⟨nb, off, none⟩, 1, c, (M : Nat), mx⟩) := (hg3.block A HNx.out.lt (fun e => by cases e; omega)).trans HNx.out
          have HW3 : Hid (WBk v3 W line l3) := hw3
          have HL3 : Hid (l3 ≤ m ∧ -((sc t1 : Int) + 9) ≤ l3) := ⟨by have := HLk.out; omega, hlo3 (by omega)⟩
          have HI3 : Hid (0 ≤ l3 → ∀ j, bt b3 j ↔ powR (Tk line t1) (M + (k + 1)) i j) := fun h0 j => by
            rw [hex3 h0 j, ← Nat.add_assoc, powR_add]
            constructor
            · rintro ⟨q, h1, h2⟩; exact ⟨q, ((HIk.out (by omega)).1 q).1 h1, (powR_one _ _ _).2 h2⟩
            · rintro ⟨q, h1, h2⟩; exact ⟨q, ((HIk.out (by omega)).1 q).2 h1, (powR_one _ _ _).1 h2⟩
          have HJ : Hid (Calls Tryz.prog 75 #[.slice (some ⟨G, 0, none⟩) N N, .slice (some ⟨g3, 0, none⟩) N c3] v3 (JoinPost v3 u.heap.size G N N bo b3)) := ljoin_any v3 HO3.out HR3.out.bat hr3.lt.2.1.symm HGE3.out.1 (by omega)
          clear hr3 hg3 hw3 hl3 hlo3 hneg3 hex3 hWA hgl HAC HRx HOx HGx HNx HWx HLk y0 y1 y2 y3 y4 y5 y6 y7 q0 q1 q2 q3 q4 q5 q6 q7 HGE
          go_wp2_with fail
          refine HJ.out.mono ?_
          rintro e v4 ⟨rfl, hg4, b4, hr4, hj4⟩
          have hWA := HAG.out
          have hgk := HR3.out.lt.1
          have HO4 : Hid (RowB v4 u.heap.size (.slice (some ⟨G, 0, none⟩) N N) b4) := hr4
          have HR4 : Hid (RowB v4 u.heap.size (.slice (some ⟨g3, 0, none⟩) N c3) b3) := HR3.out.same (hg4.block g3 hgk (fun e => by cases e; exact HGE3.out.1 rfl))
          have HG4 : Hid (u.grownBy v4 (some W)) := gro_new HG3.out hg4 hWA.2.2.1
          have HN4 : Hid (NB v4 A ⟨5, s, some ⟨nb, off, none⟩, 1, c, (M : Nat), mx⟩) := (hg4.block A HN3.out.lt (fun e => by cases e; omega)).trans HN3.out
          have HW4 : Hid (WBk v4 W line l3) := HW3.out.same (hg4.block W HW3.out.lt (fun e => by cases e; omega))
          have HI4 : Hid (0 ≤ l3 → (∀ j, bt b3 j ↔ powR (Tk line t1) (M + (k + 1)) i j) ∧ ∀ j, bt b4 j ↔ ∃ r, M ≤ r ∧ r ≤ M + (k + 1) ∧ powR (Tk line t1) r i j) := fun h0 => ⟨HI3.out h0, fun j => by
            rw [hj4 j, HI3.out h0 j, (HIk.out (by omega)).2 j]
            constructor
            · rintro (⟨r, h1, h2, h3⟩ | h)
              · exact ⟨r, h1, by omega, h3⟩
              · exact ⟨_, by omega, Nat.le_refl _, h⟩
            · rintro ⟨r, h1, h2, h3⟩
              by_cases er : r = M + (k + 1)
              · rw [er] at h3; exact Or.inr h3
              · exact Or.inl ⟨r, h1, by omega, h3⟩⟩
          have HM4 : Hid (mx = -1 ∨ ((M + (k + 1) : Nat) : Int) ≤ mx) := by
            have h1 := HC1.out
            have h2 := HMK.out
            rcases HMk.out with h | h
            · exact Or.inl h
            · refine Or.inr ?_; omega
          have HKN : Hid (k + 1 ≤ N) := by have h1 := HMN.out; have h2 := HMK.out; show _ ≤ _; omega
          have hMk1 : (Mk : Int) + 1 = ((M + (k + 1) : Nat) : Int) := by have := HMK.out; omega
          have HMI : Hid ((Mk : Int) + 1 = ((M + (k + 1) : Nat) : Int)) := hMk1
          clear hr4 hg4 hj4 hWA hgk HJ HR3 HO3 HG3 HN3 HW3 HIk HI3
          go_wp2
          go_roundw
          case rel => exact ⟨k + 1, g3, c3, b3, b4, l3, rfl, by first | rfl | (rw [← HMI.out]), HKN.out, HGE3, HR4, HO4, HG4, HN4, HW4, HL3, HM4, HI4⟩
          case measure => simp [intOf]; have h1 := HMK.out; have h2 := HKN.out; omega
        | false =>
          have HE : Hid (EndsPost u W N line (.mk 5 s [t1] (M : Nat) mx) i l (.returned (.slice (some ⟨G, 0, none⟩) N N)) wc) := by
            have h1 := HLk.out
            have h2 := HM.out
            refine ⟨G, N, bo, lk, rfl, HOx.out, HGx.out, HWx.out, by omega, fun _ => by rw [sc_mk]; simp only [sc.scs]; omega, fun h => by omega, fun h0 j => ?_⟩
            rw [(HIk.out h0).2 j]
            have htk : Tk line (.mk 5 s [t1] (M : Nat) mx) i j ↔ ∃ n : Nat, ((M : Nat) : Int) ≤ n ∧ (mx = -1 ∨ (n : Int) ≤ mx) ∧ powR (Tk line t1) n i j := by
              rw [Tk]
              simp only [show (5 : Int) ≠ 1 by decide, show (5 : Int) ≠ 2 by decide, show (5 : Int) ≠ 3 by decide, show (5 : Int) ≠ 4 by decide, if_false, if_true]
              have e : TkH line [t1] = Tk line t1 := by funext a b; rw [TkH]
              rw [e]
            rw [htk, times_few (tk_goes t1) hi]
            have hcf := HCT.out.symm
            have hkN := HMN.out
            have hMK := HMK.out
            have hNn := HN.out
            have hor : (Mk : Int) = mx ∨ ¬ Mk < MN := by
              by_cases e1 : (Mk : Int) = mx
              · exact Or.inl e1
              · refine Or.inr fun e2 => ?_
                simp [e1, e2, h0] at hcf
            constructor
            · rintro ⟨r, a1, a2, a3⟩
              exact ⟨r, a1, by omega, by rcases HMk.out with h | h; exact Or.inl h; exact Or.inr (by omega), a3⟩
            · rintro ⟨r, a1, a2, a3, a4⟩
              exact ⟨r, a1, by omega, a4⟩
          obtain ⟨y0, y1, y2, y3, y4, y5, y6, y7⟩ := HNx.out.cells
          simp only at y0 y1 y2 y3 y4 y5 y6 y7
          go_wp2
          go_ret
          exact HE.out
end Go.Proofs.YtmjnobdlgbojoaaGreatDoor
