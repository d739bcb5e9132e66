
import Derived.Test.YtmjnobdlgbojoaaGreatDoorG32
import Derived.Test.YtmjnobdlgbojoaaGreatDoorG01
namespace Go.Proofs.YtmjnobdlgbojoaaGreatDoor
open Go.RowKit
attribute [local go_sem ↓] Go.wp_at_zero Go.wp_at_succ
set_option maxRecDepth 4000 in
set_option maxHeartbeats 16000000 in
theorem lends_3 {w0 : World} {W : Nat} {line : ByteArray} (hW : w0.heap.size ≤ W) (hl9 : line.size ≤ 8) {s : Oct.S} {subs : List Tn} {mn mx : Int} {a : Option Addr} {n c : Nat} {vs : List Nd} (hn : n = subs.length) (hvl : vs.length = n) (hm0 : n ≤ 1000000) (hr : RowAt (fun _ => True) w0 a vs) (hs : ∀ (i : Nat) (t : Tn) (v : Nd), subs[i]? = some t → vs[i]? = some v → EndsV w0 W line t v) (hsc : sc (.mk 3 s subs mn mx) ≤ 1000000000) : EndsV w0 W line (.mk 3 s subs mn mx) ⟨3, s, a, n, c, mn, mx⟩ := by
  intro u i l hlow hwb hi hl1 hl2
  obtain ⟨N, hN⟩ : ∃ N, line.size + 1 = N := ⟨_, rfl⟩
  rw [hN]
  have hNI : (line.size : Int) + 1 = (N : Nat) := by omega
  have hN9 : N ≤ 9 := by omega
  have HN : Hid (line.size + 1 = N) := hN
  have kk : Below u.heap.size u (u.alloc (.cells #[.int .i64 3, .int .u64 (Oct.word s 0 : Nat), .int .u64 (Oct.word s 1 : Nat), .int .u64 (Oct.word s 2 : Nat), .int .u64 (Oct.word s 3 : Nat), .slice a n c, .int .i64 mn, .int .i64 mx] 30)) := (Below.refl _ _).alloc (Nat.le_refl _) _
  have HNA : Hid (NB (u.alloc (.cells #[.int .i64 3, .int .u64 (Oct.word s 0 : Nat), .int .u64 (Oct.word s 1 : Nat), .int .u64 (Oct.word s 2 : Nat), .int .u64 (Oct.word s 3 : Nat), .slice a n c, .int .i64 mn, .int .i64 mx] 30)) u.heap.size ⟨3, s, a, n, c, mn, mx⟩) := nb_new u ⟨3, s, a, n, c, mn, mx⟩
  have HG : Hid (u.grownBy (u.alloc (.cells #[.int .i64 3, .int .u64 (Oct.word s 0 : Nat), .int .u64 (Oct.word s 1 : Nat), .int .u64 (Oct.word s 2 : Nat), .int .u64 (Oct.word s 3 : Nat), .slice a n c, .int .i64 mn, .int .i64 mx] 30)) (some W)) := gro_later (grown_rfl _ _) kk
  have HWB : Hid (WBk (u.alloc (.cells #[.int .i64 3, .int .u64 (Oct.word s 0 : Nat), .int .u64 (Oct.word s 1 : Nat), .int .u64 (Oct.word s 2 : Nat), .int .u64 (Oct.word s 3 : Nat), .slice a n c, .int .i64 mn, .int .i64 mx] 30)) W line l) := hwb.later kk
  have HGF : Hid (W < u.heap.size) := hwb.lt
  have HUS : Hid (u.heap.size ≤ (u.alloc (.cells #[.int .i64 3, .int .u64 (Oct.word s 0 : Nat), .int .u64 (Oct.word s 1 : Nat), .int .u64 (Oct.word s 2 : Nat), .int .u64 (Oct.word s 3 : Nat), .slice a n c, .int .i64 mn, .int .i64 mx] 30)).heap.size) := kk.size
  obtain ⟨w1, hw1⟩ : ∃ w1, u.alloc (.cells #[.int .i64 3, .int .u64 (Oct.word s 0 : Nat), .int .u64 (Oct.word s 1 : Nat), .int .u64 (Oct.word s 2 : Nat), .int .u64 (Oct.word s 3 : Nat), .slice a n c, .int .i64 mn, .int .i64 mx] 30) = w1 := ⟨_, rfl⟩
  rw [hw1] at HNA HG HWB HUS
  obtain ⟨A, hA⟩ : ∃ A, u.heap.size = A := ⟨_, rfl⟩
  rw [hA] at HNA
  have HW1 : Hid (u.alloc (.cells #[.int .i64 3, .int .u64 (Oct.word s 0 : Nat), .int .u64 (Oct.word s 1 : Nat), .int .u64 (Oct.word s 2 : Nat), .int .u64 (Oct.word s 3 : Nat), .slice a n c, .int .i64 mn, .int .i64 mx] 30) = w1) := hw1
  have HAA : Hid (u.heap.size = A) := hA
  have HLW : Hid (Below w0.heap.size w0 u ∧ w0.heap.size ≤ W) := ⟨hlow, hW⟩
  have HRO : Hid (RowAt (fun _ => True) w0 a vs) := hr
  have HS : Hid (∀ (i : Nat) (t : Tn) (v : Nd), subs[i]? = some t → vs[i]? = some v → EndsV w0 W line t v) := hs
  have HNN : Hid (n = subs.length ∧ vs.length = n) := ⟨hn, hvl⟩
  rw [sc_mk] at hsc
  have HSC : Hid (1 + sc.scs subs ≤ 1000000000) := hsc
  have HL9 : Hid (line.size ≤ 8) := hl9
  clear hr hs hn hvl hsc
  clear hw1 hA hlow kk hwb hW hN
  unfold Nd.val
  simp only
  go_enter Tryz.func55, Tryz.ntmps55
  go_upto_region 1 with fail
  rw [HW1.out, HAA.out]
  clear HW1
  obtain ⟨k0, k1⟩ := HWB.out.cells
  go_upto_region 2 with (first | (refine wpList_make_bool rfl _ _ rfl u.heap.size N HUS.out (by show _ = Value.int .i64 ((N : Nat) : Int); rw [← hNI]; rfl) (by show _ = Value.int .i64 ((N : Nat) : Int); rw [← hNI]; rfl) (by omega) ?_; intro w2 hr2 hb2; have HR2 : Hid (RowB w2 u.heap.size (.slice (some ⟨w1.heap.size, 0, none⟩) N N) (List.replicate N false)) := hr2; have HK2 : Hid (Below w1.heap.size w1 w2) := hb2; clear hr2 hb2) | fail)
  clear k0 k1
  obtain ⟨G, hG⟩ : ∃ G, w1.heap.size = G := ⟨_, rfl⟩
  rw [hG] at HR2 ⊢
  have HAG : Hid (A < G ∧ W < A ∧ u.heap.size ≤ G ∧ u.heap.size = A) := by have h1 := HNA.out.lt; have h2 := HGF.out; have h3 := HAA.out; exact ⟨by omega, by omega, by omega, by omega⟩
  have HNA2 : Hid (NB w2 A ⟨3, s, a, n, c, mn, mx⟩) := HNA.out.later HK2.out
  have HG2 : Hid (u.grownBy w2 (some W)) := gro_later HG.out HK2.out
  have HWB2 : Hid (WBk w2 W line l) := HWB.out.later HK2.out
  clear hG HNA HG HK2 HWB HUS HGF HAA
  obtain ⟨k0, k1⟩ := HWB2.out.cells
  have f1 := HWB2.out.frozen 1
  have hlw : IntKind.i64.wrap (l - 1) = l - 1 := by rw [IntKind.wrap_i64]; omega
  have HWB3 : Hid (WBk (w2.setCell ⟨W, 1, none⟩ (.int .i64 (l - 1))) W line (l - 1)) := HWB2.out.set _
  have HG3 : Hid (u.grownBy (w2.setCell ⟨W, 1, none⟩ (.int .i64 (l - 1))) (some W)) := gro_set HG2.out 1 _
  have HNA3 : Hid (NB (w2.setCell ⟨W, 1, none⟩ (.int .i64 (l - 1))) A ⟨3, s, a, n, c, mn, mx⟩) := (Below.heap_setCell w2 ⟨W, 1, none⟩ _ A (fun e => by have := HAG.out; have e2 : A = W := e; omega)).trans HNA2.out
  have HR3 : Hid (RowB (w2.setCell ⟨W, 1, none⟩ (.int .i64 (l - 1))) u.heap.size (.slice (some ⟨G, 0, none⟩) N N) (List.replicate N false)) := HR2.out.same (Below.heap_setCell w2 ⟨W, 1, none⟩ _ G (fun e => by have := HAG.out; have e2 : G = W := e; omega))
  clear HWB2 HG2 HNA2 HR2
  go_upto_region 3 with fail
  obtain ⟨w3, hw3⟩ : ∃ w3, w2.setCell ⟨W, 1, none⟩ (.int .i64 (l - 1)) = w3 := ⟨_, rfl⟩
  rw [hw3] at HWB3 HG3 HNA3 HR3 ⊢
  clear hw3 k0 k1 f1 hlw
  obtain ⟨k0, k1⟩ := HWB3.out.cells
  by_cases hneg : l - 1 < 0
  · have hd : decide (l - 1 < 0) = true := decide_eq_true hneg
    have HE : Hid (EndsPost u W N line (.mk 3 s subs mn mx) i l (.returned (.slice (some ⟨G, 0, none⟩) N N)) w3) := ⟨G, N, _, l - 1, rfl, HR3.out, HG3.out, HWB3.out, by omega, fun h => by rw [sc_mk]; omega, fun _ => rfl, fun h => by omega⟩
    go_wp2
    go_ret
    exact HE.out
  have hd : decide (l - 1 < 0) = false := decide_eq_false hneg
  obtain ⟨m, hm⟩ : ∃ m : Nat, l - 1 = (m : Nat) := ⟨(l - 1).toNat, by omega⟩
  have HM : Hid (l - 1 = (m : Nat)) := hm
  rw [hm] at HWB3 k1 hd hneg ⊢
  have hm2 : m ≤ 20000 := by omega
  clear hm
  go_upto_region 5 with fail
  clear k1 hd hneg
  obtain ⟨y0, y1, y2, y3, y4, y5, y6, y7⟩ := HNA3.out.cells
  simp only at y0 y1 y2 y3 y4 y5 y6 y7
  obtain ⟨cg, fg⟩ := HR3.out.cell (i := i) (x := false) (by rw [List.getElem?_replicate, if_pos (by omega)])
  have hiN : (i : Int) < (N : Int) := by omega
  have HR4 : Hid (RowB (w3.setCell ⟨G, i, none⟩ (.bool true)) u.heap.size (.slice (some ⟨G, 0, none⟩) N N) ((List.replicate N false).set i true)) := HR3.out.put i true
  have HG4 : Hid (u.grownBy (w3.setCell ⟨G, i, none⟩ (.bool true)) (some W)) := gro_new HG3.out (grown_one w3 G i _) HAG.out.2.2.1
  have HW4 : Hid (WBk (w3.setCell ⟨G, i, none⟩ (.bool true)) W line m) := HWB3.out.same (Below.heap_setCell w3 ⟨G, i, none⟩ _ W (fun e => by have := HAG.out; have e2 : W = G := e; omega))
  have HN4 : Hid (NB (w3.setCell ⟨G, i, none⟩ (.bool true)) A ⟨3, s, a, n, c, mn, mx⟩) := (Below.heap_setCell w3 ⟨G, i, none⟩ _ A (fun e => by have := HAG.out; have e2 : A = G := e; omega)).trans HNA3.out
  have HI4 : Hid (∀ j, bt ((List.replicate N false).set i true) j ↔ TkS line (subs.take 0) i j) := fun j => by rw [bt_set (by simp; omega), List.take_zero, TkS]; simp [bt_rep]
  clear HR3 HG3 HWB3 HNA3
  go_upto_region 17 with fail
  obtain ⟨w4, hw4⟩ : ∃ w4, w3.setCell ⟨G, i, none⟩ (.bool true) = w4 := ⟨_, rfl⟩
  rw [hw4] at HR4 HG4 HW4 HN4 ⊢
  clear hw4 y0 y1 y2 y3 y4 y5 y6 y7 k0 cg fg
  go_wp2_with fail
  go_loopw [7, 8] (fun v7 q v => ∃ (k g c' : Nat) (bk : List Bool) (lk : Int), v7 = .slice (some ⟨g, 0, none⟩) N c' ∧ q = .int .i64 (k : Nat) ∧ k ≤ n ∧ Hid (RowB v u.heap.size (.slice (some ⟨g, 0, none⟩) N c') bk) ∧ Hid (u.grownBy v (some W)) ∧ Hid (NB v A ⟨3, s, a, n, c, mn, mx⟩) ∧ Hid (WBk v W line lk) ∧ Hid (lk ≤ m ∧ -(sc.scs (subs.take k) : Int) ≤ lk) ∧ Hid (0 ≤ lk → ∀ j, bt bk j ↔ TkS line (subs.take k) i j)) (fun _ q _ => n - (intOf q).toNat)
  case atStart => exact ⟨0, G, N, _, m, rfl, rfl, Nat.zero_le _, HR4, HG4, HN4, HW4, ⟨Int.le_refl _, by omega⟩, fun _ => HI4.out⟩
  case round =>
    clear HR4 HG4 HN4 HW4 HI4
    obtain ⟨k, g, c', bk, lk, rfl, rfl, hk, HRk, HGk, HNk, HWk, HLk, HIk⟩ := hrel
    by_cases hlt : k < n
    · have hlt' : (k : Int) < (n : Int) := by omega
      obtain ⟨t, ht⟩ : ∃ t, subs[k]? = some t := ⟨_, List.getElem?_eq_getElem (by have := HNN.out; omega)⟩
      obtain ⟨y, hy⟩ : ∃ y, vs[k]? = some y := ⟨_, List.getElem?_eq_getElem (by have := HNN.out; omega)⟩
      have hLr : Below w0.heap.size w0 wr := HLW.out.1.trans (gro_below HGk.out HLW.out.2 HLW.out.1.size)
      have HLr : Hid (Below w0.heap.size w0 wr) := hLr
      obtain ⟨nb, off, hab, q0, q1, q2, q3, q4, q5, q6, q7⟩ := (HRO.out.keep (w' := wr) (Y := fun _ => True) (fun _ _ _ => trivial) (fun b hb hlt => hLr.block b hlt)).nth hy
      have HSV : Hid (EndsV w0 W line t y) := HS.out k t y ht hy
      have HT : Hid (subs[k]? = some t) := ht
      subst hab
      clear ht hy hLr
      obtain ⟨y0, y1, y2, y3, y4, y5, y6, y7⟩ := HNk.out.cells
      simp only at y0 y1 y2 y3 y4 y5 y6 y7
      have hscT := scs_take HT.out
      have hAL := HLk.out
      have hgW : g ≠ W := by have h1 := HRk.out.lt.2.2; have h2 := HAG.out; omega
      have HAC : Hid (Calls Tryz.prog 74 #[.pointer (some ⟨W, 0, none⟩), Nd.val y, .slice (some ⟨g, 0, none⟩) N c'] wr (AllPost wr W N line t bk lk)) := by
        have h := all_of HLW.out.2 HL9.out HSV.out (by have := HSC.out; have := scs_le (subs := subs) (k + 1); omega) wr g c' bk lk HLr.out HWk.out (by rw [← HRk.out.lt.2.1]; exact HN.out.symm) HRk.out.bat hgW (by have := HSC.out; have := scs_le (subs := subs) k; omega) (by omega)
        rw [HN.out] at h
        exact h
      unfold Nd.val at HAC
      clear hscT hAL hgW
      go_wp2_with fail
      refine HAC.out.mono ?_
      rintro e v3 ⟨g3, c3, b3, l3, rfl, hr3, hg3, hw3, hl3, hlo3, hneg3, hex3⟩
      have hWA := HAG.out
      have HR3 : Hid (RowB v3 u.heap.size (.slice (some ⟨g3, 0, none⟩) N c3) b3) := rowB_lowS hr3 HGk.out.size
      have HG3 : Hid (u.grownBy v3 (some W)) := gro_trans HGk.out hg3
      have HN3 : Hid (NB v3 A ⟨3, s, some ⟨nb, off, none⟩, n, c, mn, mx⟩) := (hg3.block A HNk.out.lt (fun e => by cases e; omega)).trans HNk.out
      have HW3 : Hid (WBk v3 W line l3) := hw3
      have HL3 : Hid (l3 ≤ m ∧ -(sc.scs (subs.take (k + 1)) : Int) ≤ l3) := by
        have h1 := HLk.out
        have h2 := scs_take HT.out
        refine ⟨by omega, ?_⟩
        by_cases h0 : 0 ≤ lk
        · have := hlo3 h0; omega
        · have := hneg3 (by omega); omega
      have HI3 : Hid (0 ≤ l3 → ∀ j, bt b3 j ↔ TkS line (subs.take (k + 1)) i j) := fun h0 j => by
        rw [hex3 h0 j, tkS_take HT.out]
        constructor
        · rintro ⟨q, h1, h2⟩; exact ⟨q, (HIk.out (by omega) q).1 h1, h2⟩
        · rintro ⟨q, h1, h2⟩; exact ⟨q, (HIk.out (by omega) q).2 h1, h2⟩
      clear hr3 hg3 hw3 hl3 hlo3 hneg3 hex3 hWA HAC HRk HGk HNk HWk HLk HIk y0 y1 y2 y3 y4 y5 y6 y7 q0 q1 q2 q3 q4 q5 q6 q7
      go_wp2
      go_roundw
      case rel => exact ⟨k + 1, g3, c3, b3, l3, rfl, by go_num, by omega, HR3, HG3, HN3, HW3, HL3, HI3⟩
      case measure => simp [intOf]; omega
    · have hlt' : ¬ (k : Int) < (n : Int) := by omega
      have hkn : k = n := by omega
      obtain ⟨y0, y1, y2, y3, y4, y5, y6, y7⟩ := HNk.out.cells
      simp only at y0 y1 y2 y3 y4 y5 y6 y7
      have HE : Hid (EndsPost u W N line (.mk 3 s subs mn mx) i l (.returned (.slice (some ⟨g, 0, none⟩) N c')) wr) := by
        have htk : subs.take k = subs := List.take_of_length_le (by have := HNN.out; omega)
        have h1 := HLk.out
        have h2 := HM.out
        have h3 := HIk.out
        rw [htk] at h1 h3
        refine ⟨g, c', bk, lk, rfl, HRk.out, HGk.out, HWk.out, by omega, fun _ => by rw [sc_mk]; omega, fun h => by omega, fun h0 j => ?_⟩
        rw [h3 h0 j, Tk]
        simp
      clear hkn
      go_wp2
      go_ret
      exact HE.out
end Go.Proofs.YtmjnobdlgbojoaaGreatDoor


namespace Go.Proofs.YtmjnobdlgbojoaaGreatDoor
open Go.RowKit
attribute [local go_sem ↓] Go.wp_at_zero Go.wp_at_succ
set_option maxRecDepth 4000 in
set_option maxHeartbeats 16000000 in
theorem lends_4 {w0 : World} {W : Nat} {line : ByteArray} (hW : w0.heap.size ≤ W) (hl9 : line.size ≤ 8) {s : Oct.S} {subs : List Tn} {mn mx : Int} {a : Option Addr} {n c : Nat} {vs : List Nd} (hn : n = subs.length) (hvl : vs.length = n) (hm0 : n ≤ 1000000) (hr : RowAt (fun _ => True) w0 a vs) (hs : ∀ (i : Nat) (t : Tn) (v : Nd), subs[i]? = some t → vs[i]? = some v → EndsV w0 W line t v) (hsc : sc (.mk 4 s subs mn mx) ≤ 1000000000) : EndsV w0 W line (.mk 4 s subs mn mx) ⟨4, s, a, n, c, mn, mx⟩ := by
  intro u i l hlow hwb hi hl1 hl2
  obtain ⟨N, hN⟩ : ∃ N, line.size + 1 = N := ⟨_, rfl⟩
  rw [hN]
  have hNI : (line.size : Int) + 1 = (N : Nat) := by omega
  have hN9 : N ≤ 9 := by omega
  have HN : Hid (line.size + 1 = N) := hN
  have kk : Below u.heap.size u (u.alloc (.cells #[.int .i64 4, .int .u64 (Oct.word s 0 : Nat), .int .u64 (Oct.word s 1 : Nat), .int .u64 (Oct.word s 2 : Nat), .int .u64 (Oct.word s 3 : Nat), .slice a n c, .int .i64 mn, .int .i64 mx] 30)) := (Below.refl _ _).alloc (Nat.le_refl _) _
  have HNA : Hid (NB (u.alloc (.cells #[.int .i64 4, .int .u64 (Oct.word s 0 : Nat), .int .u64 (Oct.word s 1 : Nat), .int .u64 (Oct.word s 2 : Nat), .int .u64 (Oct.word s 3 : Nat), .slice a n c, .int .i64 mn, .int .i64 mx] 30)) u.heap.size ⟨4, s, a, n, c, mn, mx⟩) := nb_new u ⟨4, s, a, n, c, mn, mx⟩
  have HG : Hid (u.grownBy (u.alloc (.cells #[.int .i64 4, .int .u64 (Oct.word s 0 : Nat), .int .u64 (Oct.word s 1 : Nat), .int .u64 (Oct.word s 2 : Nat), .int .u64 (Oct.word s 3 : Nat), .slice a n c, .int .i64 mn, .int .i64 mx] 30)) (some W)) := gro_later (grown_rfl _ _) kk
  have HWB : Hid (WBk (u.alloc (.cells #[.int .i64 4, .int .u64 (Oct.word s 0 : Nat), .int .u64 (Oct.word s 1 : Nat), .int .u64 (Oct.word s 2 : Nat), .int .u64 (Oct.word s 3 : Nat), .slice a n c, .int .i64 mn, .int .i64 mx] 30)) W line l) := hwb.later kk
  have HGF : Hid (W < u.heap.size) := hwb.lt
  have HUS : Hid (u.heap.size ≤ (u.alloc (.cells #[.int .i64 4, .int .u64 (Oct.word s 0 : Nat), .int .u64 (Oct.word s 1 : Nat), .int .u64 (Oct.word s 2 : Nat), .int .u64 (Oct.word s 3 : Nat), .slice a n c, .int .i64 mn, .int .i64 mx] 30)).heap.size) := kk.size
  obtain ⟨w1, hw1⟩ : ∃ w1, u.alloc (.cells #[.int .i64 4, .int .u64 (Oct.word s 0 : Nat), .int .u64 (Oct.word s 1 : Nat), .int .u64 (Oct.word s 2 : Nat), .int .u64 (Oct.word s 3 : Nat), .slice a n c, .int .i64 mn, .int .i64 mx] 30) = w1 := ⟨_, rfl⟩
  rw [hw1] at HNA HG HWB HUS
  obtain ⟨A, hA⟩ : ∃ A, u.heap.size = A := ⟨_, rfl⟩
  rw [hA] at HNA
  have HW1 : Hid (u.alloc (.cells #[.int .i64 4, .int .u64 (Oct.word s 0 : Nat), .int .u64 (Oct.word s 1 : Nat), .int .u64 (Oct.word s 2 : Nat), .int .u64 (Oct.word s 3 : Nat), .slice a n c, .int .i64 mn, .int .i64 mx] 30) = w1) := hw1
  have HAA : Hid (u.heap.size = A) := hA
  have HLW : Hid (Below w0.heap.size w0 u ∧ w0.heap.size ≤ W) := ⟨hlow, hW⟩
  have HRO : Hid (RowAt (fun _ => True) w0 a vs) := hr
  have HS : Hid (∀ (i : Nat) (t : Tn) (v : Nd), subs[i]? = some t → vs[i]? = some v → EndsV w0 W line t v) := hs
  have HNN : Hid (n = subs.length ∧ vs.length = n) := ⟨hn, hvl⟩
  rw [sc_mk] at hsc
  have HSC : Hid (1 + sc.scs subs ≤ 1000000000) := hsc
  have HL9 : Hid (line.size ≤ 8) := hl9
  clear hr hs hn hvl hsc
  clear hw1 hA hlow kk hwb hW hN
  unfold Nd.val
  simp only
  go_enter Tryz.func55, Tryz.ntmps55
  go_upto_region 1 with fail
  rw [HW1.out, HAA.out]
  clear HW1
  obtain ⟨k0, k1⟩ := HWB.out.cells
  go_upto_region 2 with (first | (refine wpList_make_bool rfl _ _ rfl u.heap.size N HUS.out (by show _ = Value.int .i64 ((N : Nat) : Int); rw [← hNI]; rfl) (by show _ = Value.int .i64 ((N : Nat) : Int); rw [← hNI]; rfl) (by omega) ?_; intro w2 hr2 hb2; have HR2 : Hid (RowB w2 u.heap.size (.slice (some ⟨w1.heap.size, 0, none⟩) N N) (List.replicate N false)) := hr2; have HK2 : Hid (Below w1.heap.size w1 w2) := hb2; clear hr2 hb2) | fail)
  clear k0 k1
  obtain ⟨G, hG⟩ : ∃ G, w1.heap.size = G := ⟨_, rfl⟩
  rw [hG] at HR2 ⊢
  have HAG : Hid (A < G ∧ W < A ∧ u.heap.size ≤ G ∧ u.heap.size = A) := by have h1 := HNA.out.lt; have h2 := HGF.out; have h3 := HAA.out; exact ⟨by omega, by omega, by omega, by omega⟩
  have HNA2 : Hid (NB w2 A ⟨4, s, a, n, c, mn, mx⟩) := HNA.out.later HK2.out
  have HG2 : Hid (u.grownBy w2 (some W)) := gro_later HG.out HK2.out
  have HWB2 : Hid (WBk w2 W line l) := HWB.out.later HK2.out
  clear hG HNA HG HK2 HWB HUS HGF HAA
  obtain ⟨k0, k1⟩ := HWB2.out.cells
  have f1 := HWB2.out.frozen 1
  have hlw : IntKind.i64.wrap (l - 1) = l - 1 := by rw [IntKind.wrap_i64]; omega
  have HWB3 : Hid (WBk (w2.setCell ⟨W, 1, none⟩ (.int .i64 (l - 1))) W line (l - 1)) := HWB2.out.set _
  have HG3 : Hid (u.grownBy (w2.setCell ⟨W, 1, none⟩ (.int .i64 (l - 1))) (some W)) := gro_set HG2.out 1 _
  have HNA3 : Hid (NB (w2.setCell ⟨W, 1, none⟩ (.int .i64 (l - 1))) A ⟨4, s, a, n, c, mn, mx⟩) := (Below.heap_setCell w2 ⟨W, 1, none⟩ _ A (fun e => by have := HAG.out; have e2 : A = W := e; omega)).trans HNA2.out
  have HR3 : Hid (RowB (w2.setCell ⟨W, 1, none⟩ (.int .i64 (l - 1))) u.heap.size (.slice (some ⟨G, 0, none⟩) N N) (List.replicate N false)) := HR2.out.same (Below.heap_setCell w2 ⟨W, 1, none⟩ _ G (fun e => by have := HAG.out; have e2 : G = W := e; omega))
  clear HWB2 HG2 HNA2 HR2
  go_upto_region 3 with fail
  obtain ⟨w3, hw3⟩ : ∃ w3, w2.setCell ⟨W, 1, none⟩ (.int .i64 (l - 1)) = w3 := ⟨_, rfl⟩
  rw [hw3] at HWB3 HG3 HNA3 HR3 ⊢
  clear hw3 k0 k1 f1 hlw
  obtain ⟨k0, k1⟩ := HWB3.out.cells
  by_cases hneg : l - 1 < 0
  · have hd : decide (l - 1 < 0) = true := decide_eq_true hneg
    have HE : Hid (EndsPost u W N line (.mk 4 s subs mn mx) i l (.returned (.slice (some ⟨G, 0, none⟩) N N)) w3) := ⟨G, N, _, l - 1, rfl, HR3.out, HG3.out, HWB3.out, by omega, fun h => by rw [sc_mk]; omega, fun _ => rfl, fun h => by omega⟩
    go_wp2
    go_ret
    exact HE.out
  have hd : decide (l - 1 < 0) = false := decide_eq_false hneg
  obtain ⟨m, hm⟩ : ∃ m : Nat, l - 1 = (m : Nat) := ⟨(l - 1).toNat, by omega⟩
  have HM : Hid (l - 1 = (m : Nat)) := hm
  rw [hm] at HWB3 k1 hd hneg ⊢
  have hm2 : m ≤ 20000 := by omega
  clear hm
  go_upto_region 5 with fail
  clear k1 hd hneg
  obtain ⟨y0, y1, y2, y3, y4, y5, y6, y7⟩ := HNA3.out.cells
  simp only at y0 y1 y2 y3 y4 y5 y6 y7
  go_wp2_with fail
  clear y0 y1 y2 y3 y4 y5 y6 y7 k0
  go_loopw [9] (fun q v => ∃ (k : Nat) (bk : List Bool) (lk : Int), q = .int .i64 (k : Nat) ∧ k ≤ n ∧ Hid (RowB v u.heap.size (.slice (some ⟨G, 0, none⟩) N N) bk) ∧ Hid (u.grownBy v (some W)) ∧ Hid (NB v A ⟨4, s, a, n, c, mn, mx⟩) ∧ Hid (WBk v W line lk) ∧ Hid (lk ≤ m ∧ -(sc.scs (subs.take k) : Int) ≤ lk) ∧ Hid (0 ≤ lk → ∀ j, bt bk j ↔ TkA line (subs.take k) i j)) (fun q _ => n - (intOf q).toNat)
  case atStart => exact ⟨0, _, m, rfl, Nat.zero_le _, HR3, HG3, HNA3, HWB3, ⟨Int.le_refl _, by omega⟩, fun _ j => by rw [List.take_zero, TkA]; simp [bt_rep]⟩
  case round =>
    clear HR3 HG3 HNA3 HWB3
    obtain ⟨k, bk, lk, rfl, hk, HRk, HGk, HNk, HWk, HLk, HIk⟩ := hrel
    by_cases hlt : k < n
    · have hlt' : (k : Int) < (n : Int) := by omega
      obtain ⟨t, ht⟩ : ∃ t, subs[k]? = some t := ⟨_, List.getElem?_eq_getElem (by have := HNN.out; omega)⟩
      obtain ⟨y, hy⟩ : ∃ y, vs[k]? = some y := ⟨_, List.getElem?_eq_getElem (by have := HNN.out; omega)⟩
      have hLr : Below w0.heap.size w0 wr := HLW.out.1.trans (gro_below HGk.out HLW.out.2 HLW.out.1.size)
      have HLr : Hid (Below w0.heap.size w0 wr) := hLr
      obtain ⟨nb, off, hab, q0, q1, q2, q3, q4, q5, q6, q7⟩ := (HRO.out.keep (w' := wr) (Y := fun _ => True) (fun _ _ _ => trivial) (fun b hb hlt => hLr.block b hlt)).nth hy
      have HSV : Hid (EndsV w0 W line t y) := HS.out k t y ht hy
      have HT : Hid (subs[k]? = some t) := ht
      subst hab
      clear ht hy hLr
      obtain ⟨y0, y1, y2, y3, y4, y5, y6, y7⟩ := HNk.out.cells
      simp only at y0 y1 y2 y3 y4 y5 y6 y7
      have HEC : Hid (Calls Tryz.prog 55 #[.pointer (some ⟨W, 0, none⟩), Nd.val y, .int .i64 (i : Nat)] wr (EndsPost wr W N line t i lk)) := by
        have h := HSV.out wr i lk HLr.out HWk.out hi (by have := HLk.out; have := HSC.out; have := scs_le (subs := subs) k; omega) (by have := HLk.out; omega)
        rw [HN.out] at h
        exact h
      unfold Nd.val at HEC
      go_wp2_with fail
      refine HEC.out.mono ?_
      rintro e v3 ⟨g3, c3, b3, l3, rfl, hr3, hg3, hw3, hl3, hlo3, hneg3, hex3⟩
      have hWA := HAG.out
      have hgl := HRk.out.lt.1
      have HR3 : Hid (RowB v3 wr.heap.size (.slice (some ⟨g3, 0, none⟩) N c3) b3) := hr3
      have HRo : Hid (RowB v3 u.heap.size (.slice (some ⟨G, 0, none⟩) N N) bk) := HRk.out.same (hg3.block G hgl (fun e => by cases e; omega))
      have HG3 : Hid (u.grownBy v3 (some W)) := gro_trans HGk.out hg3
      have HN3 : Hid (NB v3 A ⟨4, s, some ⟨nb, off, none⟩, n, c, mn, mx⟩) := (hg3.block A HNk.out.lt (fun e => by cases e; omega)).trans HNk.out
      have HW3 : Hid (WBk v3 W line l3) := hw3
      have HL3 : Hid (l3 ≤ m ∧ -(sc.scs (subs.take (k + 1)) : Int) ≤ l3) := by
        have h1 := HLk.out
        have h2 := scs_take HT.out
        refine ⟨by omega, ?_⟩
        by_cases h0 : 0 ≤ lk
        · have := hlo3 h0; omega
        · have := hneg3 (by omega); omega
      have HX3 : Hid (0 ≤ l3 → (∀ j, bt b3 j ↔ Tk line t i j) ∧ 0 ≤ lk) := fun h0 => ⟨hex3 h0, by omega⟩
      have hne : g3 ≠ G := by have := hr3.lt.2.2; omega
      have HJ : Hid (Calls Tryz.prog 75 #[.slice (some ⟨G, 0, none⟩) N N, .slice (some ⟨g3, 0, none⟩) N c3] v3 (JoinPost v3 u.heap.size G N N bk b3)) := ljoin_any v3 HRo.out HR3.out.bat hr3.lt.2.1.symm hne (by omega)
      clear hr3 hg3 hw3 hl3 hlo3 hneg3 hex3 hWA hgl hne HEC HRk HGk HNk HWk HLk y0 y1 y2 y3 y4 y5 y6 y7 q0 q1 q2 q3 q4 q5 q6 q7
      go_wp2_with fail
      refine HJ.out.mono ?_
      rintro e v4 ⟨rfl, hg4, b4, hr4, hj4⟩
      have hWA := HAG.out
      have HR4 : Hid (RowB v4 u.heap.size (.slice (some ⟨G, 0, none⟩) N N) b4) := hr4
      have HG4 : Hid (u.grownBy v4 (some W)) := gro_new HG3.out hg4 hWA.2.2.1
      have HN4 : Hid (NB v4 A ⟨4, s, some ⟨nb, off, none⟩, n, c, mn, mx⟩) := (hg4.block A HN3.out.lt (fun e => by cases e; omega)).trans HN3.out
      have HW4 : Hid (WBk v4 W line l3) := HW3.out.same (hg4.block W HW3.out.lt (fun e => by cases e; omega))
      have HI4 : Hid (0 ≤ l3 → ∀ j, bt b4 j ↔ TkA line (subs.take (k + 1)) i j) := fun h0 j => by
        obtain ⟨a1, a2⟩ := HX3.out h0
        rw [hj4 j, HIk.out a2 j, a1 j, tkA_take HT.out]
      clear hr4 hg4 hj4 hWA HJ HR3 HRo HG3 HN3 HW3 HX3 HIk
      go_wp2
      go_roundw
      case rel => exact ⟨k + 1, b4, l3, by go_num, by omega, HR4, HG4, HN4, HW4, HL3, HI4⟩
      case measure => simp [intOf]; omega
    · have hlt' : ¬ (k : Int) < (n : Int) := by omega
      have hkn : k = n := by omega
      obtain ⟨y0, y1, y2, y3, y4, y5, y6, y7⟩ := HNk.out.cells
      simp only at y0 y1 y2 y3 y4 y5 y6 y7
      have HE : Hid (EndsPost u W N line (.mk 4 s subs mn mx) i l (.returned (.slice (some ⟨G, 0, none⟩) N N)) wr) := by
        have htk : subs.take k = subs := List.take_of_length_le (by have := HNN.out; omega)
        have h1 := HLk.out
        have h2 := HM.out
        have h3 := HIk.out
        rw [htk] at h1 h3
        refine ⟨G, N, bk, lk, rfl, HRk.out, HGk.out, HWk.out, by omega, fun _ => by rw [sc_mk]; omega, fun h => by omega, fun h0 j => ?_⟩
        rw [h3 h0 j, Tk]
        simp
      clear hkn
      go_wp2
      go_ret
      exact HE.out
end Go.Proofs.YtmjnobdlgbojoaaGreatDoor
