
import Derived.Test.YtmjnobdlgbojoaaGreatDoorG32
import Derived.Test.YtmjnobdlgbojoaaGreatDoorG01
namespace Go.Proofs.YtmjnobdlgbojoaaGreatDoor
open Go.RowKit
attribute [local go_sem ↓] Go.wp_at_zero Go.wp_at_succ
set_option maxRecDepth 4000 in
set_option maxHeartbeats 16000000 in
theorem lends_1 {w0 : World} {W : Nat} {line : ByteArray} (hW : w0.heap.size ≤ W) (hl9 : line.size ≤ 8) {s : Oct.S} {subs : List Tn} {mn mx : Int} {a : Option Addr} {n c : Nat} : EndsV w0 W line (.mk 1 s subs mn mx) ⟨1, s, a, n, c, mn, mx⟩ := by
  intro u i l hlow hwb hi hl1 hl2
  obtain ⟨N, hN⟩ : ∃ N, line.size + 1 = N := ⟨_, rfl⟩
  rw [hN]
  have hNI : (line.size : Int) + 1 = (N : Nat) := by omega
  have hN9 : N ≤ 9 := by omega
  have HN : Hid (line.size + 1 = N) := hN
  have kk : Below u.heap.size u (u.alloc (.cells #[.int .i64 1, .int .u64 (Oct.word s 0 : Nat), .int .u64 (Oct.word s 1 : Nat), .int .u64 (Oct.word s 2 : Nat), .int .u64 (Oct.word s 3 : Nat), .slice a n c, .int .i64 mn, .int .i64 mx] 30)) := (Below.refl _ _).alloc (Nat.le_refl _) _
  have HNA : Hid (NB (u.alloc (.cells #[.int .i64 1, .int .u64 (Oct.word s 0 : Nat), .int .u64 (Oct.word s 1 : Nat), .int .u64 (Oct.word s 2 : Nat), .int .u64 (Oct.word s 3 : Nat), .slice a n c, .int .i64 mn, .int .i64 mx] 30)) u.heap.size ⟨1, s, a, n, c, mn, mx⟩) := nb_new u ⟨1, s, a, n, c, mn, mx⟩
  have HG : Hid (u.grownBy (u.alloc (.cells #[.int .i64 1, .int .u64 (Oct.word s 0 : Nat), .int .u64 (Oct.word s 1 : Nat), .int .u64 (Oct.word s 2 : Nat), .int .u64 (Oct.word s 3 : Nat), .slice a n c, .int .i64 mn, .int .i64 mx] 30)) (some W)) := gro_later (grown_rfl _ _) kk
  have HWB : Hid (WBk (u.alloc (.cells #[.int .i64 1, .int .u64 (Oct.word s 0 : Nat), .int .u64 (Oct.word s 1 : Nat), .int .u64 (Oct.word s 2 : Nat), .int .u64 (Oct.word s 3 : Nat), .slice a n c, .int .i64 mn, .int .i64 mx] 30)) W line l) := hwb.later kk
  have HGF : Hid (W < u.heap.size) := hwb.lt
  have HUS : Hid (u.heap.size ≤ (u.alloc (.cells #[.int .i64 1, .int .u64 (Oct.word s 0 : Nat), .int .u64 (Oct.word s 1 : Nat), .int .u64 (Oct.word s 2 : Nat), .int .u64 (Oct.word s 3 : Nat), .slice a n c, .int .i64 mn, .int .i64 mx] 30)).heap.size) := kk.size
  obtain ⟨w1, hw1⟩ : ∃ w1, u.alloc (.cells #[.int .i64 1, .int .u64 (Oct.word s 0 : Nat), .int .u64 (Oct.word s 1 : Nat), .int .u64 (Oct.word s 2 : Nat), .int .u64 (Oct.word s 3 : Nat), .slice a n c, .int .i64 mn, .int .i64 mx] 30) = w1 := ⟨_, rfl⟩
  rw [hw1] at HNA HG HWB HUS
  obtain ⟨A, hA⟩ : ∃ A, u.heap.size = A := ⟨_, rfl⟩
  rw [hA] at HNA
  have HW1 : Hid (u.alloc (.cells #[.int .i64 1, .int .u64 (Oct.word s 0 : Nat), .int .u64 (Oct.word s 1 : Nat), .int .u64 (Oct.word s 2 : Nat), .int .u64 (Oct.word s 3 : Nat), .slice a n c, .int .i64 mn, .int .i64 mx] 30) = w1) := hw1
  have HAA : Hid (u.heap.size = A) := hA
  have HLW : Hid (Below w0.heap.size w0 u ∧ w0.heap.size ≤ W) := ⟨hlow, hW⟩
  clear hw1 hA hlow kk hwb hW hN
  unfold Nd.val
  simp only
  go_enter Tryz.func55, Tryz.ntmps55
  go_upto_region 1 with fail
  rw [HW1.out, HAA.out]
  clear HW1
  obtain ⟨k0, k1⟩ := HWB.out.cells
  go_upto_region 2 with (first | (refine wpList_make_bool rfl _ _ rfl u.heap.size N HUS.out (by show _ = Value.int .i64 ((N : Nat) : Int); rw [← hNI]; rfl) (by show _ = Value.int .i64 ((N : Nat) : Int); rw [← hNI]; rfl) (by omega) ?_; intro w2 hr2 hb2; have HR2 : Hid (RowB w2 u.heap.size (.slice (some ⟨w1.heap.size, 0, none⟩) N N) (List.replicate N false)) := hr2; have HK2 : Hid (Below w1.heap.size w1 w2) := hb2; clear hr2 hb2) | fail)
  clear k0 k1
  obtain ⟨G, hG⟩ : ∃ G, w1.heap.size = G := ⟨_, rfl⟩
  rw [hG] at HR2 ⊢
  have HAG : Hid (A < G ∧ W < A ∧ u.heap.size ≤ G ∧ u.heap.size = A) := by have h1 := HNA.out.lt; have h2 := HGF.out; have h3 := HAA.out; exact ⟨by omega, by omega, by omega, by omega⟩
  have HNA2 : Hid (NB w2 A ⟨1, s, a, n, c, mn, mx⟩) := HNA.out.later HK2.out
  have HG2 : Hid (u.grownBy w2 (some W)) := gro_later HG.out HK2.out
  have HWB2 : Hid (WBk w2 W line l) := HWB.out.later HK2.out
  clear hG HNA HG HK2 HWB HUS HGF HAA
  obtain ⟨k0, k1⟩ := HWB2.out.cells
  have f1 := HWB2.out.frozen 1
  have hlw : IntKind.i64.wrap (l - 1) = l - 1 := by rw [IntKind.wrap_i64]; omega
  have HWB3 : Hid (WBk (w2.setCell ⟨W, 1, none⟩ (.int .i64 (l - 1))) W line (l - 1)) := HWB2.out.set _
  have HG3 : Hid (u.grownBy (w2.setCell ⟨W, 1, none⟩ (.int .i64 (l - 1))) (some W)) := gro_set HG2.out 1 _
  have HNA3 : Hid (NB (w2.setCell ⟨W, 1, none⟩ (.int .i64 (l - 1))) A ⟨1, s, a, n, c, mn, mx⟩) := (Below.heap_setCell w2 ⟨W, 1, none⟩ _ A (fun e => by have := HAG.out; have e2 : A = W := e; omega)).trans HNA2.out
  have HR3 : Hid (RowB (w2.setCell ⟨W, 1, none⟩ (.int .i64 (l - 1))) u.heap.size (.slice (some ⟨G, 0, none⟩) N N) (List.replicate N false)) := HR2.out.same (Below.heap_setCell w2 ⟨W, 1, none⟩ _ G (fun e => by have := HAG.out; have e2 : G = W := e; omega))
  clear HWB2 HG2 HNA2 HR2
  go_upto_region 3 with fail
  obtain ⟨w3, hw3⟩ : ∃ w3, w2.setCell ⟨W, 1, none⟩ (.int .i64 (l - 1)) = w3 := ⟨_, rfl⟩
  rw [hw3] at HWB3 HG3 HNA3 HR3 ⊢
  clear hw3 k0 k1 f1 hlw
  obtain ⟨k0, k1⟩ := HWB3.out.cells
  by_cases hneg : l - 1 < 0
  · have hd : decide (l - 1 < 0) = true := decide_eq_true hneg
    have HE : Hid (EndsPost u W N line (.mk 1 s subs mn mx) i l (.returned (.slice (some ⟨G, 0, none⟩) N N)) w3) := ⟨G, N, _, l - 1, rfl, HR3.out, HG3.out, HWB3.out, by omega, fun h => by rw [sc_mk]; omega, fun _ => rfl, fun h => by omega⟩
    go_wp2
    go_ret
    exact HE.out
  have hd : decide (l - 1 < 0) = false := decide_eq_false hneg
  obtain ⟨m, hm⟩ : ∃ m : Nat, l - 1 = (m : Nat) := ⟨(l - 1).toNat, by omega⟩
  have HM : Hid (l - 1 = (m : Nat)) := hm
  rw [hm] at HWB3 k1 hd hneg ⊢
  have hm2 : m ≤ 20000 := by omega
  clear hm
  go_upto_region 5 with fail
  clear k1 hd hneg
  obtain ⟨y0, y1, y2, y3, y4, y5, y6, y7⟩ := HNA3.out.cells
  simp only at y0 y1 y2 y3 y4 y5 y6 y7
  obtain ⟨cg, fg⟩ := HR3.out.cell (i := i) (x := false) (by rw [List.getElem?_replicate, if_pos (by omega)])
  have hiN : (i : Int) < (N : Int) := by omega
  have HE : Hid (EndsPost u W N line (.mk 1 s subs mn mx) i l (.returned (.slice (some ⟨G, 0, none⟩) N N)) (w3.setCell ⟨G, i, none⟩ (.bool true))) := ⟨G, N, (List.replicate N false).set i true, m, rfl, HR3.out.put i true, gro_new HG3.out (grown_one w3 G i _) HAG.out.2.2.1, HWB3.out.same (Below.heap_setCell w3 ⟨G, i, none⟩ _ W (fun e => by have := HAG.out; have e2 : W = G := e; omega)), by have := HM.out; omega, fun _ => by omega, fun h => by have := HM.out; omega, fun _ j => by rw [bt_set (by simp; omega), Tk]; simp [bt_rep]⟩
  go_wp2
  go_ret
  exact HE.out
set_option maxRecDepth 4000 in
set_option maxHeartbeats 16000000 in
theorem lends_6 {w0 : World} {W : Nat} {line : ByteArray} (hW : w0.heap.size ≤ W) (hl9 : line.size ≤ 8) {s : Oct.S} {subs : List Tn} {mn mx : Int} {a : Option Addr} {n c : Nat} : EndsV w0 W line (.mk 6 s subs mn mx) ⟨6, s, a, n, c, mn, mx⟩ := by
  intro u i l hlow hwb hi hl1 hl2
  obtain ⟨N, hN⟩ : ∃ N, line.size + 1 = N := ⟨_, rfl⟩
  rw [hN]
  have hNI : (line.size : Int) + 1 = (N : Nat) := by omega
  have hN9 : N ≤ 9 := by omega
  have HN : Hid (line.size + 1 = N) := hN
  have kk : Below u.heap.size u (u.alloc (.cells #[.int .i64 6, .int .u64 (Oct.word s 0 : Nat), .int .u64 (Oct.word s 1 : Nat), .int .u64 (Oct.word s 2 : Nat), .int .u64 (Oct.word s 3 : Nat), .slice a n c, .int .i64 mn, .int .i64 mx] 30)) := (Below.refl _ _).alloc (Nat.le_refl _) _
  have HNA : Hid (NB (u.alloc (.cells #[.int .i64 6, .int .u64 (Oct.word s 0 : Nat), .int .u64 (Oct.word s 1 : Nat), .int .u64 (Oct.word s 2 : Nat), .int .u64 (Oct.word s 3 : Nat), .slice a n c, .int .i64 mn, .int .i64 mx] 30)) u.heap.size ⟨6, s, a, n, c, mn, mx⟩) := nb_new u ⟨6, s, a, n, c, mn, mx⟩
  have HG : Hid (u.grownBy (u.alloc (.cells #[.int .i64 6, .int .u64 (Oct.word s 0 : Nat), .int .u64 (Oct.word s 1 : Nat), .int .u64 (Oct.word s 2 : Nat), .int .u64 (Oct.word s 3 : Nat), .slice a n c, .int .i64 mn, .int .i64 mx] 30)) (some W)) := gro_later (grown_rfl _ _) kk
  have HWB : Hid (WBk (u.alloc (.cells #[.int .i64 6, .int .u64 (Oct.word s 0 : Nat), .int .u64 (Oct.word s 1 : Nat), .int .u64 (Oct.word s 2 : Nat), .int .u64 (Oct.word s 3 : Nat), .slice a n c, .int .i64 mn, .int .i64 mx] 30)) W line l) := hwb.later kk
  have HGF : Hid (W < u.heap.size) := hwb.lt
  have HUS : Hid (u.heap.size ≤ (u.alloc (.cells #[.int .i64 6, .int .u64 (Oct.word s 0 : Nat), .int .u64 (Oct.word s 1 : Nat), .int .u64 (Oct.word s 2 : Nat), .int .u64 (Oct.word s 3 : Nat), .slice a n c, .int .i64 mn, .int .i64 mx] 30)).heap.size) := kk.size
  obtain ⟨w1, hw1⟩ : ∃ w1, u.alloc (.cells #[.int .i64 6, .int .u64 (Oct.word s 0 : Nat), .int .u64 (Oct.word s 1 : Nat), .int .u64 (Oct.word s 2 : Nat), .int .u64 (Oct.word s 3 : Nat), .slice a n c, .int .i64 mn, .int .i64 mx] 30) = w1 := ⟨_, rfl⟩
  rw [hw1] at HNA HG HWB HUS
  obtain ⟨A, hA⟩ : ∃ A, u.heap.size = A := ⟨_, rfl⟩
  rw [hA] at HNA
  have HW1 : Hid (u.alloc (.cells #[.int .i64 6, .int .u64 (Oct.word s 0 : Nat), .int .u64 (Oct.word s 1 : Nat), .int .u64 (Oct.word s 2 : Nat), .int .u64 (Oct.word s 3 : Nat), .slice a n c, .int .i64 mn, .int .i64 mx] 30) = w1) := hw1
  have HAA : Hid (u.heap.size = A) := hA
  have HLW : Hid (Below w0.heap.size w0 u ∧ w0.heap.size ≤ W) := ⟨hlow, hW⟩
  clear hw1 hA hlow kk hwb hW hN
  unfold Nd.val
  simp only
  go_enter Tryz.func55, Tryz.ntmps55
  go_upto_region 1 with fail
  rw [HW1.out, HAA.out]
  clear HW1
  obtain ⟨k0, k1⟩ := HWB.out.cells
  go_upto_region 2 with (first | (refine wpList_make_bool rfl _ _ rfl u.heap.size N HUS.out (by show _ = Value.int .i64 ((N : Nat) : Int); rw [← hNI]; rfl) (by show _ = Value.int .i64 ((N : Nat) : Int); rw [← hNI]; rfl) (by omega) ?_; intro w2 hr2 hb2; have HR2 : Hid (RowB w2 u.heap.size (.slice (some ⟨w1.heap.size, 0, none⟩) N N) (List.replicate N false)) := hr2; have HK2 : Hid (Below w1.heap.size w1 w2) := hb2; clear hr2 hb2) | fail)
  clear k0 k1
  obtain ⟨G, hG⟩ : ∃ G, w1.heap.size = G := ⟨_, rfl⟩
  rw [hG] at HR2 ⊢
  have HAG : Hid (A < G ∧ W < A ∧ u.heap.size ≤ G ∧ u.heap.size = A) := by have h1 := HNA.out.lt; have h2 := HGF.out; have h3 := HAA.out; exact ⟨by omega, by omega, by omega, by omega⟩
  have HNA2 : Hid (NB w2 A ⟨6, s, a, n, c, mn, mx⟩) := HNA.out.later HK2.out
  have HG2 : Hid (u.grownBy w2 (some W)) := gro_later HG.out HK2.out
  have HWB2 : Hid (WBk w2 W line l) := HWB.out.later HK2.out
  clear hG HNA HG HK2 HWB HUS HGF HAA
  obtain ⟨k0, k1⟩ := HWB2.out.cells
  have f1 := HWB2.out.frozen 1
  have hlw : IntKind.i64.wrap (l - 1) = l - 1 := by rw [IntKind.wrap_i64]; omega
  have HWB3 : Hid (WBk (w2.setCell ⟨W, 1, none⟩ (.int .i64 (l - 1))) W line (l - 1)) := HWB2.out.set _
  have HG3 : Hid (u.grownBy (w2.setCell ⟨W, 1, none⟩ (.int .i64 (l - 1))) (some W)) := gro_set HG2.out 1 _
  have HNA3 : Hid (NB (w2.setCell ⟨W, 1, none⟩ (.int .i64 (l - 1))) A ⟨6, s, a, n, c, mn, mx⟩) := (Below.heap_setCell w2 ⟨W, 1, none⟩ _ A (fun e => by have := HAG.out; have e2 : A = W := e; omega)).trans HNA2.out
  have HR3 : Hid (RowB (w2.setCell ⟨W, 1, none⟩ (.int .i64 (l - 1))) u.heap.size (.slice (some ⟨G, 0, none⟩) N N) (List.replicate N false)) := HR2.out.same (Below.heap_setCell w2 ⟨W, 1, none⟩ _ G (fun e => by have := HAG.out; have e2 : G = W := e; omega))
  clear HWB2 HG2 HNA2 HR2
  go_upto_region 3 with fail
  obtain ⟨w3, hw3⟩ : ∃ w3, w2.setCell ⟨W, 1, none⟩ (.int .i64 (l - 1)) = w3 := ⟨_, rfl⟩
  rw [hw3] at HWB3 HG3 HNA3 HR3 ⊢
  clear hw3 k0 k1 f1 hlw
  obtain ⟨k0, k1⟩ := HWB3.out.cells
  by_cases hneg : l - 1 < 0
  · have hd : decide (l - 1 < 0) = true := decide_eq_true hneg
    have HE : Hid (EndsPost u W N line (.mk 6 s subs mn mx) i l (.returned (.slice (some ⟨G, 0, none⟩) N N)) w3) := ⟨G, N, _, l - 1, rfl, HR3.out, HG3.out, HWB3.out, by omega, fun h => by rw [sc_mk]; omega, fun _ => rfl, fun h => by omega⟩
    go_wp2
    go_ret
    exact HE.out
  have hd : decide (l - 1 < 0) = false := decide_eq_false hneg
  obtain ⟨m, hm⟩ : ∃ m : Nat, l - 1 = (m : Nat) := ⟨(l - 1).toNat, by omega⟩
  have HM : Hid (l - 1 = (m : Nat)) := hm
  rw [hm] at HWB3 k1 hd hneg ⊢
  have hm2 : m ≤ 20000 := by omega
  clear hm
  go_upto_region 5 with fail
  clear k1 hd hneg
  obtain ⟨y0, y1, y2, y3, y4, y5, y6, y7⟩ := HNA3.out.cells
  simp only at y0 y1 y2 y3 y4 y5 y6 y7
  obtain ⟨cg, fg⟩ := HR3.out.cell (i := i) (x := false) (by rw [List.getElem?_replicate, if_pos (by omega)])
  have hiN : (i : Int) < (N : Int) := by omega
  by_cases h0 : i = 0
  · have e0 : ((i : Int) == 0) = true := by simp; omega
    have H0 : Hid (i = 0) := h0
    clear h0
    have HE : Hid (EndsPost u W N line (.mk 6 s subs mn mx) i l (.returned (.slice (some ⟨G, 0, none⟩) N N)) (w3.setCell ⟨G, i, none⟩ (.bool true))) := ⟨G, N, (List.replicate N false).set i true, m, rfl, HR3.out.put i true, gro_new HG3.out (grown_one w3 G i _) HAG.out.2.2.1, HWB3.out.same (Below.heap_setCell w3 ⟨G, i, none⟩ _ W (fun e => by have := HAG.out; have e2 : W = G := e; omega)), by have := HM.out; omega, fun _ => by omega, fun h => by have := HM.out; omega, fun _ j => by rw [bt_set (by simp; omega), Tk]; simp [bt_rep, H0.out]⟩
    go_wp2
    go_ret
    exact HE.out
  · have e0 : ((i : Int) == 0) = false := by simp; omega
    have HE : Hid (EndsPost u W N line (.mk 6 s subs mn mx) i l (.returned (.slice (some ⟨G, 0, none⟩) N N)) (w3.setCell ⟨G, i, none⟩ (.bool false))) := ⟨G, N, (List.replicate N false).set i false, m, rfl, HR3.out.put i false, gro_new HG3.out (grown_one w3 G i _) HAG.out.2.2.1, HWB3.out.same (Below.heap_setCell w3 ⟨G, i, none⟩ _ W (fun e => by have := HAG.out; have e2 : W = G := e; omega)), by have := HM.out; omega, fun _ => by omega, fun h => by have := HM.out; omega, fun _ j => ⟨fun h => absurd h (bt_setf _ _ _), fun h => by rw [Tk] at h; simp at h; exact absurd h.1 h0⟩⟩
    go_wp2
    go_ret
    exact HE.out
set_option maxRecDepth 4000 in
set_option maxHeartbeats 16000000 in
theorem lends_7 {w0 : World} {W : Nat} {line : ByteArray} (hW : w0.heap.size ≤ W) (hl9 : line.size ≤ 8) {s : Oct.S} {subs : List Tn} {mn mx : Int} {a : Option Addr} {n c : Nat} : EndsV w0 W line (.mk 7 s subs mn mx) ⟨7, s, a, n, c, mn, mx⟩ := by
  intro u i l hlow hwb hi hl1 hl2
  obtain ⟨N, hN⟩ : ∃ N, line.size + 1 = N := ⟨_, rfl⟩
  rw [hN]
  have hNI : (line.size : Int) + 1 = (N : Nat) := by omega
  have hN9 : N ≤ 9 := by omega
  have HN : Hid (line.size + 1 = N) := hN
  have kk : Below u.heap.size u (u.alloc (.cells #[.int .i64 7, .int .u64 (Oct.word s 0 : Nat), .int .u64 (Oct.word s 1 : Nat), .int .u64 (Oct.word s 2 : Nat), .int .u64 (Oct.word s 3 : Nat), .slice a n c, .int .i64 mn, .int .i64 mx] 30)) := (Below.refl _ _).alloc (Nat.le_refl _) _
  have HNA : Hid (NB (u.alloc (.cells #[.int .i64 7, .int .u64 (Oct.word s 0 : Nat), .int .u64 (Oct.word s 1 : Nat), .int .u64 (Oct.word s 2 : Nat), .int .u64 (Oct.word s 3 : Nat), .slice a n c, .int .i64 mn, .int .i64 mx] 30)) u.heap.size ⟨7, s, a, n, c, mn, mx⟩) := nb_new u ⟨7, s, a, n, c, mn, mx⟩
  have HG : Hid (u.grownBy (u.alloc (.cells #[.int .i64 7, .int .u64 (Oct.word s 0 : Nat), .int .u64 (Oct.word s 1 : Nat), .int .u64 (Oct.word s 2 : Nat), .int .u64 (Oct.word s 3 : Nat), .slice a n c, .int .i64 mn, .int .i64 mx] 30)) (some W)) := gro_later (grown_rfl _ _) kk
  have HWB : Hid (WBk (u.alloc (.cells #[.int .i64 7, .int .u64 (Oct.word s 0 : Nat), .int .u64 (Oct.word s 1 : Nat), .int .u64 (Oct.word s 2 : Nat), .int .u64 (Oct.word s 3 : Nat), .slice a n c, .int .i64 mn, .int .i64 mx] 30)) W line l) := hwb.later kk
  have HGF : Hid (W < u.heap.size) := hwb.lt
  have HUS : Hid (u.heap.size ≤ (u.alloc (.cells #[.int .i64 7, .int .u64 (Oct.word s 0 : Nat), .int .u64 (Oct.word s 1 : Nat), .int .u64 (Oct.word s 2 : Nat), .int .u64 (Oct.word s 3 : Nat), .slice a n c, .int .i64 mn, .int .i64 mx] 30)).heap.size) := kk.size
  obtain ⟨w1, hw1⟩ : ∃ w1, u.alloc (.cells #[.int .i64 7, .int .u64 (Oct.word s 0 : Nat), .int .u64 (Oct.word s 1 : Nat), .int .u64 (Oct.word s 2 : Nat), .int .u64 (Oct.word s 3 : Nat), .slice a n c, .int .i64 mn, .int .i64 mx] 30) = w1 := ⟨_, rfl⟩
  rw [hw1] at HNA HG HWB HUS
  obtain ⟨A, hA⟩ : ∃ A, u.heap.size = A := ⟨_, rfl⟩
  rw [hA] at HNA
  have HW1 : Hid (u.alloc (.cells #[.int .i64 7, .int .u64 (Oct.word s 0 : Nat), .int .u64 (Oct.word s 1 : Nat), .int .u64 (Oct.word s 2 : Nat), .int .u64 (Oct.word s 3 : Nat), .slice a n c, .int .i64 mn, .int .i64 mx] 30) = w1) := hw1
  have HAA : Hid (u.heap.size = A) := hA
  have HLW : Hid (Below w0.heap.size w0 u ∧ w0.heap.size ≤ W) := ⟨hlow, hW⟩
  clear hw1 hA hlow kk hwb hW hN
  unfold Nd.val
  simp only
  go_enter Tryz.func55, Tryz.ntmps55
  go_upto_region 1 with fail
  rw [HW1.out, HAA.out]
  clear HW1
  obtain ⟨k0, k1⟩ := HWB.out.cells
  go_upto_region 2 with (first | (refine wpList_make_bool rfl _ _ rfl u.heap.size N HUS.out (by show _ = Value.int .i64 ((N : Nat) : Int); rw [← hNI]; rfl) (by show _ = Value.int .i64 ((N : Nat) : Int); rw [← hNI]; rfl) (by omega) ?_; intro w2 hr2 hb2; have HR2 : Hid (RowB w2 u.heap.size (.slice (some ⟨w1.heap.size, 0, none⟩) N N) (List.replicate N false)) := hr2; have HK2 : Hid (Below w1.heap.size w1 w2) := hb2; clear hr2 hb2) | fail)
  clear k0 k1
  obtain ⟨G, hG⟩ : ∃ G, w1.heap.size = G := ⟨_, rfl⟩
  rw [hG] at HR2 ⊢
  have HAG : Hid (A < G ∧ W < A ∧ u.heap.size ≤ G ∧ u.heap.size = A) := by have h1 := HNA.out.lt; have h2 := HGF.out; have h3 := HAA.out; exact ⟨by omega, by omega, by omega, by omega⟩
  have HNA2 : Hid (NB w2 A ⟨7, s, a, n, c, mn, mx⟩) := HNA.out.later HK2.out
  have HG2 : Hid (u.grownBy w2 (some W)) := gro_later HG.out HK2.out
  have HWB2 : Hid (WBk w2 W line l) := HWB.out.later HK2.out
  clear hG HNA HG HK2 HWB HUS HGF HAA
  obtain ⟨k0, k1⟩ := HWB2.out.cells
  have f1 := HWB2.out.frozen 1
  have hlw : IntKind.i64.wrap (l - 1) = l - 1 := by rw [IntKind.wrap_i64]; omega
  have HWB3 : Hid (WBk (w2.setCell ⟨W, 1, none⟩ (.int .i64 (l - 1))) W line (l - 1)) := HWB2.out.set _
  have HG3 : Hid (u.grownBy (w2.setCell ⟨W, 1, none⟩ (.int .i64 (l - 1))) (some W)) := gro_set HG2.out 1 _
  have HNA3 : Hid (NB (w2.setCell ⟨W, 1, none⟩ (.int .i64 (l - 1))) A ⟨7, s, a, n, c, mn, mx⟩) := (Below.heap_setCell w2 ⟨W, 1, none⟩ _ A (fun e => by have := HAG.out; have e2 : A = W := e; omega)).trans HNA2.out
  have HR3 : Hid (RowB (w2.setCell ⟨W, 1, none⟩ (.int .i64 (l - 1))) u.heap.size (.slice (some ⟨G, 0, none⟩) N N) (List.replicate N false)) := HR2.out.same (Below.heap_setCell w2 ⟨W, 1, none⟩ _ G (fun e => by have := HAG.out; have e2 : G = W := e; omega))
  clear HWB2 HG2 HNA2 HR2
  go_upto_region 3 with fail
  obtain ⟨w3, hw3⟩ : ∃ w3, w2.setCell ⟨W, 1, none⟩ (.int .i64 (l - 1)) = w3 := ⟨_, rfl⟩
  rw [hw3] at HWB3 HG3 HNA3 HR3 ⊢
  clear hw3 k0 k1 f1 hlw
  obtain ⟨k0, k1⟩ := HWB3.out.cells
  by_cases hneg : l - 1 < 0
  · have hd : decide (l - 1 < 0) = true := decide_eq_true hneg
    have HE : Hid (EndsPost u W N line (.mk 7 s subs mn mx) i l (.returned (.slice (some ⟨G, 0, none⟩) N N)) w3) := ⟨G, N, _, l - 1, rfl, HR3.out, HG3.out, HWB3.out, by omega, fun h => by rw [sc_mk]; omega, fun _ => rfl, fun h => by omega⟩
    go_wp2
    go_ret
    exact HE.out
  have hd : decide (l - 1 < 0) = false := decide_eq_false hneg
  obtain ⟨m, hm⟩ : ∃ m : Nat, l - 1 = (m : Nat) := ⟨(l - 1).toNat, by omega⟩
  have HM : Hid (l - 1 = (m : Nat)) := hm
  rw [hm] at HWB3 k1 hd hneg ⊢
  have hm2 : m ≤ 20000 := by omega
  clear hm
  go_upto_region 5 with fail
  clear k1 hd hneg
  obtain ⟨y0, y1, y2, y3, y4, y5, y6, y7⟩ := HNA3.out.cells
  simp only at y0 y1 y2 y3 y4 y5 y6 y7
  obtain ⟨cg, fg⟩ := HR3.out.cell (i := i) (x := false) (by rw [List.getElem?_replicate, if_pos (by omega)])
  have hiN : (i : Int) < (N : Int) := by omega
  by_cases h0 : i = line.size
  · have e0 : ((i : Int) == (line.size : Int)) = true := by simp; omega
    have H0 : Hid (i = line.size) := h0
    clear h0
    have HE : Hid (EndsPost u W N line (.mk 7 s subs mn mx) i l (.returned (.slice (some ⟨G, 0, none⟩) N N)) (w3.setCell ⟨G, i, none⟩ (.bool true))) := ⟨G, N, (List.replicate N false).set i true, m, rfl, HR3.out.put i true, gro_new HG3.out (grown_one w3 G i _) HAG.out.2.2.1, HWB3.out.same (Below.heap_setCell w3 ⟨G, i, none⟩ _ W (fun e => by have := HAG.out; have e2 : W = G := e; omega)), by have := HM.out; omega, fun _ => by omega, fun h => by have := HM.out; omega, fun _ j => by rw [bt_set (by simp; omega), Tk]; simp [bt_rep, H0.out]⟩
    go_wp2
    go_ret
    exact HE.out
  · have e0 : ((i : Int) == (line.size : Int)) = false := by simp; omega
    have HE : Hid (EndsPost u W N line (.mk 7 s subs mn mx) i l (.returned (.slice (some ⟨G, 0, none⟩) N N)) (w3.setCell ⟨G, i, none⟩ (.bool false))) := ⟨G, N, (List.replicate N false).set i false, m, rfl, HR3.out.put i false, gro_new HG3.out (grown_one w3 G i _) HAG.out.2.2.1, HWB3.out.same (Below.heap_setCell w3 ⟨G, i, none⟩ _ W (fun e => by have := HAG.out; have e2 : W = G := e; omega)), by have := HM.out; omega, fun _ => by omega, fun h => by have := HM.out; omega, fun _ j => ⟨fun h => absurd h (bt_setf _ _ _), fun h => by rw [Tk] at h; simp at h; exact absurd h.1 h0⟩⟩
    go_wp2
    go_ret
    exact HE.out
end Go.Proofs.YtmjnobdlgbojoaaGreatDoor


namespace Go.Proofs.YtmjnobdlgbojoaaGreatDoor
open Go.RowKit
attribute [local go_sem ↓] Go.wp_at_zero Go.wp_at_succ
set_option maxRecDepth 4000 in
set_option maxHeartbeats 16000000 in
theorem lends_2 {w0 : World} {W : Nat} {line : ByteArray} (hW : w0.heap.size ≤ W) (hl9 : line.size ≤ 8) {s : Oct.S} {subs : List Tn} {mn mx : Int} {a : Option Addr} {n c : Nat} : EndsV w0 W line (.mk 2 s subs mn mx) ⟨2, s, a, n, c, mn, mx⟩ := by
  intro u i l hlow hwb hi hl1 hl2
  obtain ⟨N, hN⟩ : ∃ N, line.size + 1 = N := ⟨_, rfl⟩
  rw [hN]
  have hNI : (line.size : Int) + 1 = (N : Nat) := by omega
  have hN9 : N ≤ 9 := by omega
  have HN : Hid (line.size + 1 = N) := hN
  have kk : Below u.heap.size u (u.alloc (.cells #[.int .i64 2, .int .u64 (Oct.word s 0 : Nat), .int .u64 (Oct.word s 1 : Nat), .int .u64 (Oct.word s 2 : Nat), .int .u64 (Oct.word s 3 : Nat), .slice a n c, .int .i64 mn, .int .i64 mx] 30)) := (Below.refl _ _).alloc (Nat.le_refl _) _
  have HNA : Hid (NB (u.alloc (.cells #[.int .i64 2, .int .u64 (Oct.word s 0 : Nat), .int .u64 (Oct.word s 1 : Nat), .int .u64 (Oct.word s 2 : Nat), .int .u64 (Oct.word s 3 : Nat), .slice a n c, .int .i64 mn, .int .i64 mx] 30)) u.heap.size ⟨2, s, a, n, c, mn, mx⟩) := nb_new u ⟨2, s, a, n, c, mn, mx⟩
  have HG : Hid (u.grownBy (u.alloc (.cells #[.int .i64 2, .int .u64 (Oct.word s 0 : Nat), .int .u64 (Oct.word s 1 : Nat), .int .u64 (Oct.word s 2 : Nat), .int .u64 (Oct.word s 3 : Nat), .slice a n c, .int .i64 mn, .int .i64 mx] 30)) (some W)) := gro_later (grown_rfl _ _) kk
  have HWB : Hid (WBk (u.alloc (.cells #[.int .i64 2, .int .u64 (Oct.word s 0 : Nat), .int .u64 (Oct.word s 1 : Nat), .int .u64 (Oct.word s 2 : Nat), .int .u64 (Oct.word s 3 : Nat), .slice a n c, .int .i64 mn, .int .i64 mx] 30)) W line l) := hwb.later kk
  have HGF : Hid (W < u.heap.size) := hwb.lt
  have HUS : Hid (u.heap.size ≤ (u.alloc (.cells #[.int .i64 2, .int .u64 (Oct.word s 0 : Nat), .int .u64 (Oct.word s 1 : Nat), .int .u64 (Oct.word s 2 : Nat), .int .u64 (Oct.word s 3 : Nat), .slice a n c, .int .i64 mn, .int .i64 mx] 30)).heap.size) := kk.size
  obtain ⟨w1, hw1⟩ : ∃ w1, u.alloc (.cells #[.int .i64 2, .int .u64 (Oct.word s 0 : Nat), .int .u64 (Oct.word s 1 : Nat), .int .u64 (Oct.word s 2 : Nat), .int .u64 (Oct.word s 3 : Nat), .slice a n c, .int .i64 mn, .int .i64 mx] 30) = w1 := ⟨_, rfl⟩
  rw [hw1] at HNA HG HWB HUS
  obtain ⟨A, hA⟩ : ∃ A, u.heap.size = A := ⟨_, rfl⟩
  rw [hA] at HNA
  have HW1 : Hid (u.alloc (.cells #[.int .i64 2, .int .u64 (Oct.word s 0 : Nat), .int .u64 (Oct.word s 1 : Nat), .int .u64 (Oct.word s 2 : Nat), .int .u64 (Oct.word s 3 : Nat), .slice a n c, .int .i64 mn, .int .i64 mx] 30) = w1) := hw1
  have HAA : Hid (u.heap.size = A) := hA
  have HLW : Hid (Below w0.heap.size w0 u ∧ w0.heap.size ≤ W) := ⟨hlow, hW⟩
  clear hw1 hA hlow kk hwb hW hN
  unfold Nd.val
  simp only
  go_enter Tryz.func55, Tryz.ntmps55
  go_upto_region 1 with fail
  rw [HW1.out, HAA.out]
  clear HW1
  obtain ⟨k0, k1⟩ := HWB.out.cells
  go_upto_region 2 with (first | (refine wpList_make_bool rfl _ _ rfl u.heap.size N HUS.out (by show _ = Value.int .i64 ((N : Nat) : Int); rw [← hNI]; rfl) (by show _ = Value.int .i64 ((N : Nat) : Int); rw [← hNI]; rfl) (by omega) ?_; intro w2 hr2 hb2; have HR2 : Hid (RowB w2 u.heap.size (.slice (some ⟨w1.heap.size, 0, none⟩) N N) (List.replicate N false)) := hr2; have HK2 : Hid (Below w1.heap.size w1 w2) := hb2; clear hr2 hb2) | fail)
  clear k0 k1
  obtain ⟨G, hG⟩ : ∃ G, w1.heap.size = G := ⟨_, rfl⟩
  rw [hG] at HR2 ⊢
  have HAG : Hid (A < G ∧ W < A ∧ u.heap.size ≤ G ∧ u.heap.size = A) := by have h1 := HNA.out.lt; have h2 := HGF.out; have h3 := HAA.out; exact ⟨by omega, by omega, by omega, by omega⟩
  have HNA2 : Hid (NB w2 A ⟨2, s, a, n, c, mn, mx⟩) := HNA.out.later HK2.out
  have HG2 : Hid (u.grownBy w2 (some W)) := gro_later HG.out HK2.out
  have HWB2 : Hid (WBk w2 W line l) := HWB.out.later HK2.out
  clear hG HNA HG HK2 HWB HUS HGF HAA
  obtain ⟨k0, k1⟩ := HWB2.out.cells
  have f1 := HWB2.out.frozen 1
  have hlw : IntKind.i64.wrap (l - 1) = l - 1 := by rw [IntKind.wrap_i64]; omega
  have HWB3 : Hid (WBk (w2.setCell ⟨W, 1, none⟩ (.int .i64 (l - 1))) W line (l - 1)) := HWB2.out.set _
  have HG3 : Hid (u.grownBy (w2.setCell ⟨W, 1, none⟩ (.int .i64 (l - 1))) (some W)) := gro_set HG2.out 1 _
  have HNA3 : Hid (NB (w2.setCell ⟨W, 1, none⟩ (.int .i64 (l - 1))) A ⟨2, s, a, n, c, mn, mx⟩) := (Below.heap_setCell w2 ⟨W, 1, none⟩ _ A (fun e => by have := HAG.out; have e2 : A = W := e; omega)).trans HNA2.out
  have HR3 : Hid (RowB (w2.setCell ⟨W, 1, none⟩ (.int .i64 (l - 1))) u.heap.size (.slice (some ⟨G, 0, none⟩) N N) (List.replicate N false)) := HR2.out.same (Below.heap_setCell w2 ⟨W, 1, none⟩ _ G (fun e => by have := HAG.out; have e2 : G = W := e; omega))
  clear HWB2 HG2 HNA2 HR2
  go_upto_region 3 with fail
  obtain ⟨w3, hw3⟩ : ∃ w3, w2.setCell ⟨W, 1, none⟩ (.int .i64 (l - 1)) = w3 := ⟨_, rfl⟩
  rw [hw3] at HWB3 HG3 HNA3 HR3 ⊢
  clear hw3 k0 k1 f1 hlw
  obtain ⟨k0, k1⟩ := HWB3.out.cells
  by_cases hneg : l - 1 < 0
  · have hd : decide (l - 1 < 0) = true := decide_eq_true hneg
    have HE : Hid (EndsPost u W N line (.mk 2 s subs mn mx) i l (.returned (.slice (some ⟨G, 0, none⟩) N N)) w3) := ⟨G, N, _, l - 1, rfl, HR3.out, HG3.out, HWB3.out, by omega, fun h => by rw [sc_mk]; omega, fun _ => rfl, fun h => by omega⟩
    go_wp2
    go_ret
    exact HE.out
  have hd : decide (l - 1 < 0) = false := decide_eq_false hneg
  obtain ⟨m, hm⟩ : ∃ m : Nat, l - 1 = (m : Nat) := ⟨(l - 1).toNat, by omega⟩
  have HM : Hid (l - 1 = (m : Nat)) := hm
  rw [hm] at HWB3 k1 hd hneg ⊢
  have hm2 : m ≤ 20000 := by omega
  clear hm
  go_upto_region 5 with fail
  clear k1 hd hneg
  obtain ⟨y0, y1, y2, y3, y4, y5, y6, y7⟩ := HNA3.out.cells
  simp only at y0 y1 y2 y3 y4 y5 y6 y7
  by_cases hil : i < line.size
  · have hil' : (i : Int) < (line.size : Int) := by omega
    obtain ⟨bb, hbb⟩ : ∃ bb, byt line i = bb := ⟨_, rfl⟩
    have hbq : (line[i]'hil).toNat = bb := by rw [← hbb, byt_eq hil]
    have hb256 : bb < 256 := by rw [← hbb]; exact byt_lt line i
    have HBB : Hid (byt line i = bb) := hbb
    have HNL : Hid (∀ v : Later w3, NB v.at_ A ⟨2, s, a, n, c, mn, mx⟩) := fun v => (v.below.block A HNA3.out.lt).trans HNA3.out
    have HWL : Hid (∀ v : Later w3, WBk v.at_ W line m) := fun v => HWB3.out.later v.below
    have g1 : ∀ v : Later w3, v.at_.cell? ⟨A, 1, none⟩ = some (.int .u64 (Oct.word s 0 : Nat)) := fun v => (HNL.out v).cells.2.1
    have g2 : ∀ v : Later w3, v.at_.cell? ⟨A, 2, none⟩ = some (.int .u64 (Oct.word s 1 : Nat)) := fun v => (HNL.out v).cells.2.2.1
    have g3 : ∀ v : Later w3, v.at_.cell? ⟨A, 3, none⟩ = some (.int .u64 (Oct.word s 2 : Nat)) := fun v => (HNL.out v).cells.2.2.2.1
    have g4 : ∀ v : Later w3, v.at_.cell? ⟨A, 4, none⟩ = some (.int .u64 (Oct.word s 3 : Nat)) := fun v => (HNL.out v).cells.2.2.2.2.1
    have g5 : ∀ v : Later w3, v.at_.cell? ⟨W, 0, none⟩ = some (.string line) := fun v => (HWL.out v).cells.1
    have HCH : Hid (∀ v : Later w3, Calls Tryz.prog 73 #[.agg #[.int .u64 (Oct.word s 0 : Nat), .int .u64 (Oct.word s 1 : Nat), .int .u64 (Oct.word s 2 : Nat), .int .u64 (Oct.word s 3 : Nat)], .int .u8 (bb : Nat)] v.at_ fun e w' => e = .returned (.bool (s bb)) ∧ Below v.at_.heap.size v.at_ w') := fun v => lhas_any s bb v.at_ hb256
    have hne : Nonempty (Later w3) := ⟨⟨w3, Below.refl _ _⟩⟩
    obtain ⟨tk, htk⟩ : ∃ tk, s bb = tk := ⟨_, rfl⟩
    have HTK : Hid (s bb = tk) := htk
    rw [htk] at HCH
    clear hbb htk
    go_upto_region 13 with fail
    clear y0 y1 y2 y3 y4 y5 y6 y7 k0
    go_cut [78] (fun v wx => v = .bool tk ∧ Hid (Below w3.heap.size w3 wx))
    case first =>
      refine wp_region_later (by kernel_rfl) (by kernel_rfl) ?_
      repeat (first
        | go_big_quiet_step ((go_at_call 73; exact calls_later (HCH.out _)))
        | quiet_step ((go_at_call 73; exact calls_later (HCH.out _)))
        | (refine wpQuiet_step (fun K hK => ?_); go_simp; first | (refine ⟨_, fun _ => rfl, hK _ ?_⟩; clear hK K) | (refine hK _ ?_; clear hK K)))
      refine wpQuiet_nil ?_
      intro _ hw'
      obtain ⟨v, hw''⟩ := hw'
      subst hw''
      go_wp2_with fail
      go_meet
      case rel => exact ⟨rfl, v.below⟩
    case rest =>
      obtain ⟨rfl, HKx⟩ := hcut
      clear g1 g2 g3 g4 g5 hne
      have HRx : Hid (RowB wc u.heap.size (.slice (some ⟨G, 0, none⟩) N N) (List.replicate N false)) := HR3.out.same (HKx.out.block G HR3.out.lt.1)
      have HGx : Hid (u.grownBy wc (some W)) := gro_later HG3.out HKx.out
      have HWx : Hid (WBk wc W line m) := HWB3.out.later HKx.out
      clear HR3 HG3 HWB3 HNL HWL HNA3
      obtain ⟨cg, fg⟩ := HRx.out.cell (i := i + 1) (x := false) (by rw [List.getElem?_replicate, if_pos (by omega)])
      obtain ⟨i1, hi1⟩ : ∃ i1, i1 = i + 1 := ⟨_, rfl⟩
      rw [← hi1] at cg fg
      have hi1' : (i : Int) + 1 = (i1 : Nat) := by omega
      have hi1N : (i1 : Int) < (N : Int) := by omega
      have HI1 : Hid (i1 = i + 1) := hi1
      clear hi1
      cases tk with
      | true =>
        have HE : Hid (EndsPost u W N line (.mk 2 s subs mn mx) i l (.returned (.slice (some ⟨G, 0, none⟩) N N)) (wc.setCell ⟨G, i1, none⟩ (.bool true))) := ⟨G, N, (List.replicate N false).set i1 true, m, rfl, HRx.out.put i1 true, gro_new HGx.out (grown_one wc G i1 _) HAG.out.2.2.1, HWx.out.same (Below.heap_setCell wc ⟨G, i1, none⟩ _ W (fun e => by have := HAG.out; have e2 : W = G := e; omega)), by have := HM.out; omega, fun _ => by omega, fun h => by have := HM.out; omega, fun _ j => by rw [bt_set (by simp; omega), Tk, HBB.out, HTK.out, HI1.out]; simp [bt_rep, hil]⟩
        go_wp2
        go_ret
        exact HE.out
      | false =>
        have HE : Hid (EndsPost u W N line (.mk 2 s subs mn mx) i l (.returned (.slice (some ⟨G, 0, none⟩) N N)) wc) := ⟨G, N, _, m, rfl, HRx.out, HGx.out, HWx.out, by have := HM.out; omega, fun _ => by omega, fun h => by have := HM.out; omega, fun _ j => by rw [Tk, HBB.out, HTK.out]; simp [bt_rep]⟩
        go_wp2
        go_ret
        exact HE.out
  · have hil' : ¬ (i : Int) < (line.size : Int) := by omega
    have HWL : Hid (∀ v : Later w3, WBk v.at_ W line m) := fun v => HWB3.out.later v.below
    have g5 : ∀ v : Later w3, v.at_.cell? ⟨W, 0, none⟩ = some (.string line) := fun v => (HWL.out v).cells.1
    have hne : Nonempty (Later w3) := ⟨⟨w3, Below.refl _ _⟩⟩
    have hdl : decide ((i : Int) < (line.size : Int)) = false := decide_eq_false hil'
    have hdl2 : decide (i < line.size) = false := decide_eq_false hil
    go_upto_region 13 with fail
    clear y0 y1 y2 y3 y4 y5 y6 y7 k0
    go_cut [78] (fun v wx => v = .bool false ∧ Hid (Below w3.heap.size w3 wx))
    case first =>
      refine wp_region_later (by kernel_rfl) (by kernel_rfl) ?_
      repeat (first
        | go_big_quiet_step (fail)
        | quiet_step (fail)
        | (refine wpQuiet_step (fun K hK => ?_); go_simp; first | (refine ⟨_, fun _ => rfl, hK _ ?_⟩; clear hK K) | (refine hK _ ?_; clear hK K)))
      refine wpQuiet_nil ?_
      intro _ hw'
      obtain ⟨v, hw''⟩ := hw'
      subst hw''
      go_wp2_with fail
      go_meet
      case rel => exact ⟨rfl, v.below⟩
    case rest =>
      obtain ⟨rfl, HKx⟩ := hcut
      have HE : Hid (EndsPost u W N line (.mk 2 s subs mn mx) i l (.returned (.slice (some ⟨G, 0, none⟩) N N)) wc) := ⟨G, N, _, m, rfl, HR3.out.same (HKx.out.block G HR3.out.lt.1), gro_later HG3.out HKx.out, HWB3.out.later HKx.out, by have := HM.out; omega, fun _ => by omega, fun h => by have := HM.out; omega, fun _ j => by rw [Tk]; simp [bt_rep, hil]⟩
      clear g5 hne
      go_wp2
      go_ret
      exact HE.out
end Go.Proofs.YtmjnobdlgbojoaaGreatDoor
