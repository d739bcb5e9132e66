
import Derived.Test.YtmjnobdlgbojoaaGreatDoorG43
namespace Go.Proofs.YtmjnobdlgbojoaaGreatDoor
open Go.RowKit
attribute [local go_sem ↓] Go.wp_at_zero Go.wp_at_succ
set_option maxRecDepth 4000 in
set_option maxHeartbeats 4000000 in
theorem trim_1 {w0 : World} {s : Oct.S} {mn mx : Int} {a : Option Addr} {c : Nat} : TrimV w0 (.mk 1 s [] mn mx) ⟨1, s, a, 0, c, mn, mx⟩ := by
  intro w hlow
  have HT : Hid (trim (.mk 1 s [] mn mx) = .mk 1 s [] mn mx) := by show _ = _; rw [trim]; simp
  rw [HT.out]
  clear HT
  have kk : Below w.heap.size w ((w.alloc (.cells #[.int .i64 1, .int .u64 (Oct.word s 0 : Nat), .int .u64 (Oct.word s 1 : Nat), .int .u64 (Oct.word s 2 : Nat), .int .u64 (Oct.word s 3 : Nat), .slice a 0 c, .int .i64 mn, .int .i64 mx] 30)).alloc (.cells #[.int .i64 0, .int .u64 0, .int .u64 0, .int .u64 0, .int .u64 0, .slice none 0 0, .int .i64 0, .int .i64 0] 30)) := ((Below.refl _ _).alloc (Nat.le_refl _) _).alloc (by simp) _
  have HNA : Hid (NB ((w.alloc (.cells #[.int .i64 1, .int .u64 (Oct.word s 0 : Nat), .int .u64 (Oct.word s 1 : Nat), .int .u64 (Oct.word s 2 : Nat), .int .u64 (Oct.word s 3 : Nat), .slice a 0 c, .int .i64 mn, .int .i64 mx] 30)).alloc (.cells #[.int .i64 0, .int .u64 0, .int .u64 0, .int .u64 0, .int .u64 0, .slice none 0 0, .int .i64 0, .int .i64 0] 30)) w.heap.size ⟨1, s, a, 0, c, mn, mx⟩) := (nb_new w ⟨1, s, a, 0, c, mn, mx⟩).later ((Below.refl _ _).alloc (Nat.le_refl _) _)
  have HNR : Hid (NB ((w.alloc (.cells #[.int .i64 1, .int .u64 (Oct.word s 0 : Nat), .int .u64 (Oct.word s 1 : Nat), .int .u64 (Oct.word s 2 : Nat), .int .u64 (Oct.word s 3 : Nat), .slice a 0 c, .int .i64 mn, .int .i64 mx] 30)).alloc (.cells #[.int .i64 0, .int .u64 0, .int .u64 0, .int .u64 0, .int .u64 0, .slice none 0 0, .int .i64 0, .int .i64 0] 30)) (w.heap.size + 1) zeroNd) := by
    have h1 := nb_zero (w.alloc (.cells #[.int .i64 1, .int .u64 (Oct.word s 0 : Nat), .int .u64 (Oct.word s 1 : Nat), .int .u64 (Oct.word s 2 : Nat), .int .u64 (Oct.word s 3 : Nat), .slice a 0 c, .int .i64 mn, .int .i64 mx] 30))
    rw [show (w.alloc (.cells #[.int .i64 1, .int .u64 (Oct.word s 0 : Nat), .int .u64 (Oct.word s 1 : Nat), .int .u64 (Oct.word s 2 : Nat), .int .u64 (Oct.word s 3 : Nat), .slice a 0 c, .int .i64 mn, .int .i64 mx] 30)).heap.size = w.heap.size + 1 by simp] at h1
    exact h1
  have HB : Hid (Below w.heap.size w ((w.alloc (.cells #[.int .i64 1, .int .u64 (Oct.word s 0 : Nat), .int .u64 (Oct.word s 1 : Nat), .int .u64 (Oct.word s 2 : Nat), .int .u64 (Oct.word s 3 : Nat), .slice a 0 c, .int .i64 mn, .int .i64 mx] 30)).alloc (.cells #[.int .i64 0, .int .u64 0, .int .u64 0, .int .u64 0, .int .u64 0, .slice none 0 0, .int .i64 0, .int .i64 0] 30))) := kk
  have HSZ : Hid (w.heap.size + 2 ≤ ((w.alloc (.cells #[.int .i64 1, .int .u64 (Oct.word s 0 : Nat), .int .u64 (Oct.word s 1 : Nat), .int .u64 (Oct.word s 2 : Nat), .int .u64 (Oct.word s 3 : Nat), .slice a 0 c, .int .i64 mn, .int .i64 mx] 30)).alloc (.cells #[.int .i64 0, .int .u64 0, .int .u64 0, .int .u64 0, .int .u64 0, .slice none 0 0, .int .i64 0, .int .i64 0] 30)).heap.size) := by show _ ≤ _; simp
  obtain ⟨w1, hw1⟩ : ∃ w1, (w.alloc (.cells #[.int .i64 1, .int .u64 (Oct.word s 0 : Nat), .int .u64 (Oct.word s 1 : Nat), .int .u64 (Oct.word s 2 : Nat), .int .u64 (Oct.word s 3 : Nat), .slice a 0 c, .int .i64 mn, .int .i64 mx] 30)).alloc (.cells #[.int .i64 0, .int .u64 0, .int .u64 0, .int .u64 0, .int .u64 0, .slice none 0 0, .int .i64 0, .int .i64 0] 30) = w1 := ⟨_, rfl⟩
  rw [hw1] at HNA HNR HB HSZ
  obtain ⟨A, hA⟩ : ∃ A, w.heap.size = A := ⟨_, rfl⟩
  obtain ⟨R, hR⟩ : ∃ R, w.heap.size + 1 = R := ⟨_, rfl⟩
  rw [hA] at HNA
  rw [hR] at HNR
  have HW1 : Hid ((w.alloc (.cells #[.int .i64 1, .int .u64 (Oct.word s 0 : Nat), .int .u64 (Oct.word s 1 : Nat), .int .u64 (Oct.word s 2 : Nat), .int .u64 (Oct.word s 3 : Nat), .slice a 0 c, .int .i64 mn, .int .i64 mx] 30)).alloc (.cells #[.int .i64 0, .int .u64 0, .int .u64 0, .int .u64 0, .int .u64 0, .slice none 0 0, .int .i64 0, .int .i64 0] 30) = w1) := hw1
  have HAA : Hid (w.heap.size = A) := hA
  have HRR : Hid (w.heap.size + 1 = R) := hR
  have HRW : Hid (w.heap.size ≤ R) := by show _ ≤ _; omega
  have HLW : Hid (Below w0.heap.size w0 w) := hlow
  have HL1 : Hid (Below w0.heap.size w0 w1) := below_two hlow (below_low HB.out hlow.size)
  clear hw1 hA hR hlow kk
  obtain ⟨y0, y1, y2, y3, y4, y5, y6, y7⟩ := HNA.out.cells
  simp only at y0 y1 y2 y3 y4 y5 y6 y7
  obtain ⟨q0, q1, q2, q3, q4, q5, q6, q7⟩ := HNR.out.cells
  have f0 := HNR.out.frozen 0
  have f1 := HNR.out.frozen 1
  have f2 := HNR.out.frozen 2
  have f3 := HNR.out.frozen 3
  have f4 := HNR.out.frozen 4
  have f5 := HNR.out.frozen 5
  have f6 := HNR.out.frozen 6
  have f7 := HNR.out.frozen 7
  unfold Nd.val
  simp only
  go_enter Tryz.func22, Tryz.ntmps22
  go_upto_region 1 with fail
  rw [HW1.out, HRR.out, HAA.out]
  clear HW1
  have HG : Hid (NB (put8 w1 R ⟨1, s, a, 0, c, mn, mx⟩) R ⟨1, s, a, 0, c, mn, mx⟩) := HNR.out.put8 _
  have HP : Hid (TrimPost w (.mk 1 s [] mn mx) (.returned (Nd.val ⟨1, s, a, 0, c, mn, mx⟩)) (put8 w1 R ⟨1, s, a, 0, c, mn, mx⟩)) := trim_end HB.out HRW.out (NwAt.leaf _ _ 1 s mn mx a c)
  unfold put8 at HG HP
  simp only at HG HP
  go_wp2
  exact post_node (x := ⟨1, s, a, 0, c, mn, mx⟩) Tryz.f22 2 rfl rfl rfl HG.out HP.out
set_option maxRecDepth 4000 in
set_option maxHeartbeats 4000000 in
theorem trim_2 {w0 : World} {s : Oct.S} {mn mx : Int} {a : Option Addr} {c : Nat} : TrimV w0 (.mk 2 s [] mn mx) ⟨2, s, a, 0, c, mn, mx⟩ := by
  intro w hlow
  have HT : Hid (trim (.mk 2 s [] mn mx) = .mk 2 s [] mn mx) := by show _ = _; rw [trim]; simp
  rw [HT.out]
  clear HT
  have kk : Below w.heap.size w ((w.alloc (.cells #[.int .i64 2, .int .u64 (Oct.word s 0 : Nat), .int .u64 (Oct.word s 1 : Nat), .int .u64 (Oct.word s 2 : Nat), .int .u64 (Oct.word s 3 : Nat), .slice a 0 c, .int .i64 mn, .int .i64 mx] 30)).alloc (.cells #[.int .i64 0, .int .u64 0, .int .u64 0, .int .u64 0, .int .u64 0, .slice none 0 0, .int .i64 0, .int .i64 0] 30)) := ((Below.refl _ _).alloc (Nat.le_refl _) _).alloc (by simp) _
  have HNA : Hid (NB ((w.alloc (.cells #[.int .i64 2, .int .u64 (Oct.word s 0 : Nat), .int .u64 (Oct.word s 1 : Nat), .int .u64 (Oct.word s 2 : Nat), .int .u64 (Oct.word s 3 : Nat), .slice a 0 c, .int .i64 mn, .int .i64 mx] 30)).alloc (.cells #[.int .i64 0, .int .u64 0, .int .u64 0, .int .u64 0, .int .u64 0, .slice none 0 0, .int .i64 0, .int .i64 0] 30)) w.heap.size ⟨2, s, a, 0, c, mn, mx⟩) := (nb_new w ⟨2, s, a, 0, c, mn, mx⟩).later ((Below.refl _ _).alloc (Nat.le_refl _) _)
  have HNR : Hid (NB ((w.alloc (.cells #[.int .i64 2, .int .u64 (Oct.word s 0 : Nat), .int .u64 (Oct.word s 1 : Nat), .int .u64 (Oct.word s 2 : Nat), .int .u64 (Oct.word s 3 : Nat), .slice a 0 c, .int .i64 mn, .int .i64 mx] 30)).alloc (.cells #[.int .i64 0, .int .u64 0, .int .u64 0, .int .u64 0, .int .u64 0, .slice none 0 0, .int .i64 0, .int .i64 0] 30)) (w.heap.size + 1) zeroNd) := by
    have h1 := nb_zero (w.alloc (.cells #[.int .i64 2, .int .u64 (Oct.word s 0 : Nat), .int .u64 (Oct.word s 1 : Nat), .int .u64 (Oct.word s 2 : Nat), .int .u64 (Oct.word s 3 : Nat), .slice a 0 c, .int .i64 mn, .int .i64 mx] 30))
    rw [show (w.alloc (.cells #[.int .i64 2, .int .u64 (Oct.word s 0 : Nat), .int .u64 (Oct.word s 1 : Nat), .int .u64 (Oct.word s 2 : Nat), .int .u64 (Oct.word s 3 : Nat), .slice a 0 c, .int .i64 mn, .int .i64 mx] 30)).heap.size = w.heap.size + 1 by simp] at h1
    exact h1
  have HB : Hid (Below w.heap.size w ((w.alloc (.cells #[.int .i64 2, .int .u64 (Oct.word s 0 : Nat), .int .u64 (Oct.word s 1 : Nat), .int .u64 (Oct.word s 2 : Nat), .int .u64 (Oct.word s 3 : Nat), .slice a 0 c, .int .i64 mn, .int .i64 mx] 30)).alloc (.cells #[.int .i64 0, .int .u64 0, .int .u64 0, .int .u64 0, .int .u64 0, .slice none 0 0, .int .i64 0, .int .i64 0] 30))) := kk
  have HSZ : Hid (w.heap.size + 2 ≤ ((w.alloc (.cells #[.int .i64 2, .int .u64 (Oct.word s 0 : Nat), .int .u64 (Oct.word s 1 : Nat), .int .u64 (Oct.word s 2 : Nat), .int .u64 (Oct.word s 3 : Nat), .slice a 0 c, .int .i64 mn, .int .i64 mx] 30)).alloc (.cells #[.int .i64 0, .int .u64 0, .int .u64 0, .int .u64 0, .int .u64 0, .slice none 0 0, .int .i64 0, .int .i64 0] 30)).heap.size) := by show _ ≤ _; simp
  obtain ⟨w1, hw1⟩ : ∃ w1, (w.alloc (.cells #[.int .i64 2, .int .u64 (Oct.word s 0 : Nat), .int .u64 (Oct.word s 1 : Nat), .int .u64 (Oct.word s 2 : Nat), .int .u64 (Oct.word s 3 : Nat), .slice a 0 c, .int .i64 mn, .int .i64 mx] 30)).alloc (.cells #[.int .i64 0, .int .u64 0, .int .u64 0, .int .u64 0, .int .u64 0, .slice none 0 0, .int .i64 0, .int .i64 0] 30) = w1 := ⟨_, rfl⟩
  rw [hw1] at HNA HNR HB HSZ
  obtain ⟨A, hA⟩ : ∃ A, w.heap.size = A := ⟨_, rfl⟩
  obtain ⟨R, hR⟩ : ∃ R, w.heap.size + 1 = R := ⟨_, rfl⟩
  rw [hA] at HNA
  rw [hR] at HNR
  have HW1 : Hid ((w.alloc (.cells #[.int .i64 2, .int .u64 (Oct.word s 0 : Nat), .int .u64 (Oct.word s 1 : Nat), .int .u64 (Oct.word s 2 : Nat), .int .u64 (Oct.word s 3 : Nat), .slice a 0 c, .int .i64 mn, .int .i64 mx] 30)).alloc (.cells #[.int .i64 0, .int .u64 0, .int .u64 0, .int .u64 0, .int .u64 0, .slice none 0 0, .int .i64 0, .int .i64 0] 30) = w1) := hw1
  have HAA : Hid (w.heap.size = A) := hA
  have HRR : Hid (w.heap.size + 1 = R) := hR
  have HRW : Hid (w.heap.size ≤ R) := by show _ ≤ _; omega
  have HLW : Hid (Below w0.heap.size w0 w) := hlow
  have HL1 : Hid (Below w0.heap.size w0 w1) := below_two hlow (below_low HB.out hlow.size)
  clear hw1 hA hR hlow kk
  obtain ⟨y0, y1, y2, y3, y4, y5, y6, y7⟩ := HNA.out.cells
  simp only at y0 y1 y2 y3 y4 y5 y6 y7
  obtain ⟨q0, q1, q2, q3, q4, q5, q6, q7⟩ := HNR.out.cells
  have f0 := HNR.out.frozen 0
  have f1 := HNR.out.frozen 1
  have f2 := HNR.out.frozen 2
  have f3 := HNR.out.frozen 3
  have f4 := HNR.out.frozen 4
  have f5 := HNR.out.frozen 5
  have f6 := HNR.out.frozen 6
  have f7 := HNR.out.frozen 7
  unfold Nd.val
  simp only
  go_enter Tryz.func22, Tryz.ntmps22
  go_upto_region 1 with fail
  rw [HW1.out, HRR.out, HAA.out]
  clear HW1
  have HG : Hid (NB (put8 w1 R ⟨2, s, a, 0, c, mn, mx⟩) R ⟨2, s, a, 0, c, mn, mx⟩) := HNR.out.put8 _
  have HP : Hid (TrimPost w (.mk 2 s [] mn mx) (.returned (Nd.val ⟨2, s, a, 0, c, mn, mx⟩)) (put8 w1 R ⟨2, s, a, 0, c, mn, mx⟩)) := trim_end HB.out HRW.out (NwAt.leaf _ _ 2 s mn mx a c)
  unfold put8 at HG HP
  simp only at HG HP
  go_wp2
  exact post_node (x := ⟨2, s, a, 0, c, mn, mx⟩) Tryz.f22 2 rfl rfl rfl HG.out HP.out
set_option maxRecDepth 4000 in
set_option maxHeartbeats 4000000 in
theorem trim_6 {w0 : World} {s : Oct.S} {mn mx : Int} {a : Option Addr} {c : Nat} : TrimV w0 (.mk 6 s [] mn mx) ⟨6, s, a, 0, c, mn, mx⟩ := by
  intro w hlow
  have HT : Hid (trim (.mk 6 s [] mn mx) = .mk 6 s [] mn mx) := by show _ = _; rw [trim]; simp
  rw [HT.out]
  clear HT
  have kk : Below w.heap.size w ((w.alloc (.cells #[.int .i64 6, .int .u64 (Oct.word s 0 : Nat), .int .u64 (Oct.word s 1 : Nat), .int .u64 (Oct.word s 2 : Nat), .int .u64 (Oct.word s 3 : Nat), .slice a 0 c, .int .i64 mn, .int .i64 mx] 30)).alloc (.cells #[.int .i64 0, .int .u64 0, .int .u64 0, .int .u64 0, .int .u64 0, .slice none 0 0, .int .i64 0, .int .i64 0] 30)) := ((Below.refl _ _).alloc (Nat.le_refl _) _).alloc (by simp) _
  have HNA : Hid (NB ((w.alloc (.cells #[.int .i64 6, .int .u64 (Oct.word s 0 : Nat), .int .u64 (Oct.word s 1 : Nat), .int .u64 (Oct.word s 2 : Nat), .int .u64 (Oct.word s 3 : Nat), .slice a 0 c, .int .i64 mn, .int .i64 mx] 30)).alloc (.cells #[.int .i64 0, .int .u64 0, .int .u64 0, .int .u64 0, .int .u64 0, .slice none 0 0, .int .i64 0, .int .i64 0] 30)) w.heap.size ⟨6, s, a, 0, c, mn, mx⟩) := (nb_new w ⟨6, s, a, 0, c, mn, mx⟩).later ((Below.refl _ _).alloc (Nat.le_refl _) _)
  have HNR : Hid (NB ((w.alloc (.cells #[.int .i64 6, .int .u64 (Oct.word s 0 : Nat), .int .u64 (Oct.word s 1 : Nat), .int .u64 (Oct.word s 2 : Nat), .int .u64 (Oct.word s 3 : Nat), .slice a 0 c, .int .i64 mn, .int .i64 mx] 30)).alloc (.cells #[.int .i64 0, .int .u64 0, .int .u64 0, .int .u64 0, .int .u64 0, .slice none 0 0, .int .i64 0, .int .i64 0] 30)) (w.heap.size + 1) zeroNd) := by
    have h1 := nb_zero (w.alloc (.cells #[.int .i64 6, .int .u64 (Oct.word s 0 : Nat), .int .u64 (Oct.word s 1 : Nat), .int .u64 (Oct.word s 2 : Nat), .int .u64 (Oct.word s 3 : Nat), .slice a 0 c, .int .i64 mn, .int .i64 mx] 30))
    rw [show (w.alloc (.cells #[.int .i64 6, .int .u64 (Oct.word s 0 : Nat), .int .u64 (Oct.word s 1 : Nat), .int .u64 (Oct.word s 2 : Nat), .int .u64 (Oct.word s 3 : Nat), .slice a 0 c, .int .i64 mn, .int .i64 mx] 30)).heap.size = w.heap.size + 1 by simp] at h1
    exact h1
  have HB : Hid (Below w.heap.size w ((w.alloc (.cells #[.int .i64 6, .int .u64 (Oct.word s 0 : Nat), .int .u64 (Oct.word s 1 : Nat), .int .u64 (Oct.word s 2 : Nat), .int .u64 (Oct.word s 3 : Nat), .slice a 0 c, .int .i64 mn, .int .i64 mx] 30)).alloc (.cells #[.int .i64 0, .int .u64 0, .int .u64 0, .int .u64 0, .int .u64 0, .slice none 0 0, .int .i64 0, .int .i64 0] 30))) := kk
  have HSZ : Hid (w.heap.size + 2 ≤ ((w.alloc (.cells #[.int .i64 6, .int .u64 (Oct.word s 0 : Nat), .int .u64 (Oct.word s 1 : Nat), .int .u64 (Oct.word s 2 : Nat), .int .u64 (Oct.word s 3 : Nat), .slice a 0 c, .int .i64 mn, .int .i64 mx] 30)).alloc (.cells #[.int .i64 0, .int .u64 0, .int .u64 0, .int .u64 0, .int .u64 0, .slice none 0 0, .int .i64 0, .int .i64 0] 30)).heap.size) := by show _ ≤ _; simp
  obtain ⟨w1, hw1⟩ : ∃ w1, (w.alloc (.cells #[.int .i64 6, .int .u64 (Oct.word s 0 : Nat), .int .u64 (Oct.word s 1 : Nat), .int .u64 (Oct.word s 2 : Nat), .int .u64 (Oct.word s 3 : Nat), .slice a 0 c, .int .i64 mn, .int .i64 mx] 30)).alloc (.cells #[.int .i64 0, .int .u64 0, .int .u64 0, .int .u64 0, .int .u64 0, .slice none 0 0, .int .i64 0, .int .i64 0] 30) = w1 := ⟨_, rfl⟩
  rw [hw1] at HNA HNR HB HSZ
  obtain ⟨A, hA⟩ : ∃ A, w.heap.size = A := ⟨_, rfl⟩
  obtain ⟨R, hR⟩ : ∃ R, w.heap.size + 1 = R := ⟨_, rfl⟩
  rw [hA] at HNA
  rw [hR] at HNR
  have HW1 : Hid ((w.alloc (.cells #[.int .i64 6, .int .u64 (Oct.word s 0 : Nat), .int .u64 (Oct.word s 1 : Nat), .int .u64 (Oct.word s 2 : Nat), .int .u64 (Oct.word s 3 : Nat), .slice a 0 c, .int .i64 mn, .int .i64 mx] 30)).alloc (.cells #[.int .i64 0, .int .u64 0, .int .u64 0, .int .u64 0, .int .u64 0, .slice none 0 0, .int .i64 0, .int .i64 0] 30) = w1) := hw1
  have HAA : Hid (w.heap.size = A) := hA
  have HRR : Hid (w.heap.size + 1 = R) := hR
  have HRW : Hid (w.heap.size ≤ R) := by show _ ≤ _; omega
  have HLW : Hid (Below w0.heap.size w0 w) := hlow
  have HL1 : Hid (Below w0.heap.size w0 w1) := below_two hlow (below_low HB.out hlow.size)
  clear hw1 hA hR hlow kk
  obtain ⟨y0, y1, y2, y3, y4, y5, y6, y7⟩ := HNA.out.cells
  simp only at y0 y1 y2 y3 y4 y5 y6 y7
  obtain ⟨q0, q1, q2, q3, q4, q5, q6, q7⟩ := HNR.out.cells
  have f0 := HNR.out.frozen 0
  have f1 := HNR.out.frozen 1
  have f2 := HNR.out.frozen 2
  have f3 := HNR.out.frozen 3
  have f4 := HNR.out.frozen 4
  have f5 := HNR.out.frozen 5
  have f6 := HNR.out.frozen 6
  have f7 := HNR.out.frozen 7
  unfold Nd.val
  simp only
  go_enter Tryz.func22, Tryz.ntmps22
  go_upto_region 1 with fail
  rw [HW1.out, HRR.out, HAA.out]
  clear HW1
  have HG : Hid (NB (put8 w1 R ⟨6, s, a, 0, c, mn, mx⟩) R ⟨6, s, a, 0, c, mn, mx⟩) := HNR.out.put8 _
  have HP : Hid (TrimPost w (.mk 6 s [] mn mx) (.returned (Nd.val ⟨6, s, a, 0, c, mn, mx⟩)) (put8 w1 R ⟨6, s, a, 0, c, mn, mx⟩)) := trim_end HB.out HRW.out (NwAt.leaf _ _ 6 s mn mx a c)
  unfold put8 at HG HP
  simp only at HG HP
  go_wp2
  exact post_node (x := ⟨6, s, a, 0, c, mn, mx⟩) Tryz.f22 2 rfl rfl rfl HG.out HP.out
set_option maxRecDepth 4000 in
set_option maxHeartbeats 4000000 in
theorem trim_7 {w0 : World} {s : Oct.S} {mn mx : Int} {a : Option Addr} {c : Nat} : TrimV w0 (.mk 7 s [] mn mx) ⟨7, s, a, 0, c, mn, mx⟩ := by
  intro w hlow
  have HT : Hid (trim (.mk 7 s [] mn mx) = .mk 7 s [] mn mx) := by show _ = _; rw [trim]; simp
  rw [HT.out]
  clear HT
  have kk : Below w.heap.size w ((w.alloc (.cells #[.int .i64 7, .int .u64 (Oct.word s 0 : Nat), .int .u64 (Oct.word s 1 : Nat), .int .u64 (Oct.word s 2 : Nat), .int .u64 (Oct.word s 3 : Nat), .slice a 0 c, .int .i64 mn, .int .i64 mx] 30)).alloc (.cells #[.int .i64 0, .int .u64 0, .int .u64 0, .int .u64 0, .int .u64 0, .slice none 0 0, .int .i64 0, .int .i64 0] 30)) := ((Below.refl _ _).alloc (Nat.le_refl _) _).alloc (by simp) _
  have HNA : Hid (NB ((w.alloc (.cells #[.int .i64 7, .int .u64 (Oct.word s 0 : Nat), .int .u64 (Oct.word s 1 : Nat), .int .u64 (Oct.word s 2 : Nat), .int .u64 (Oct.word s 3 : Nat), .slice a 0 c, .int .i64 mn, .int .i64 mx] 30)).alloc (.cells #[.int .i64 0, .int .u64 0, .int .u64 0, .int .u64 0, .int .u64 0, .slice none 0 0, .int .i64 0, .int .i64 0] 30)) w.heap.size ⟨7, s, a, 0, c, mn, mx⟩) := (nb_new w ⟨7, s, a, 0, c, mn, mx⟩).later ((Below.refl _ _).alloc (Nat.le_refl _) _)
  have HNR : Hid (NB ((w.alloc (.cells #[.int .i64 7, .int .u64 (Oct.word s 0 : Nat), .int .u64 (Oct.word s 1 : Nat), .int .u64 (Oct.word s 2 : Nat), .int .u64 (Oct.word s 3 : Nat), .slice a 0 c, .int .i64 mn, .int .i64 mx] 30)).alloc (.cells #[.int .i64 0, .int .u64 0, .int .u64 0, .int .u64 0, .int .u64 0, .slice none 0 0, .int .i64 0, .int .i64 0] 30)) (w.heap.size + 1) zeroNd) := by
    have h1 := nb_zero (w.alloc (.cells #[.int .i64 7, .int .u64 (Oct.word s 0 : Nat), .int .u64 (Oct.word s 1 : Nat), .int .u64 (Oct.word s 2 : Nat), .int .u64 (Oct.word s 3 : Nat), .slice a 0 c, .int .i64 mn, .int .i64 mx] 30))
    rw [show (w.alloc (.cells #[.int .i64 7, .int .u64 (Oct.word s 0 : Nat), .int .u64 (Oct.word s 1 : Nat), .int .u64 (Oct.word s 2 : Nat), .int .u64 (Oct.word s 3 : Nat), .slice a 0 c, .int .i64 mn, .int .i64 mx] 30)).heap.size = w.heap.size + 1 by simp] at h1
    exact h1
  have HB : Hid (Below w.heap.size w ((w.alloc (.cells #[.int .i64 7, .int .u64 (Oct.word s 0 : Nat), .int .u64 (Oct.word s 1 : Nat), .int .u64 (Oct.word s 2 : Nat), .int .u64 (Oct.word s 3 : Nat), .slice a 0 c, .int .i64 mn, .int .i64 mx] 30)).alloc (.cells #[.int .i64 0, .int .u64 0, .int .u64 0, .int .u64 0, .int .u64 0, .slice none 0 0, .int .i64 0, .int .i64 0] 30))) := kk
  have HSZ : Hid (w.heap.size + 2 ≤ ((w.alloc (.cells #[.int .i64 7, .int .u64 (Oct.word s 0 : Nat), .int .u64 (Oct.word s 1 : Nat), .int .u64 (Oct.word s 2 : Nat), .int .u64 (Oct.word s 3 : Nat), .slice a 0 c, .int .i64 mn, .int .i64 mx] 30)).alloc (.cells #[.int .i64 0, .int .u64 0, .int .u64 0, .int .u64 0, .int .u64 0, .slice none 0 0, .int .i64 0, .int .i64 0] 30)).heap.size) := by show _ ≤ _; simp
  obtain ⟨w1, hw1⟩ : ∃ w1, (w.alloc (.cells #[.int .i64 7, .int .u64 (Oct.word s 0 : Nat), .int .u64 (Oct.word s 1 : Nat), .int .u64 (Oct.word s 2 : Nat), .int .u64 (Oct.word s 3 : Nat), .slice a 0 c, .int .i64 mn, .int .i64 mx] 30)).alloc (.cells #[.int .i64 0, .int .u64 0, .int .u64 0, .int .u64 0, .int .u64 0, .slice none 0 0, .int .i64 0, .int .i64 0] 30) = w1 := ⟨_, rfl⟩
  rw [hw1] at HNA HNR HB HSZ
  obtain ⟨A, hA⟩ : ∃ A, w.heap.size = A := ⟨_, rfl⟩
  obtain ⟨R, hR⟩ : ∃ R, w.heap.size + 1 = R := ⟨_, rfl⟩
  rw [hA] at HNA
  rw [hR] at HNR
  have HW1 : Hid ((w.alloc (.cells #[.int .i64 7, .int .u64 (Oct.word s 0 : Nat), .int .u64 (Oct.word s 1 : Nat), .int .u64 (Oct.word s 2 : Nat), .int .u64 (Oct.word s 3 : Nat), .slice a 0 c, .int .i64 mn, .int .i64 mx] 30)).alloc (.cells #[.int .i64 0, .int .u64 0, .int .u64 0, .int .u64 0, .int .u64 0, .slice none 0 0, .int .i64 0, .int .i64 0] 30) = w1) := hw1
  have HAA : Hid (w.heap.size = A) := hA
  have HRR : Hid (w.heap.size + 1 = R) := hR
  have HRW : Hid (w.heap.size ≤ R) := by show _ ≤ _; omega
  have HLW : Hid (Below w0.heap.size w0 w) := hlow
  have HL1 : Hid (Below w0.heap.size w0 w1) := below_two hlow (below_low HB.out hlow.size)
  clear hw1 hA hR hlow kk
  obtain ⟨y0, y1, y2, y3, y4, y5, y6, y7⟩ := HNA.out.cells
  simp only at y0 y1 y2 y3 y4 y5 y6 y7
  obtain ⟨q0, q1, q2, q3, q4, q5, q6, q7⟩ := HNR.out.cells
  have f0 := HNR.out.frozen 0
  have f1 := HNR.out.frozen 1
  have f2 := HNR.out.frozen 2
  have f3 := HNR.out.frozen 3
  have f4 := HNR.out.frozen 4
  have f5 := HNR.out.frozen 5
  have f6 := HNR.out.frozen 6
  have f7 := HNR.out.frozen 7
  unfold Nd.val
  simp only
  go_enter Tryz.func22, Tryz.ntmps22
  go_upto_region 1 with fail
  rw [HW1.out, HRR.out, HAA.out]
  clear HW1
  have HG : Hid (NB (put8 w1 R ⟨7, s, a, 0, c, mn, mx⟩) R ⟨7, s, a, 0, c, mn, mx⟩) := HNR.out.put8 _
  have HP : Hid (TrimPost w (.mk 7 s [] mn mx) (.returned (Nd.val ⟨7, s, a, 0, c, mn, mx⟩)) (put8 w1 R ⟨7, s, a, 0, c, mn, mx⟩)) := trim_end HB.out HRW.out (NwAt.leaf _ _ 7 s mn mx a c)
  unfold put8 at HG HP
  simp only at HG HP
  go_wp2
  exact post_node (x := ⟨7, s, a, 0, c, mn, mx⟩) Tryz.f22 2 rfl rfl rfl HG.out HP.out
set_option maxRecDepth 4000 in
set_option maxHeartbeats 8000000 in
theorem trim_seq {w0 : World} {s : Oct.S} {subs : List Tn} {mn mx : Int} {a : Option Addr} {n c : Nat} {vs : List Nd} (hn : n = subs.length) (hl : vs.length = n) (hm : n ≤ 1000000) (hr : RowAt (fun _ => True) w0 a vs) (hs : ∀ (i : Nat) (t : Tn) (v : Nd), subs[i]? = some t → vs[i]? = some v → TrimV w0 t v) : TrimV w0 (.mk 3 s subs mn mx) ⟨3, s, a, n, c, mn, mx⟩ := by
  intro w hlow
  obtain ⟨T0, hT0⟩ : ∃ T0, packT (trims subs) = T0 := ⟨_, rfl⟩
  have HT : Hid (trim (.mk 3 s subs mn mx) = T0) := by show _ = _; rw [trim, if_pos rfl]; exact hT0
  have HTS : Hid (∀ u : World, Below w0.heap.size w0 u → Calls Tryz.prog 49 #[.slice a n c] u (TrimPost u T0)) := fun u hu => by rw [← hT0]; exact tseq_any hn hl hm hr hs u hu
  rw [HT.out]
  clear hT0 HT hs hr hn hl
  have kk : Below w.heap.size w ((w.alloc (.cells #[.int .i64 3, .int .u64 (Oct.word s 0 : Nat), .int .u64 (Oct.word s 1 : Nat), .int .u64 (Oct.word s 2 : Nat), .int .u64 (Oct.word s 3 : Nat), .slice a n c, .int .i64 mn, .int .i64 mx] 30)).alloc (.cells #[.int .i64 0, .int .u64 0, .int .u64 0, .int .u64 0, .int .u64 0, .slice none 0 0, .int .i64 0, .int .i64 0] 30)) := ((Below.refl _ _).alloc (Nat.le_refl _) _).alloc (by simp) _
  have HNA : Hid (NB ((w.alloc (.cells #[.int .i64 3, .int .u64 (Oct.word s 0 : Nat), .int .u64 (Oct.word s 1 : Nat), .int .u64 (Oct.word s 2 : Nat), .int .u64 (Oct.word s 3 : Nat), .slice a n c, .int .i64 mn, .int .i64 mx] 30)).alloc (.cells #[.int .i64 0, .int .u64 0, .int .u64 0, .int .u64 0, .int .u64 0, .slice none 0 0, .int .i64 0, .int .i64 0] 30)) w.heap.size ⟨3, s, a, n, c, mn, mx⟩) := (nb_new w ⟨3, s, a, n, c, mn, mx⟩).later ((Below.refl _ _).alloc (Nat.le_refl _) _)
  have HNR : Hid (NB ((w.alloc (.cells #[.int .i64 3, .int .u64 (Oct.word s 0 : Nat), .int .u64 (Oct.word s 1 : Nat), .int .u64 (Oct.word s 2 : Nat), .int .u64 (Oct.word s 3 : Nat), .slice a n c, .int .i64 mn, .int .i64 mx] 30)).alloc (.cells #[.int .i64 0, .int .u64 0, .int .u64 0, .int .u64 0, .int .u64 0, .slice none 0 0, .int .i64 0, .int .i64 0] 30)) (w.heap.size + 1) zeroNd) := by
    have h1 := nb_zero (w.alloc (.cells #[.int .i64 3, .int .u64 (Oct.word s 0 : Nat), .int .u64 (Oct.word s 1 : Nat), .int .u64 (Oct.word s 2 : Nat), .int .u64 (Oct.word s 3 : Nat), .slice a n c, .int .i64 mn, .int .i64 mx] 30))
    rw [show (w.alloc (.cells #[.int .i64 3, .int .u64 (Oct.word s 0 : Nat), .int .u64 (Oct.word s 1 : Nat), .int .u64 (Oct.word s 2 : Nat), .int .u64 (Oct.word s 3 : Nat), .slice a n c, .int .i64 mn, .int .i64 mx] 30)).heap.size = w.heap.size + 1 by simp] at h1
    exact h1
  have HB : Hid (Below w.heap.size w ((w.alloc (.cells #[.int .i64 3, .int .u64 (Oct.word s 0 : Nat), .int .u64 (Oct.word s 1 : Nat), .int .u64 (Oct.word s 2 : Nat), .int .u64 (Oct.word s 3 : Nat), .slice a n c, .int .i64 mn, .int .i64 mx] 30)).alloc (.cells #[.int .i64 0, .int .u64 0, .int .u64 0, .int .u64 0, .int .u64 0, .slice none 0 0, .int .i64 0, .int .i64 0] 30))) := kk
  have HSZ : Hid (w.heap.size + 2 ≤ ((w.alloc (.cells #[.int .i64 3, .int .u64 (Oct.word s 0 : Nat), .int .u64 (Oct.word s 1 : Nat), .int .u64 (Oct.word s 2 : Nat), .int .u64 (Oct.word s 3 : Nat), .slice a n c, .int .i64 mn, .int .i64 mx] 30)).alloc (.cells #[.int .i64 0, .int .u64 0, .int .u64 0, .int .u64 0, .int .u64 0, .slice none 0 0, .int .i64 0, .int .i64 0] 30)).heap.size) := by show _ ≤ _; simp
  obtain ⟨w1, hw1⟩ : ∃ w1, (w.alloc (.cells #[.int .i64 3, .int .u64 (Oct.word s 0 : Nat), .int .u64 (Oct.word s 1 : Nat), .int .u64 (Oct.word s 2 : Nat), .int .u64 (Oct.word s 3 : Nat), .slice a n c, .int .i64 mn, .int .i64 mx] 30)).alloc (.cells #[.int .i64 0, .int .u64 0, .int .u64 0, .int .u64 0, .int .u64 0, .slice none 0 0, .int .i64 0, .int .i64 0] 30) = w1 := ⟨_, rfl⟩
  rw [hw1] at HNA HNR HB HSZ
  obtain ⟨A, hA⟩ : ∃ A, w.heap.size = A := ⟨_, rfl⟩
  obtain ⟨R, hR⟩ : ∃ R, w.heap.size + 1 = R := ⟨_, rfl⟩
  rw [hA] at HNA
  rw [hR] at HNR
  have HW1 : Hid ((w.alloc (.cells #[.int .i64 3, .int .u64 (Oct.word s 0 : Nat), .int .u64 (Oct.word s 1 : Nat), .int .u64 (Oct.word s 2 : Nat), .int .u64 (Oct.word s 3 : Nat), .slice a n c, .int .i64 mn, .int .i64 mx] 30)).alloc (.cells #[.int .i64 0, .int .u64 0, .int .u64 0, .int .u64 0, .int .u64 0, .slice none 0 0, .int .i64 0, .int .i64 0] 30) = w1) := hw1
  have HAA : Hid (w.heap.size = A) := hA
  have HRR : Hid (w.heap.size + 1 = R) := hR
  have HRW : Hid (w.heap.size ≤ R) := by show _ ≤ _; omega
  have HLW : Hid (Below w0.heap.size w0 w) := hlow
  have HL1 : Hid (Below w0.heap.size w0 w1) := below_two hlow (below_low HB.out hlow.size)
  clear hw1 hA hR hlow kk
  obtain ⟨y0, y1, y2, y3, y4, y5, y6, y7⟩ := HNA.out.cells
  simp only at y0 y1 y2 y3 y4 y5 y6 y7
  obtain ⟨q0, q1, q2, q3, q4, q5, q6, q7⟩ := HNR.out.cells
  have f0 := HNR.out.frozen 0
  have f1 := HNR.out.frozen 1
  have f2 := HNR.out.frozen 2
  have f3 := HNR.out.frozen 3
  have f4 := HNR.out.frozen 4
  have f5 := HNR.out.frozen 5
  have f6 := HNR.out.frozen 6
  have f7 := HNR.out.frozen 7
  unfold Nd.val
  simp only
  go_enter Tryz.func22, Tryz.ntmps22
  go_upto_region 1 with fail
  rw [HW1.out, HRR.out, HAA.out]
  clear HW1
  have HC : Hid (Calls Tryz.prog 49 #[.slice a n c] w1 (TrimPost w1 T0)) := HTS.out w1 HL1.out
  go_wp2_with fail
  refine HC.out.mono ?_
  rintro e w3 ⟨k3, y, rfl, hy3⟩
  have HNR3 : Hid (NB w3 R zeroNd) := HNR.out.later k3
  have HB3 : Hid (Below w.heap.size w w3) := below_step HB.out k3
  have HG : Hid (NB (put8 w3 R y) R y) := HNR3.out.put8 _
  have HP : Hid (TrimPost w T0 (.returned (Nd.val y)) (put8 w3 R y)) := trim_end HB3.out HRW.out (hy3.keep (fun b hb _ => ⟨by have := HSZ.out; omega, by have := HSZ.out; have := HRR.out; omega⟩) (fun _ _ _ => rfl))
  clear k3 hy3 HC HNA HB y0 y1 y2 y3 y4 y5 y6 y7 q0 q1 q2 q3 q4 q5 q6 q7 f0 f1 f2 f3 f4 f5 f6 f7
  obtain ⟨q0, q1, q2, q3, q4, q5, q6, q7⟩ := HNR3.out.cells
  have f0 := HNR3.out.frozen 0
  have f1 := HNR3.out.frozen 1
  have f2 := HNR3.out.frozen 2
  have f3 := HNR3.out.frozen 3
  have f4 := HNR3.out.frozen 4
  have f5 := HNR3.out.frozen 5
  have f6 := HNR3.out.frozen 6
  have f7 := HNR3.out.frozen 7
  unfold put8 at HG HP
  unfold Nd.val
  go_wp2
  exact post_node (x := y) Tryz.f22 2 rfl rfl rfl HG.out HP.out
set_option maxRecDepth 4000 in
set_option maxHeartbeats 8000000 in
theorem trim_times {w0 : World} {s : Oct.S} {t : Tn} {v : Nd} {mn mx : Int} {a : Option Addr} {c : Nat} (hr : RowAt (fun _ => True) w0 a [v]) (hs : TrimV w0 t v) : TrimV w0 (.mk 5 s [t] mn mx) ⟨5, s, a, 1, c, mn, mx⟩ := by
  intro w hlow
  obtain ⟨T0, hT0⟩ : ∃ T0, timesT (trim t) mn mx = T0 := ⟨_, rfl⟩
  have HT : Hid (trim (.mk 5 s [t] mn mx) = T0) := by show _ = _; rw [trim, if_neg (by decide), if_neg (by decide), if_pos rfl, trimH]; exact hT0
  have HTS : Hid (∀ u : World, Below w0.heap.size w0 u → Calls Tryz.prog 50 #[Nd.val ⟨5, s, a, 1, c, mn, mx⟩] u (TrimPost u T0)) := fun u hu => by rw [← hT0]; exact ttimes_any hr hs u hu
  rw [HT.out]
  clear hT0 HT hs hr
  have kk : Below w.heap.size w ((w.alloc (.cells #[.int .i64 5, .int .u64 (Oct.word s 0 : Nat), .int .u64 (Oct.word s 1 : Nat), .int .u64 (Oct.word s 2 : Nat), .int .u64 (Oct.word s 3 : Nat), .slice a 1 c, .int .i64 mn, .int .i64 mx] 30)).alloc (.cells #[.int .i64 0, .int .u64 0, .int .u64 0, .int .u64 0, .int .u64 0, .slice none 0 0, .int .i64 0, .int .i64 0] 30)) := ((Below.refl _ _).alloc (Nat.le_refl _) _).alloc (by simp) _
  have HNA : Hid (NB ((w.alloc (.cells #[.int .i64 5, .int .u64 (Oct.word s 0 : Nat), .int .u64 (Oct.word s 1 : Nat), .int .u64 (Oct.word s 2 : Nat), .int .u64 (Oct.word s 3 : Nat), .slice a 1 c, .int .i64 mn, .int .i64 mx] 30)).alloc (.cells #[.int .i64 0, .int .u64 0, .int .u64 0, .int .u64 0, .int .u64 0, .slice none 0 0, .int .i64 0, .int .i64 0] 30)) w.heap.size ⟨5, s, a, 1, c, mn, mx⟩) := (nb_new w ⟨5, s, a, 1, c, mn, mx⟩).later ((Below.refl _ _).alloc (Nat.le_refl _) _)
  have HNR : Hid (NB ((w.alloc (.cells #[.int .i64 5, .int .u64 (Oct.word s 0 : Nat), .int .u64 (Oct.word s 1 : Nat), .int .u64 (Oct.word s 2 : Nat), .int .u64 (Oct.word s 3 : Nat), .slice a 1 c, .int .i64 mn, .int .i64 mx] 30)).alloc (.cells #[.int .i64 0, .int .u64 0, .int .u64 0, .int .u64 0, .int .u64 0, .slice none 0 0, .int .i64 0, .int .i64 0] 30)) (w.heap.size + 1) zeroNd) := by
    have h1 := nb_zero (w.alloc (.cells #[.int .i64 5, .int .u64 (Oct.word s 0 : Nat), .int .u64 (Oct.word s 1 : Nat), .int .u64 (Oct.word s 2 : Nat), .int .u64 (Oct.word s 3 : Nat), .slice a 1 c, .int .i64 mn, .int .i64 mx] 30))
    rw [show (w.alloc (.cells #[.int .i64 5, .int .u64 (Oct.word s 0 : Nat), .int .u64 (Oct.word s 1 : Nat), .int .u64 (Oct.word s 2 : Nat), .int .u64 (Oct.word s 3 : Nat), .slice a 1 c, .int .i64 mn, .int .i64 mx] 30)).heap.size = w.heap.size + 1 by simp] at h1
    exact h1
  have HB : Hid (Below w.heap.size w ((w.alloc (.cells #[.int .i64 5, .int .u64 (Oct.word s 0 : Nat), .int .u64 (Oct.word s 1 : Nat), .int .u64 (Oct.word s 2 : Nat), .int .u64 (Oct.word s 3 : Nat), .slice a 1 c, .int .i64 mn, .int .i64 mx] 30)).alloc (.cells #[.int .i64 0, .int .u64 0, .int .u64 0, .int .u64 0, .int .u64 0, .slice none 0 0, .int .i64 0, .int .i64 0] 30))) := kk
  have HSZ : Hid (w.heap.size + 2 ≤ ((w.alloc (.cells #[.int .i64 5, .int .u64 (Oct.word s 0 : Nat), .int .u64 (Oct.word s 1 : Nat), .int .u64 (Oct.word s 2 : Nat), .int .u64 (Oct.word s 3 : Nat), .slice a 1 c, .int .i64 mn, .int .i64 mx] 30)).alloc (.cells #[.int .i64 0, .int .u64 0, .int .u64 0, .int .u64 0, .int .u64 0, .slice none 0 0, .int .i64 0, .int .i64 0] 30)).heap.size) := by show _ ≤ _; simp
  obtain ⟨w1, hw1⟩ : ∃ w1, (w.alloc (.cells #[.int .i64 5, .int .u64 (Oct.word s 0 : Nat), .int .u64 (Oct.word s 1 : Nat), .int .u64 (Oct.word s 2 : Nat), .int .u64 (Oct.word s 3 : Nat), .slice a 1 c, .int .i64 mn, .int .i64 mx] 30)).alloc (.cells #[.int .i64 0, .int .u64 0, .int .u64 0, .int .u64 0, .int .u64 0, .slice none 0 0, .int .i64 0, .int .i64 0] 30) = w1 := ⟨_, rfl⟩
  rw [hw1] at HNA HNR HB HSZ
  obtain ⟨A, hA⟩ : ∃ A, w.heap.size = A := ⟨_, rfl⟩
  obtain ⟨R, hR⟩ : ∃ R, w.heap.size + 1 = R := ⟨_, rfl⟩
  rw [hA] at HNA
  rw [hR] at HNR
  have HW1 : Hid ((w.alloc (.cells #[.int .i64 5, .int .u64 (Oct.word s 0 : Nat), .int .u64 (Oct.word s 1 : Nat), .int .u64 (Oct.word s 2 : Nat), .int .u64 (Oct.word s 3 : Nat), .slice a 1 c, .int .i64 mn, .int .i64 mx] 30)).alloc (.cells #[.int .i64 0, .int .u64 0, .int .u64 0, .int .u64 0, .int .u64 0, .slice none 0 0, .int .i64 0, .int .i64 0] 30) = w1) := hw1
  have HAA : Hid (w.heap.size = A) := hA
  have HRR : Hid (w.heap.size + 1 = R) := hR
  have HRW : Hid (w.heap.size ≤ R) := by show _ ≤ _; omega
  have HLW : Hid (Below w0.heap.size w0 w) := hlow
  have HL1 : Hid (Below w0.heap.size w0 w1) := below_two hlow (below_low HB.out hlow.size)
  clear hw1 hA hR hlow kk
  obtain ⟨y0, y1, y2, y3, y4, y5, y6, y7⟩ := HNA.out.cells
  simp only at y0 y1 y2 y3 y4 y5 y6 y7
  obtain ⟨q0, q1, q2, q3, q4, q5, q6, q7⟩ := HNR.out.cells
  have f0 := HNR.out.frozen 0
  have f1 := HNR.out.frozen 1
  have f2 := HNR.out.frozen 2
  have f3 := HNR.out.frozen 3
  have f4 := HNR.out.frozen 4
  have f5 := HNR.out.frozen 5
  have f6 := HNR.out.frozen 6
  have f7 := HNR.out.frozen 7
  unfold Nd.val
  simp only
  go_enter Tryz.func22, Tryz.ntmps22
  go_upto_region 1 with fail
  rw [HW1.out, HRR.out, HAA.out]
  clear HW1
  have HC : Hid (Calls Tryz.prog 50 #[Nd.val ⟨5, s, a, 1, c, mn, mx⟩] w1 (TrimPost w1 T0)) := HTS.out w1 HL1.out
  unfold Nd.val at HC
  simp only at HC
  go_wp2_with fail
  refine HC.out.mono ?_
  rintro e w3 ⟨k3, y, rfl, hy3⟩
  have HNR3 : Hid (NB w3 R zeroNd) := HNR.out.later k3
  have HB3 : Hid (Below w.heap.size w w3) := below_step HB.out k3
  have HG : Hid (NB (put8 w3 R y) R y) := HNR3.out.put8 _
  have HP : Hid (TrimPost w T0 (.returned (Nd.val y)) (put8 w3 R y)) := trim_end HB3.out HRW.out (hy3.keep (fun b hb _ => ⟨by have := HSZ.out; omega, by have := HSZ.out; have := HRR.out; omega⟩) (fun _ _ _ => rfl))
  clear k3 hy3 HC HNA HB y0 y1 y2 y3 y4 y5 y6 y7 q0 q1 q2 q3 q4 q5 q6 q7 f0 f1 f2 f3 f4 f5 f6 f7
  obtain ⟨q0, q1, q2, q3, q4, q5, q6, q7⟩ := HNR3.out.cells
  have f0 := HNR3.out.frozen 0
  have f1 := HNR3.out.frozen 1
  have f2 := HNR3.out.frozen 2
  have f3 := HNR3.out.frozen 3
  have f4 := HNR3.out.frozen 4
  have f5 := HNR3.out.frozen 5
  have f6 := HNR3.out.frozen 6
  have f7 := HNR3.out.frozen 7
  unfold put8 at HG HP
  unfold Nd.val
  go_wp2
  exact post_node (x := y) Tryz.f22 2 rfl rfl rfl HG.out HP.out
theorem trimA_more {subs : List Tn} {j : Nat} {t : Tn} (h : subs[j]? = some t) : (subs.take j).map trim ++ [trim t] = (subs.take (j + 1)).map trim := by
  rw [List.take_add_one, h]
  simp
set_option maxRecDepth 4000 in
set_option maxHeartbeats 8000000 in
theorem trim_alt {w0 : World} {s : Oct.S} {subs : List Tn} {mn mx : Int} {a : Option Addr} {n c : Nat} {vs : List Nd} (hn : n = subs.length) (hl : vs.length = n) (hm : n ≤ 1000000) (hr : RowAt (fun _ => True) w0 a vs) (hs : ∀ (i : Nat) (t : Tn) (v : Nd), subs[i]? = some t → vs[i]? = some v → TrimV w0 t v) : TrimV w0 (.mk 4 s subs mn mx) ⟨4, s, a, n, c, mn, mx⟩ := by
  intro w hlow
  have HT : Hid (trim (.mk 4 s subs mn mx) = .mk 4 Oct.none (subs.map trim) 0 0) := by show _ = _; rw [trim, if_neg (by decide), if_pos rfl, trimA_map]
  rw [HT.out]
  have HIH : Hid (∀ (i : Nat) (t : Tn) (v : Nd), subs[i]? = some t → vs[i]? = some v → TrimV w0 t v) := hs
  have HRO : Hid (RowAt (fun _ => True) w0 a vs) := hr
  have HN : Hid (n = subs.length) := hn
  have HL : Hid (vs.length = n) := hl
  clear HT hs hr hn hl
  have kk : Below w.heap.size w ((w.alloc (.cells #[.int .i64 4, .int .u64 (Oct.word s 0 : Nat), .int .u64 (Oct.word s 1 : Nat), .int .u64 (Oct.word s 2 : Nat), .int .u64 (Oct.word s 3 : Nat), .slice a n c, .int .i64 mn, .int .i64 mx] 30)).alloc (.cells #[.int .i64 0, .int .u64 0, .int .u64 0, .int .u64 0, .int .u64 0, .slice none 0 0, .int .i64 0, .int .i64 0] 30)) := ((Below.refl _ _).alloc (Nat.le_refl _) _).alloc (by simp) _
  have HNA : Hid (NB ((w.alloc (.cells #[.int .i64 4, .int .u64 (Oct.word s 0 : Nat), .int .u64 (Oct.word s 1 : Nat), .int .u64 (Oct.word s 2 : Nat), .int .u64 (Oct.word s 3 : Nat), .slice a n c, .int .i64 mn, .int .i64 mx] 30)).alloc (.cells #[.int .i64 0, .int .u64 0, .int .u64 0, .int .u64 0, .int .u64 0, .slice none 0 0, .int .i64 0, .int .i64 0] 30)) w.heap.size ⟨4, s, a, n, c, mn, mx⟩) := (nb_new w ⟨4, s, a, n, c, mn, mx⟩).later ((Below.refl _ _).alloc (Nat.le_refl _) _)
  have HNR : Hid (NB ((w.alloc (.cells #[.int .i64 4, .int .u64 (Oct.word s 0 : Nat), .int .u64 (Oct.word s 1 : Nat), .int .u64 (Oct.word s 2 : Nat), .int .u64 (Oct.word s 3 : Nat), .slice a n c, .int .i64 mn, .int .i64 mx] 30)).alloc (.cells #[.int .i64 0, .int .u64 0, .int .u64 0, .int .u64 0, .int .u64 0, .slice none 0 0, .int .i64 0, .int .i64 0] 30)) (w.heap.size + 1) zeroNd) := by
    have h1 := nb_zero (w.alloc (.cells #[.int .i64 4, .int .u64 (Oct.word s 0 : Nat), .int .u64 (Oct.word s 1 : Nat), .int .u64 (Oct.word s 2 : Nat), .int .u64 (Oct.word s 3 : Nat), .slice a n c, .int .i64 mn, .int .i64 mx] 30))
    rw [show (w.alloc (.cells #[.int .i64 4, .int .u64 (Oct.word s 0 : Nat), .int .u64 (Oct.word s 1 : Nat), .int .u64 (Oct.word s 2 : Nat), .int .u64 (Oct.word s 3 : Nat), .slice a n c, .int .i64 mn, .int .i64 mx] 30)).heap.size = w.heap.size + 1 by simp] at h1
    exact h1
  have HB : Hid (Below w.heap.size w ((w.alloc (.cells #[.int .i64 4, .int .u64 (Oct.word s 0 : Nat), .int .u64 (Oct.word s 1 : Nat), .int .u64 (Oct.word s 2 : Nat), .int .u64 (Oct.word s 3 : Nat), .slice a n c, .int .i64 mn, .int .i64 mx] 30)).alloc (.cells #[.int .i64 0, .int .u64 0, .int .u64 0, .int .u64 0, .int .u64 0, .slice none 0 0, .int .i64 0, .int .i64 0] 30))) := kk
  have HSZ : Hid (w.heap.size + 2 ≤ ((w.alloc (.cells #[.int .i64 4, .int .u64 (Oct.word s 0 : Nat), .int .u64 (Oct.word s 1 : Nat), .int .u64 (Oct.word s 2 : Nat), .int .u64 (Oct.word s 3 : Nat), .slice a n c, .int .i64 mn, .int .i64 mx] 30)).alloc (.cells #[.int .i64 0, .int .u64 0, .int .u64 0, .int .u64 0, .int .u64 0, .slice none 0 0, .int .i64 0, .int .i64 0] 30)).heap.size) := by show _ ≤ _; simp
  obtain ⟨w1, hw1⟩ : ∃ w1, (w.alloc (.cells #[.int .i64 4, .int .u64 (Oct.word s 0 : Nat), .int .u64 (Oct.word s 1 : Nat), .int .u64 (Oct.word s 2 : Nat), .int .u64 (Oct.word s 3 : Nat), .slice a n c, .int .i64 mn, .int .i64 mx] 30)).alloc (.cells #[.int .i64 0, .int .u64 0, .int .u64 0, .int .u64 0, .int .u64 0, .slice none 0 0, .int .i64 0, .int .i64 0] 30) = w1 := ⟨_, rfl⟩
  rw [hw1] at HNA HNR HB HSZ
  obtain ⟨A, hA⟩ : ∃ A, w.heap.size = A := ⟨_, rfl⟩
  obtain ⟨R, hR⟩ : ∃ R, w.heap.size + 1 = R := ⟨_, rfl⟩
  rw [hA] at HNA
  rw [hR] at HNR
  have HW1 : Hid ((w.alloc (.cells #[.int .i64 4, .int .u64 (Oct.word s 0 : Nat), .int .u64 (Oct.word s 1 : Nat), .int .u64 (Oct.word s 2 : Nat), .int .u64 (Oct.word s 3 : Nat), .slice a n c, .int .i64 mn, .int .i64 mx] 30)).alloc (.cells #[.int .i64 0, .int .u64 0, .int .u64 0, .int .u64 0, .int .u64 0, .slice none 0 0, .int .i64 0, .int .i64 0] 30) = w1) := hw1
  have HAA : Hid (w.heap.size = A) := hA
  have HRR : Hid (w.heap.size + 1 = R) := hR
  have HRW : Hid (w.heap.size ≤ R) := by show _ ≤ _; omega
  have HLW : Hid (Below w0.heap.size w0 w) := hlow
  have HL1 : Hid (Below w0.heap.size w0 w1) := below_two hlow (below_low HB.out hlow.size)
  clear hw1 hA hR hlow kk
  obtain ⟨y0, y1, y2, y3, y4, y5, y6, y7⟩ := HNA.out.cells
  simp only at y0 y1 y2 y3 y4 y5 y6 y7
  obtain ⟨q0, q1, q2, q3, q4, q5, q6, q7⟩ := HNR.out.cells
  have f0 := HNR.out.frozen 0
  have f1 := HNR.out.frozen 1
  have f2 := HNR.out.frozen 2
  have f3 := HNR.out.frozen 3
  have f4 := HNR.out.frozen 4
  have f5 := HNR.out.frozen 5
  have f6 := HNR.out.frozen 6
  have f7 := HNR.out.frozen 7
  unfold Nd.val
  simp only
  go_enter Tryz.func22, Tryz.ntmps22
  go_upto_region 1 with fail
  rw [HW1.out, HRR.out, HAA.out]
  clear HW1
  go_upto_region 6 with (first | (refine wpList_make_nodes rfl _ _ rfl (w.heap.size + 2) n HSZ.out rfl rfl (by omega) ?_; intro w2 hf2 hb2; have HF2 : Hid (Fil w2 (w.heap.size + 2) w1.heap.size n []) := hf2; have HK2 : Hid (Below w1.heap.size w1 w2) := hb2; clear hf2 hb2) | fail)
  obtain ⟨G, hG⟩ : ∃ G, w1.heap.size = G := ⟨_, rfl⟩
  have HNA2 : Hid (NB w2 A ⟨4, s, a, n, c, mn, mx⟩) := HNA.out.later HK2.out
  have HNR2 : Hid (NB w2 R zeroNd) := HNR.out.later HK2.out
  have HB2 : Hid (Below w.heap.size w w2) := below_step HB.out HK2.out
  rw [hG] at HF2 ⊢
  clear hG HNA HNR HB y0 y1 y2 y3 y4 y5 y6 y7 q0 q1 q2 q3 q4 q5 q6 q7 f0 f1 f2 f3 f4 f5 f6 f7 HK2
  obtain ⟨y0, y1, y2, y3, y4, y5, y6, y7⟩ := HNA2.out.cells
  simp only at y0 y1 y2 y3 y4 y5 y6 y7
  go_wp2_with fail
  clear y0 y1 y2 y3 y4 y5 y6 y7 HNA2
  go_loopw [22] (fun i u => ∃ (j : Nat) (ts : List Tn), i = .int .i64 (j : Nat) ∧ j ≤ n ∧ Hid (ts.length = j ∧ ts = (subs.take j).map trim) ∧ Hid (Fil u (w.heap.size + 2) G n ts) ∧ Hid (NB u R zeroNd) ∧ Hid (Below w.heap.size w u)) (fun i _ => n - (intOf i).toNat)
  case atStart => exact ⟨0, [], rfl, Nat.zero_le _, ⟨rfl, by simp⟩, HF2, HNR2, HB2⟩
  case round =>
    clear HF2 HNR2 HB2
    obtain ⟨j, ts, rfl, hjn, HTS, HF, HNR, HB⟩ := hrel
    by_cases hlt : j < n
    · have hlt' : (j : Int) < (n : Int) := by omega
      obtain ⟨t, ht⟩ : ∃ t, subs[j]? = some t := ⟨_, List.getElem?_eq_getElem (by rw [← HN.out]; exact hlt)⟩
      obtain ⟨v, hv⟩ : ∃ v, vs[j]? = some v := ⟨_, List.getElem?_eq_getElem (by rw [HL.out]; exact hlt)⟩
      have HLr : Hid (Below w0.heap.size w0 wr) := below_two HLW.out (below_low HB.out HLW.out.size)
      have hrow := (HRO.out.keep (w' := wr) (Y := fun _ => True) (fun _ _ _ => trivial) (fun b hb hlt => HLr.out.block b hlt)).nth hv
      obtain ⟨g, off, rfl, e0, e1, e2, e3, e4, e5, e6, e7⟩ := hrow
      have kk : Below wr.heap.size wr (wr.alloc (.cells #[.int .i64 v.k, .int .u64 (Oct.word v.s 0 : Nat), .int .u64 (Oct.word v.s 1 : Nat), .int .u64 (Oct.word v.s 2 : Nat), .int .u64 (Oct.word v.s 3 : Nat), .slice v.a v.n v.c, .int .i64 v.mn, .int .i64 v.mx] 30)) := (Below.refl _ _).alloc (Nat.le_refl _) _
      have HF2 : Hid (Fil (wr.alloc (.cells #[.int .i64 v.k, .int .u64 (Oct.word v.s 0 : Nat), .int .u64 (Oct.word v.s 1 : Nat), .int .u64 (Oct.word v.s 2 : Nat), .int .u64 (Oct.word v.s 3 : Nat), .slice v.a v.n v.c, .int .i64 v.mn, .int .i64 v.mx] 30)) (w.heap.size + 2) G n ts) := HF.out.later kk
      have HNR2 : Hid (NB (wr.alloc (.cells #[.int .i64 v.k, .int .u64 (Oct.word v.s 0 : Nat), .int .u64 (Oct.word v.s 1 : Nat), .int .u64 (Oct.word v.s 2 : Nat), .int .u64 (Oct.word v.s 3 : Nat), .slice v.a v.n v.c, .int .i64 v.mn, .int .i64 v.mx] 30)) R zeroNd) := HNR.out.later kk
      have HB2 : Hid (Below w.heap.size w (wr.alloc (.cells #[.int .i64 v.k, .int .u64 (Oct.word v.s 0 : Nat), .int .u64 (Oct.word v.s 1 : Nat), .int .u64 (Oct.word v.s 2 : Nat), .int .u64 (Oct.word v.s 3 : Nat), .slice v.a v.n v.c, .int .i64 v.mn, .int .i64 v.mx] 30))) := below_step HB.out kk
      have HNV : Hid (NB (wr.alloc (.cells #[.int .i64 v.k, .int .u64 (Oct.word v.s 0 : Nat), .int .u64 (Oct.word v.s 1 : Nat), .int .u64 (Oct.word v.s 2 : Nat), .int .u64 (Oct.word v.s 3 : Nat), .slice v.a v.n v.c, .int .i64 v.mn, .int .i64 v.mx] 30)) wr.heap.size v) := nb_new wr v
      have HLr2 : Hid (Below w0.heap.size w0 (wr.alloc (.cells #[.int .i64 v.k, .int .u64 (Oct.word v.s 0 : Nat), .int .u64 (Oct.word v.s 1 : Nat), .int .u64 (Oct.word v.s 2 : Nat), .int .u64 (Oct.word v.s 3 : Nat), .slice v.a v.n v.c, .int .i64 v.mn, .int .i64 v.mx] 30))) := below_step HLr.out kk
      go_upto_region 9 with fail
      obtain ⟨w2, hw2⟩ : ∃ w2, wr.alloc (.cells #[.int .i64 v.k, .int .u64 (Oct.word v.s 0 : Nat), .int .u64 (Oct.word v.s 1 : Nat), .int .u64 (Oct.word v.s 2 : Nat), .int .u64 (Oct.word v.s 3 : Nat), .slice v.a v.n v.c, .int .i64 v.mn, .int .i64 v.mx] 30) = w2 := ⟨_, rfl⟩
      obtain ⟨A2, hA2⟩ : ∃ A2, wr.heap.size = A2 := ⟨_, rfl⟩
      rw [hw2] at HF2 HNR2 HB2 HNV HLr2 ⊢
      rw [hA2] at HNV ⊢
      clear hw2 hA2 kk HF HNR HB HLr e0 e1 e2 e3 e4 e5 e6 e7
      obtain ⟨y0, y1, y2, y3, y4, y5, y6, y7⟩ := HNV.out.cells
      have HC : Hid (Calls Tryz.prog 22 #[v.val] w2 (TrimPost w2 (trim t))) := HIH.out j t v ht hv w2 HLr2.out
      have HTN : Hid (ts ++ [trim t] = (subs.take (j + 1)).map trim) := by
        show _ = _
        rw [HTS.out.2]
        exact trimA_more ht
      obtain ⟨T1, hT1⟩ : ∃ T1, trim t = T1 := ⟨_, rfl⟩
      rw [hT1] at HC HTN
      clear hT1 ht hv
      unfold Nd.val at HC
      go_wp2_with fail
      refine HC.out.mono ?_
      rintro e w3 ⟨k3, y, rfl, hy3⟩
      have HF3 : Hid (Fil w3 (w.heap.size + 2) G n ts) := HF2.out.later k3
      have HNR3 : Hid (NB w3 R zeroNd) := HNR2.out.later k3
      have HB3 : Hid (Below w.heap.size w w3) := below_step HB2.out k3
      have HY3 : Hid (NwAt (fun b => w.heap.size + 2 ≤ b ∧ b ≠ G) w3 T1 y) := hy3.keep (fun b hb _ => ⟨by have := HF2.out.lt; have := HF2.out.1; omega, by have := HF2.out.lt; omega⟩) (fun _ _ _ => rfl)
      clear k3 hy3 HC HF2 HNR2 HB2 HLr2 HNV y0 y1 y2 y3 y4 y5 y6 y7
      obtain ⟨p0, c0⟩ := HF3.out.cell (j * 8) (by omega)
      obtain ⟨p1, c1⟩ := HF3.out.cell (j * 8 + 1) (by omega)
      obtain ⟨p2, c2⟩ := HF3.out.cell (j * 8 + 2) (by omega)
      obtain ⟨p3, c3⟩ := HF3.out.cell (j * 8 + 3) (by omega)
      obtain ⟨p4, c4⟩ := HF3.out.cell (j * 8 + 4) (by omega)
      obtain ⟨p5, c5⟩ := HF3.out.cell (j * 8 + 5) (by omega)
      obtain ⟨p6, c6⟩ := HF3.out.cell (j * 8 + 6) (by omega)
      obtain ⟨p7, c7⟩ := HF3.out.cell (j * 8 + 7) (by omega)
      have f0 := HF3.out.frozen (j * 8)
      have f1 := HF3.out.frozen (j * 8 + 1)
      have f2 := HF3.out.frozen (j * 8 + 2)
      have f3 := HF3.out.frozen (j * 8 + 3)
      have f4 := HF3.out.frozen (j * 8 + 4)
      have f5 := HF3.out.frozen (j * 8 + 5)
      have f6 := HF3.out.frozen (j * 8 + 6)
      have f7 := HF3.out.frozen (j * 8 + 7)
      have HF4 : Hid (Fil (putN w3 G (j * 8) y) (w.heap.size + 2) G n (ts ++ [T1])) := by
        have h1 := HF3.out.put (by rw [HTS.out.1]; exact hlt) HY3.out
        rw [HTS.out.1] at h1
        exact h1
      have HNR4 : Hid (NB (putN w3 G (j * 8) y) R zeroNd) := (heap_putN w3 G (j * 8) y R (by have := HF3.out.1; have := HRR.out; omega)).trans HNR3.out
      have HB4 : Hid (Below w.heap.size w (putN w3 G (j * 8) y)) := below_putN HB3.out (by have := HF3.out.1; omega) _ _
      unfold putN at HF4 HNR4 HB4
      unfold Nd.val
      clear HF3 HNR3 HB3 HY3
      go_wp2
      go_roundw
      case rel => exact ⟨j + 1, ts ++ [T1], by go_num, by omega, ⟨by rw [List.length_append, HTS.out.1]; rfl, HTN.out⟩, HF4, HNR4, HB4⟩
      case measure => simp [intOf]; omega
    · have hlt' : ¬ (j : Int) < (n : Int) := by omega
      have HEQ : Hid (subs.map trim = ts ∧ n = ts.length) := by
        refine ⟨?_, ?_⟩
        · rw [HTS.out.2, List.take_of_length_le (by rw [← HN.out]; omega)]
        · rw [HTS.out.1]; omega
      have HX := Fil.node HF.out HEQ.out.2 4 0 0
      have HG : Hid (NB (put8 wr R ⟨4, Oct.none, some ⟨G, 0, none⟩, n, n, 0, 0⟩) R ⟨4, Oct.none, some ⟨G, 0, none⟩, n, n, 0, 0⟩) := HNR.out.put8 _
      have HP : Hid (TrimPost w (.mk 4 Oct.none (subs.map trim) 0 0) (.returned (Nd.val ⟨4, Oct.none, some ⟨G, 0, none⟩, n, n, 0, 0⟩)) (put8 wr R ⟨4, Oct.none, some ⟨G, 0, none⟩, n, n, 0, 0⟩)) := by rw [HEQ.out.1]; exact trim_end HB.out HRW.out (HX.keep (fun b hb _ => ⟨by omega, by have := HRR.out; omega⟩) (fun _ _ _ => rfl))
      unfold put8 at HG HP
      simp only [word0] at HG HP
      obtain ⟨q0, q1, q2, q3, q4, q5, q6, q7⟩ := HNR.out.cells
      have f0 := HNR.out.frozen 0
      have f1 := HNR.out.frozen 1
      have f2 := HNR.out.frozen 2
      have f3 := HNR.out.frozen 3
      have f4 := HNR.out.frozen 4
      have f5 := HNR.out.frozen 5
      have f6 := HNR.out.frozen 6
      have f7 := HNR.out.frozen 7
      clear HX HIH HRO HTS HEQ HF
      go_wp2
      exact post_node (x := ⟨4, Oct.none, some ⟨G, 0, none⟩, n, n, 0, 0⟩) Tryz.f22 2 rfl rfl rfl HG.out HP.out
theorem trim_any {w0 : World} {t : Tn} {x : Nd} (h : InAt w0 t x) : (plc t).2 = true → TrimV w0 t x := by
  induction h with
  | mk k s subs mn mx a n c vs hn hl hm hr hin ih =>
    intro hp
    obtain ⟨hsh, hsub⟩ := plc_subs hp
    have hs : ∀ (i : Nat) (t : Tn) (v : Nd), subs[i]? = some t → vs[i]? = some v → TrimV w0 t v := fun i t v ht hv => ih i t v ht hv (hsub t (List.mem_of_getElem? ht))
    have hleaf : (k = 1 ∨ k = 2 ∨ k = 6 ∨ k = 7) → subs = [] ∧ n = 0 := fun hk => by
      have h0 := shp_leaf hsh hk
      exact ⟨List.length_eq_zero_iff.1 h0, by omega⟩
    rcases shp_kind hsh with rfl | rfl | rfl | rfl | rfl | rfl | rfl
    · obtain ⟨rfl, rfl⟩ := hleaf (by decide)
      exact trim_1
    · obtain ⟨rfl, rfl⟩ := hleaf (by decide)
      exact trim_2
    · exact trim_seq hn hl hm hr hs
    · exact trim_alt hn hl hm hr hs
    · obtain ⟨h1, _, _⟩ := shp_five hsh
      match subs, vs, hn, hl, h1 with
      | [u], [v], hn, hl, _ =>
        have hn : n = 1 := hn
        subst hn
        exact trim_times hr (hs 0 u v rfl rfl)
      | [u], [], hn, hl, _ => simp at hn hl; omega
      | [u], _ :: _ :: _, hn, hl, _ => simp at hn hl; omega
    · obtain ⟨rfl, rfl⟩ := hleaf (by decide)
      exact trim_6
    · obtain ⟨rfl, rfl⟩ := hleaf (by decide)
      exact trim_7
end Go.Proofs.YtmjnobdlgbojoaaGreatDoor
