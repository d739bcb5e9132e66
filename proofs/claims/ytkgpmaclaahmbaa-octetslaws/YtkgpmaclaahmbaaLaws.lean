/- The walk of heronlaw03.OctetsLaws: what joining, meeting and turning about owe each other. -/
import Derived.Test.YtkgpmaclaahmbaaLaws6
import Derived.Test.YtkgpmaclaahmbaaLaws8
import Derived.Test.YtkgpmaclaahmbaaLaws10
import Derived.Test.YtkgpmaclaahmbaaLaws12
import Derived.Deep.RegionHeld3
import Derived.Deep.DrawnRows
import Derived.Deep.DeepCutAuto
namespace Go.Proofs.Ytkgpmaclaahmbaa
open Go.RowKit
attribute [local go_sem ↓] Go.wp_at_zero Go.wp_at_succ

theorem eval_T {a : Act} {k : Nat} : a.eval (.tmp k) = T a k := by simp [Act.eval]
theorem law_of (w : World) : Calls Try.prog 13 #[.slice (some ⟨w.heap.size, 0, none⟩) 1 1] (w.alloc (.cells #[.int .u8 10] 5)) fun e w' => e = .returned (.agg #[.int .u64 (Oct.word (Oct.has [10]) 0 : Nat), .int .u64 (Oct.word (Oct.has [10]) 1 : Nat), .int .u64 (Oct.word (Oct.has [10]) 2 : Nat), .int .u64 (Oct.word (Oct.has [10]) 3 : Nat)]) ∧ Below w.heap.size w w' := by
  refine (of_any _ 1 1 [10] _ rfl (by simp [maxLen]) (bytesAt_new w [10] 5 (0, 0)) (by decide)).mono ?_
  rintro e w' ⟨rfl, hb⟩
  exact ⟨rfl, below_trans ((Below.refl _ _).alloc (Nat.le_refl _) _) hb (by simp)⟩
theorem law_none (w : World) : Calls Try.prog 13 #[.slice none 0 0] w fun e w' => e = .returned (.agg #[.int .u64 (Oct.word Oct.none 0 : Nat), .int .u64 (Oct.word Oct.none 1 : Nat), .int .u64 (Oct.word Oct.none 2 : Nat), .int .u64 (Oct.word Oct.none 3 : Nat)]) ∧ Below w.heap.size w w' := by
  refine (of_any none 0 0 [] w rfl (by simp [maxLen]) (Or.inl rfl) (by simp)).mono ?_
  rintro e w' ⟨rfl, hb⟩
  exact ⟨by rw [setV_congr (s := Oct.has []) (t := Oct.none) (fun b _ => by simp [Oct.has, Oct.none])]; rfl, hb⟩
theorem law_all (w : World) : Calls Try.prog 10 #[.int .u8 0, .int .u8 255] w fun e w' => e = .returned (.agg #[.int .u64 (Oct.word (Oct.span 0 255) 0 : Nat), .int .u64 (Oct.word (Oct.span 0 255) 1 : Nat), .int .u64 (Oct.word (Oct.span 0 255) 2 : Nat), .int .u64 (Oct.word (Oct.span 0 255) 3 : Nat)]) ∧ Below w.heap.size w w' := span_any 0 255 w (by decide) (by decide)

set_option maxRecDepth 8000 in
set_option maxHeartbeats 8000000 in
theorem laws_any (a b c : Oct.S) (w : World) : Calls Try.prog 5 #[setV a, setV b, setV c] w fun e w' => e = .returned (.bool true) ∧ Below w.heap.size w w' := by
  unfold setV
  go_enter Try.func5, Try.ntmps5
  go_wp2_with fail
  refine (known_any _).mono ?_
  rintro e w1 ⟨rfl, hb1⟩
  obtain ⟨u1, hu1⟩ : ∃ u1, u1 = w.alloc (.cells #[.int .u64 (Oct.word a 0 : Nat), .int .u64 (Oct.word a 1 : Nat), .int .u64 (Oct.word a 2 : Nat), .int .u64 (Oct.word a 3 : Nat)] 24) := ⟨_, rfl⟩
  obtain ⟨u2, hu2⟩ : ∃ u2, u2 = u1.alloc (.cells #[.int .u64 (Oct.word b 0 : Nat), .int .u64 (Oct.word b 1 : Nat), .int .u64 (Oct.word b 2 : Nat), .int .u64 (Oct.word b 3 : Nat)] 24) := ⟨_, rfl⟩
  rw [← hu1, ← hu2] at hb1
  have z1 : u1.heap.size = w.heap.size + 1 := by rw [hu1]; simp
  have z2 : u2.heap.size = w.heap.size + 1 + 1 := by rw [hu2, World.size_alloc, z1]
  have e1 : Below w.heap.size w u1 := by rw [hu1]; exact (Below.refl _ _).alloc (Nat.le_refl _) _
  have e2 : Below u1.heap.size u1 u2 := by rw [hu2]; exact (Below.refl _ _).alloc (Nat.le_refl _) _
  have e3 := (Below.refl u2.heap.size u2).alloc (Nat.le_refl _) (.cells #[.int .u64 (Oct.word c 0 : Nat), .int .u64 (Oct.word c 1 : Nat), .int .u64 (Oct.word c 2 : Nat), .int .u64 (Oct.word c 3 : Nat)] 24)
  have HA1 : Hid (SB w1 w.heap.size a) := by
    have h : SB u1 w.heap.size a := by rw [hu1]; exact sb_new w a
    exact ((h.later e2).later e3).later hb1
  have HB1 : Hid (SB w1 (w.heap.size + 1) b) := by
    have h : SB u2 (w.heap.size + 1) b := by rw [hu2, ← z1]; exact sb_new u1 b
    exact (h.later e3).later hb1
  have HC1 : Hid (SB w1 (w.heap.size + 1 + 1) c) := by
    have h : SB _ u2.heap.size c := sb_new u2 c
    rw [z2] at h
    exact h.later hb1
  have HW1 : Hid (Below w.heap.size w w1) := below_trans (below_trans (below_trans e1 e2 e1.size) e3 (Nat.le_trans e1.size e2.size)) hb1 (by simp; omega)
  clear hb1 e1 e2 e3 z1 z2 hu1 hu2
  go_wp2_with fail
  refine (law_of _).mono ?_
  rintro e w2 ⟨rfl, hb2⟩
  obtain ⟨w3, hw3⟩ : ∃ w3, w3 = w2.alloc (.cells #[.int .u64 (Oct.word (Oct.has [10]) 0 : Nat), .int .u64 (Oct.word (Oct.has [10]) 1 : Nat), .int .u64 (Oct.word (Oct.has [10]) 2 : Nat), .int .u64 (Oct.word (Oct.has [10]) 3 : Nat)] 24) := ⟨_, rfl⟩
  have hb3 : Below w1.heap.size w1 w3 := by rw [hw3]; exact hb2.alloc hb2.size _
  have HL3 : Hid (SB w3 w2.heap.size (Oct.has [10])) := by rw [hw3]; exact sb_new w2 _
  have HW3 : Hid (w3 = _) := hw3
  clear hw3 hb2
  obtain ⟨L, hL⟩ : ∃ L, L = w2.heap.size := ⟨_, rfl⟩
  go_wp2_with fail
  rw [← HW3.out, ← hL]
  rw [← hL] at HL3
  clear HW3 hL
  refine (law_none _).mono ?_
  rintro e w4 ⟨rfl, hb4⟩
  obtain ⟨w5, hw5⟩ : ∃ w5, w5 = w4.alloc (.cells #[.int .u64 (Oct.word Oct.none 0 : Nat), .int .u64 (Oct.word Oct.none 1 : Nat), .int .u64 (Oct.word Oct.none 2 : Nat), .int .u64 (Oct.word Oct.none 3 : Nat)] 24) := ⟨_, rfl⟩
  have hb5 : Below w3.heap.size w3 w5 := by rw [hw5]; exact hb4.alloc hb4.size _
  have HN5 : Hid (SB w5 w4.heap.size Oct.none) := by rw [hw5]; exact sb_new w4 _
  have HW5 : Hid (w5 = _) := hw5
  clear hw5 hb4
  obtain ⟨N, hN⟩ : ∃ N, N = w4.heap.size := ⟨_, rfl⟩
  go_wp2_with fail
  rw [← HW5.out, ← hN]
  rw [← hN] at HN5
  clear HW5 hN
  refine (law_all _).mono ?_
  rintro e w6 ⟨rfl, hb6⟩
  obtain ⟨w7, hw7⟩ : ∃ w7, w7 = w6.alloc (.cells #[.int .u64 (Oct.word (Oct.span 0 255) 0 : Nat), .int .u64 (Oct.word (Oct.span 0 255) 1 : Nat), .int .u64 (Oct.word (Oct.span 0 255) 2 : Nat), .int .u64 (Oct.word (Oct.span 0 255) 3 : Nat)] 24) := ⟨_, rfl⟩
  have hb7 : Below w5.heap.size w5 w7 := by rw [hw7]; exact hb6.alloc hb6.size _
  have HXw7 : Hid (SB w7 w6.heap.size (Oct.span 0 255)) := by rw [hw7]; exact sb_new w6 _
  have HW7 : Hid (w7 = _) := hw7
  clear hw7 hb6
  obtain ⟨X, hX⟩ : ∃ X, X = w6.heap.size := ⟨_, rfl⟩
  have HAw7 : Hid (SB w7 w.heap.size a) := ((HA1.out.later hb3).later hb5).later hb7
  have HBw7 : Hid (SB w7 (w.heap.size + 1) b) := ((HB1.out.later hb3).later hb5).later hb7
  have HCw7 : Hid (SB w7 (w.heap.size + 1 + 1) c) := ((HC1.out.later hb3).later hb5).later hb7
  have HLw7 : Hid (SB w7 L (Oct.has [10])) := (HL3.out.later hb5).later hb7
  have HNw7 : Hid (SB w7 N Oct.none) := HN5.out.later hb7
  have HUw7 : Hid (Below w.heap.size w w7) := below_trans (below_trans (below_trans HW1.out hb3 HW1.out.size) hb5 (Nat.le_trans HW1.out.size hb3.size)) hb7 (Nat.le_trans HW1.out.size (Nat.le_trans hb3.size hb5.size))
  rw [← hX] at HXw7
  clear HA1 HB1 HC1 HW1 HL3 HN5 hb3 hb5 hb7
  go_upto_region 6 with fail
  rw [← HW7.out, ← hX]
  clear HW7 hX
  refine reg6 (A := w.heap.size) (B := w.heap.size + 1) (C := w.heap.size + 1 + 1) (L := L) (N := N) (X := X) HAw7.out HBw7.out HCw7.out HLw7.out HNw7.out HXw7.out ⟨rfl, rfl, rfl, rfl, rfl, rfl, rfl, rfl⟩ ?_
  intro actu8 u8 hFu8 ku8 htu8
  have HAu8 : Hid (SB u8 w.heap.size a) := HAw7.out.later ku8
  have HBu8 : Hid (SB u8 (w.heap.size + 1) b) := HBw7.out.later ku8
  have HCu8 : Hid (SB u8 (w.heap.size + 1 + 1) c) := HCw7.out.later ku8
  have HLu8 : Hid (SB u8 L (Oct.has [10])) := HLw7.out.later ku8
  have HNu8 : Hid (SB u8 N Oct.none) := HNw7.out.later ku8
  have HXu8 : Hid (SB u8 X (Oct.span 0 255)) := HXw7.out.later ku8
  have HUu8 : Hid (Below w.heap.size w u8) := below_trans HUw7.out ku8 HUw7.out.size
  go_upto_region 8 with fail
  refine wp_cond_false (eval_T.trans htu8) (wp_skip ?_)
  go_upto_region 8 with fail
  refine reg8 (A := w.heap.size) (B := w.heap.size + 1) (C := w.heap.size + 1 + 1) (L := L) (N := N) (X := X) HAu8.out HBu8.out HCu8.out HLu8.out HNu8.out HXu8.out hFu8 ?_
  intro actu9 u9 hFu9 ku9 htu9
  have HAu9 : Hid (SB u9 w.heap.size a) := HAu8.out.later ku9
  have HBu9 : Hid (SB u9 (w.heap.size + 1) b) := HBu8.out.later ku9
  have HCu9 : Hid (SB u9 (w.heap.size + 1 + 1) c) := HCu8.out.later ku9
  have HLu9 : Hid (SB u9 L (Oct.has [10])) := HLu8.out.later ku9
  have HNu9 : Hid (SB u9 N Oct.none) := HNu8.out.later ku9
  have HXu9 : Hid (SB u9 X (Oct.span 0 255)) := HXu8.out.later ku9
  have HUu9 : Hid (Below w.heap.size w u9) := below_trans HUu8.out ku9 HUu8.out.size
  go_upto_region 10 with fail
  refine wp_cond_false (eval_T.trans htu9) (wp_skip ?_)
  go_upto_region 10 with fail
  refine reg10 (A := w.heap.size) (B := w.heap.size + 1) (C := w.heap.size + 1 + 1) (L := L) (N := N) (X := X) HAu9.out HBu9.out HCu9.out HLu9.out HNu9.out HXu9.out hFu9 ?_
  intro actu10 u10 hFu10 ku10 htu10
  have HAu10 : Hid (SB u10 w.heap.size a) := HAu9.out.later ku10
  have HBu10 : Hid (SB u10 (w.heap.size + 1) b) := HBu9.out.later ku10
  have HCu10 : Hid (SB u10 (w.heap.size + 1 + 1) c) := HCu9.out.later ku10
  have HLu10 : Hid (SB u10 L (Oct.has [10])) := HLu9.out.later ku10
  have HNu10 : Hid (SB u10 N Oct.none) := HNu9.out.later ku10
  have HXu10 : Hid (SB u10 X (Oct.span 0 255)) := HXu9.out.later ku10
  have HUu10 : Hid (Below w.heap.size w u10) := below_trans HUu9.out ku10 HUu9.out.size
  go_upto_region 12 with fail
  refine wp_cond_false (eval_T.trans htu10) (wp_skip ?_)
  go_upto_region 12 with fail
  refine reg12 (A := w.heap.size) (B := w.heap.size + 1) (C := w.heap.size + 1 + 1) (L := L) (N := N) (X := X) HAu10.out HBu10.out HCu10.out HLu10.out HNu10.out HXu10.out hFu10 ?_
  intro actu12 u12 hFu12 ku12 htu12
  have HAu12 : Hid (SB u12 w.heap.size a) := HAu10.out.later ku12
  have HBu12 : Hid (SB u12 (w.heap.size + 1) b) := HBu10.out.later ku12
  have HCu12 : Hid (SB u12 (w.heap.size + 1 + 1) c) := HCu10.out.later ku12
  have HLu12 : Hid (SB u12 L (Oct.has [10])) := HLu10.out.later ku12
  have HNu12 : Hid (SB u12 N Oct.none) := HNu10.out.later ku12
  have HXu12 : Hid (SB u12 X (Oct.span 0 255)) := HXu10.out.later ku12
  have HUu12 : Hid (Below w.heap.size w u12) := below_trans HUu10.out ku12 HUu10.out.size
  rename_i hK
  refine hK _ _ (wp_ret ?_)
  have h6 : actu12.tmps[6]?.getD undef = .bool true := htu12
  refine bodyPost_ret (v := .bool true) ?_ hFu12.2.1 ⟨rfl, HUu12.out⟩
  simp [results, Try.results5, h6, go_sem]
end Go.Proofs.Ytkgpmaclaahmbaa
