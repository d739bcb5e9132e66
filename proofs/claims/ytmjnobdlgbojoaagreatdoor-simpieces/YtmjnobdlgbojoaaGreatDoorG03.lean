
import Derived.Test.YtmjnobdlgbojoaaGreatDoorG01
namespace Go.Proofs.YtmjnobdlgbojoaaGreatDoor
open Go.RowKit
attribute [local go_sem ↓] Go.wp_at_zero Go.wp_at_succ
set_option maxRecDepth 4000 in
set_option maxHeartbeats 2000000 in
theorem class_blank (w : World) : Calls Tryz.prog 106 #[.string ⟨#[98, 108, 97, 110, 107]⟩] w fun e w' => e = .returned (.tuple #[setV blank, .int .i64 0]) ∧ Below w.heap.size w w' := by
  obtain ⟨u0, hu0⟩ : ∃ u0, u0 = (w.alloc (.cells #[.int .u64 0, .int .u64 0, .int .u64 0, .int .u64 0] 28)).alloc (.cells #[.int .u64 0, .int .u64 0, .int .u64 0, .int .u64 0] 28) := ⟨_, rfl⟩
  have HS : Hid (St w u0 w.heap.size (w.heap.size + 1) (Oct.none)) := by rw [hu0]; exact start2 w
  have HU : Hid (u0 = _) := hu0
  clear hu0
  go_enter Tryz.func106, Tryz.ntmps106
  go_upto_region 24 with fail
  rw [← HU.out]
  clear HU
  refine wp_cut5 58 59 60 61 62 (fun wx => Hid (St w wx w.heap.size (w.heap.size + 1) (Oct.join (Oct.none) (Oct.has [9, 32])))) ?first1 ?rest1
  case first1 =>
    obtain ⟨⟨c0, c1, c2, c3⟩, ⟨f0, f1, f2, f3⟩, ⟨d0, d1, d2, d3⟩, ⟨g0, g1, g2, g3⟩⟩ := HS.out.facts
    have a0 : ∀ o : Obj, (u0.alloc o).cell? ⟨w.heap.size + 1, 0, none⟩ = some (.int .u64 (Oct.word (Oct.none) 0 : Nat)) := fun o => (HS.out.later ((Below.refl _ _).alloc (Nat.le_refl _) _)).facts.1.1
    have a1 : ∀ o : Obj, (u0.alloc o).cell? ⟨w.heap.size + 1, 1, none⟩ = some (.int .u64 (Oct.word (Oct.none) 1 : Nat)) := fun o => (HS.out.later ((Below.refl _ _).alloc (Nat.le_refl _) _)).facts.1.2.1
    have a2 : ∀ o : Obj, (u0.alloc o).cell? ⟨w.heap.size + 1, 2, none⟩ = some (.int .u64 (Oct.word (Oct.none) 2 : Nat)) := fun o => (HS.out.later ((Below.refl _ _).alloc (Nat.le_refl _) _)).facts.1.2.2.1
    have a3 : ∀ o : Obj, (u0.alloc o).cell? ⟨w.heap.size + 1, 3, none⟩ = some (.int .u64 (Oct.word (Oct.none) 3 : Nat)) := fun o => (HS.out.later ((Below.refl _ _).alloc (Nat.le_refl _) _)).facts.1.2.2.2
    go_region_with (first
      | (go_at_call 92; refine (of_gen [9, 32] 2 rfl (by decide) (by first | exact bytesAt_new _ [9, 32] 5 (0, 0) | exact bytesAt_later (Below.refl _ _).drew (bytesAt_new _ [9, 32] 5 (0, 0))) (by decide)).mono ?_; rintro e wn ⟨rfl, kn⟩; have Hn : Hid (St w wn w.heap.size (w.heap.size + 1) (Oct.none)) := (by first | exact (HS.out.later (Below.refl _ _).drew).later kn | exact (HS.out.later (((Below.refl _ _).alloc (Nat.le_refl _) _).drew)).later kn); clear c0 c1 c2 c3 f0 f1 f2 f3 d0 d1 d2 d3 g0 g1 g2 g3; obtain ⟨⟨c0, c1, c2, c3⟩, ⟨f0, f1, f2, f3⟩, ⟨d0, d1, d2, d3⟩, ⟨g0, g1, g2, g3⟩⟩ := Hn.out.facts; clear kn)
      | (go_at_call 95; refine (join2_gen (sl2_new _ _ _ _ rfl)).mono ?_; rintro e wm ⟨rfl, km⟩; have Hm : Hid (St w wm w.heap.size (w.heap.size + 1) (Oct.none)) := (Hn.out.later ((Below.refl _ _).alloc (Nat.le_refl _) _)).later km; clear c0 c1 c2 c3 f0 f1 f2 f3 d0 d1 d2 d3 g0 g1 g2 g3; obtain ⟨⟨c0, c1, c2, c3⟩, ⟨f0, f1, f2, f3⟩, ⟨d0, d1, d2, d3⟩, ⟨g0, g1, g2, g3⟩⟩ := Hm.out.facts; clear km))
    all_goals
      exact ⟨rfl, ⟨_, _, _, _, _, rfl⟩, Hm.out.put (by omega) (by omega) (Oct.join (Oct.none) (Oct.has [9, 32]))⟩
  case rest1 =>
  intro x10 x11 x12 x13 x14 u1 hcut a' ha'
  simp [Act.put] at ha'
  subst ha'
  clear HS
  have HS : Hid (St w u1 w.heap.size (w.heap.size + 1) (Oct.join (Oct.none) (Oct.has [9, 32]))) := hcut
  clear hcut
  obtain ⟨⟨c0, c1, c2, c3⟩, ⟨f0, f1, f2, f3⟩, ⟨d0, d1, d2, d3⟩, ⟨g0, g1, g2, g3⟩⟩ := HS.out.facts
  go_wp2
  exact HS.out.ret2 Tryz.f106 rfl rfl rfl rfl (Nat.le_refl _) _ blank (fun b hb => by
    rw [Bool.eq_iff_iff]
    try simp [Oct.join, Oct.none, Oct.has, blank]
    try omega)
set_option maxRecDepth 4000 in
set_option maxHeartbeats 2000000 in
theorem class_space (w : World) : Calls Tryz.prog 106 #[.string ⟨#[115, 112, 97, 99, 101]⟩] w fun e w' => e = .returned (.tuple #[setV space, .int .i64 0]) ∧ Below w.heap.size w w' := by
  obtain ⟨u0, hu0⟩ : ∃ u0, u0 = (w.alloc (.cells #[.int .u64 0, .int .u64 0, .int .u64 0, .int .u64 0] 28)).alloc (.cells #[.int .u64 0, .int .u64 0, .int .u64 0, .int .u64 0] 28) := ⟨_, rfl⟩
  have HS : Hid (St w u0 w.heap.size (w.heap.size + 1) (Oct.none)) := by rw [hu0]; exact start2 w
  have HU : Hid (u0 = _) := hu0
  clear hu0
  go_enter Tryz.func106, Tryz.ntmps106
  go_upto_region 23 with fail
  rw [← HU.out]
  clear HU
  obtain ⟨⟨c0, c1, c2, c3⟩, ⟨f0, f1, f2, f3⟩, ⟨d0, d1, d2, d3⟩, ⟨g0, g1, g2, g3⟩⟩ := HS.out.facts
  go_wp2_with fail
  refine (span_gen 10 13 _ (by decide) (by decide)).mono ?_
  rintro e v10 ⟨rfl, kk⟩
  have H10 : Hid (St w v10 w.heap.size (w.heap.size + 1) (Oct.none)) := (HS.out).later kk
  clear kk c0 c1 c2 c3 f0 f1 f2 f3 d0 d1 d2 d3 g0 g1 g2 g3
  obtain ⟨⟨c0, c1, c2, c3⟩, ⟨f0, f1, f2, f3⟩, ⟨d0, d1, d2, d3⟩, ⟨g0, g1, g2, g3⟩⟩ := H10.out.facts
  go_upto_region 24 with fail
  obtain ⟨u1, hu1⟩ : ∃ u1, u1 = put4 v10 (w.heap.size + 1) (Oct.span 10 13) := ⟨_, rfl⟩
  have HT : Hid (St w u1 w.heap.size (w.heap.size + 1) (Oct.span 10 13)) := by rw [hu1]; exact H10.out.put (by omega) (by omega) _
  have HE : Hid (u1 = put4 v10 (w.heap.size + 1) (Oct.span 10 13)) := hu1
  unfold put4 at HE
  clear hu1 c0 c1 c2 c3 f0 f1 f2 f3 d0 d1 d2 d3 g0 g1 g2 g3 HS
  rw [← HE.out]
  clear HE
  have HS : Hid (St w u1 w.heap.size (w.heap.size + 1) (Oct.span 10 13)) := HT
  clear HT
  go_upto_region 24 with fail
  refine wp_cut5 58 59 60 61 62 (fun wx => Hid (St w wx w.heap.size (w.heap.size + 1) (Oct.join (Oct.span 10 13) (Oct.has [9, 32])))) ?first2 ?rest2
  case first2 =>
    obtain ⟨⟨c0, c1, c2, c3⟩, ⟨f0, f1, f2, f3⟩, ⟨d0, d1, d2, d3⟩, ⟨g0, g1, g2, g3⟩⟩ := HS.out.facts
    have a0 : ∀ o : Obj, (u1.alloc o).cell? ⟨w.heap.size + 1, 0, none⟩ = some (.int .u64 (Oct.word (Oct.span 10 13) 0 : Nat)) := fun o => (HS.out.later ((Below.refl _ _).alloc (Nat.le_refl _) _)).facts.1.1
    have a1 : ∀ o : Obj, (u1.alloc o).cell? ⟨w.heap.size + 1, 1, none⟩ = some (.int .u64 (Oct.word (Oct.span 10 13) 1 : Nat)) := fun o => (HS.out.later ((Below.refl _ _).alloc (Nat.le_refl _) _)).facts.1.2.1
    have a2 : ∀ o : Obj, (u1.alloc o).cell? ⟨w.heap.size + 1, 2, none⟩ = some (.int .u64 (Oct.word (Oct.span 10 13) 2 : Nat)) := fun o => (HS.out.later ((Below.refl _ _).alloc (Nat.le_refl _) _)).facts.1.2.2.1
    have a3 : ∀ o : Obj, (u1.alloc o).cell? ⟨w.heap.size + 1, 3, none⟩ = some (.int .u64 (Oct.word (Oct.span 10 13) 3 : Nat)) := fun o => (HS.out.later ((Below.refl _ _).alloc (Nat.le_refl _) _)).facts.1.2.2.2
    go_region_with (first
      | (go_at_call 92; refine (of_gen [9, 32] 2 rfl (by decide) (by first | exact bytesAt_new _ [9, 32] 5 (0, 0) | exact bytesAt_later (Below.refl _ _).drew (bytesAt_new _ [9, 32] 5 (0, 0))) (by decide)).mono ?_; rintro e wn ⟨rfl, kn⟩; have Hn : Hid (St w wn w.heap.size (w.heap.size + 1) (Oct.span 10 13)) := (by first | exact (HS.out.later (Below.refl _ _).drew).later kn | exact (HS.out.later (((Below.refl _ _).alloc (Nat.le_refl _) _).drew)).later kn); clear c0 c1 c2 c3 f0 f1 f2 f3 d0 d1 d2 d3 g0 g1 g2 g3; obtain ⟨⟨c0, c1, c2, c3⟩, ⟨f0, f1, f2, f3⟩, ⟨d0, d1, d2, d3⟩, ⟨g0, g1, g2, g3⟩⟩ := Hn.out.facts; clear kn)
      | (go_at_call 95; refine (join2_gen (sl2_new _ _ _ _ rfl)).mono ?_; rintro e wm ⟨rfl, km⟩; have Hm : Hid (St w wm w.heap.size (w.heap.size + 1) (Oct.span 10 13)) := (Hn.out.later ((Below.refl _ _).alloc (Nat.le_refl _) _)).later km; clear c0 c1 c2 c3 f0 f1 f2 f3 d0 d1 d2 d3 g0 g1 g2 g3; obtain ⟨⟨c0, c1, c2, c3⟩, ⟨f0, f1, f2, f3⟩, ⟨d0, d1, d2, d3⟩, ⟨g0, g1, g2, g3⟩⟩ := Hm.out.facts; clear km))
    all_goals
      exact ⟨rfl, ⟨_, _, _, _, _, rfl⟩, Hm.out.put (by omega) (by omega) (Oct.join (Oct.span 10 13) (Oct.has [9, 32]))⟩
  case rest2 =>
  intro x20 x21 x22 x23 x24 u2 hcut a' ha'
  simp [Act.put] at ha'
  subst ha'
  clear HS
  have HS : Hid (St w u2 w.heap.size (w.heap.size + 1) (Oct.join (Oct.span 10 13) (Oct.has [9, 32]))) := hcut
  clear hcut
  obtain ⟨⟨c0, c1, c2, c3⟩, ⟨f0, f1, f2, f3⟩, ⟨d0, d1, d2, d3⟩, ⟨g0, g1, g2, g3⟩⟩ := HS.out.facts
  go_wp2
  exact HS.out.ret2 Tryz.f106 rfl rfl rfl rfl (Nat.le_refl _) _ space (fun b hb => by
    rw [Bool.eq_iff_iff]
    try simp [Oct.join, Oct.has, Oct.span, space]
    try omega)
set_option maxRecDepth 4000 in
set_option maxHeartbeats 2000000 in
theorem class_cntrl (w : World) : Calls Tryz.prog 106 #[.string ⟨#[99, 110, 116, 114, 108]⟩] w fun e w' => e = .returned (.tuple #[setV cntrl, .int .i64 0]) ∧ Below w.heap.size w w' := by
  obtain ⟨u0, hu0⟩ : ∃ u0, u0 = (w.alloc (.cells #[.int .u64 0, .int .u64 0, .int .u64 0, .int .u64 0] 28)).alloc (.cells #[.int .u64 0, .int .u64 0, .int .u64 0, .int .u64 0] 28) := ⟨_, rfl⟩
  have HS : Hid (St w u0 w.heap.size (w.heap.size + 1) (Oct.none)) := by rw [hu0]; exact start2 w
  have HU : Hid (u0 = _) := hu0
  clear hu0
  go_enter Tryz.func106, Tryz.ntmps106
  go_upto_region 25 with fail
  rw [← HU.out]
  clear HU
  obtain ⟨⟨c0, c1, c2, c3⟩, ⟨f0, f1, f2, f3⟩, ⟨d0, d1, d2, d3⟩, ⟨g0, g1, g2, g3⟩⟩ := HS.out.facts
  go_wp2_with fail
  refine (span_gen 0 31 _ (by decide) (by decide)).mono ?_
  rintro e v10 ⟨rfl, kk⟩
  have H10 : Hid (St w v10 w.heap.size (w.heap.size + 1) (Oct.none)) := (HS.out).later kk
  clear kk c0 c1 c2 c3 f0 f1 f2 f3 d0 d1 d2 d3 g0 g1 g2 g3
  obtain ⟨⟨c0, c1, c2, c3⟩, ⟨f0, f1, f2, f3⟩, ⟨d0, d1, d2, d3⟩, ⟨g0, g1, g2, g3⟩⟩ := H10.out.facts
  go_wp2_with fail
  refine (of_gen [127] 1 rfl (by decide) (bytesAt_new _ [127] 5 (0, 0)) (by decide)).mono ?_
  rintro e v11 ⟨rfl, kk⟩
  have H11 : Hid (St w v11 w.heap.size (w.heap.size + 1) (Oct.none)) := (H10.out.later ((Below.refl _ _).alloc (Nat.le_refl _) _)).later kk
  clear kk c0 c1 c2 c3 f0 f1 f2 f3 d0 d1 d2 d3 g0 g1 g2 g3
  obtain ⟨⟨c0, c1, c2, c3⟩, ⟨f0, f1, f2, f3⟩, ⟨d0, d1, d2, d3⟩, ⟨g0, g1, g2, g3⟩⟩ := H11.out.facts
  go_wp2_with fail
  refine (join2_gen (sl2_new _ _ _ _ rfl)).mono ?_
  rintro e v12 ⟨rfl, kk⟩
  have H12 : Hid (St w v12 w.heap.size (w.heap.size + 1) (Oct.none)) := (H11.out.later ((Below.refl _ _).alloc (Nat.le_refl _) _)).later kk
  clear kk c0 c1 c2 c3 f0 f1 f2 f3 d0 d1 d2 d3 g0 g1 g2 g3
  obtain ⟨⟨c0, c1, c2, c3⟩, ⟨f0, f1, f2, f3⟩, ⟨d0, d1, d2, d3⟩, ⟨g0, g1, g2, g3⟩⟩ := H12.out.facts
  go_upto_region 28 with fail
  obtain ⟨u1, hu1⟩ : ∃ u1, u1 = put4 v12 (w.heap.size + 1) (Oct.join (Oct.span 0 31) (Oct.has [127])) := ⟨_, rfl⟩
  have HT : Hid (St w u1 w.heap.size (w.heap.size + 1) (Oct.join (Oct.span 0 31) (Oct.has [127]))) := by rw [hu1]; exact H12.out.put (by omega) (by omega) _
  have HE : Hid (u1 = put4 v12 (w.heap.size + 1) (Oct.join (Oct.span 0 31) (Oct.has [127]))) := hu1
  unfold put4 at HE
  clear hu1 c0 c1 c2 c3 f0 f1 f2 f3 d0 d1 d2 d3 g0 g1 g2 g3 HS
  rw [← HE.out]
  clear HE
  have HS : Hid (St w u1 w.heap.size (w.heap.size + 1) (Oct.join (Oct.span 0 31) (Oct.has [127]))) := HT
  clear HT
  obtain ⟨⟨c0, c1, c2, c3⟩, ⟨f0, f1, f2, f3⟩, ⟨d0, d1, d2, d3⟩, ⟨g0, g1, g2, g3⟩⟩ := HS.out.facts
  go_wp2
  exact HS.out.ret2 Tryz.f106 rfl rfl rfl rfl (Nat.le_refl _) _ cntrl (fun b hb => by
    rw [Bool.eq_iff_iff]
    try simp [Oct.join, Oct.has, Oct.span, cntrl]
    try omega)
set_option maxRecDepth 4000 in
set_option maxHeartbeats 2000000 in
theorem class_punct (w : World) : Calls Tryz.prog 106 #[.string ⟨#[112, 117, 110, 99, 116]⟩] w fun e w' => e = .returned (.tuple #[setV punct, .int .i64 0]) ∧ Below w.heap.size w w' := by
  obtain ⟨u0, hu0⟩ : ∃ u0, u0 = (w.alloc (.cells #[.int .u64 0, .int .u64 0, .int .u64 0, .int .u64 0] 28)).alloc (.cells #[.int .u64 0, .int .u64 0, .int .u64 0, .int .u64 0] 28) := ⟨_, rfl⟩
  have HS : Hid (St w u0 w.heap.size (w.heap.size + 1) (Oct.none)) := by rw [hu0]; exact start2 w
  have HU : Hid (u0 = _) := hu0
  clear hu0
  go_enter Tryz.func106, Tryz.ntmps106
  go_upto_region 26 with fail
  rw [← HU.out]
  clear HU
  obtain ⟨⟨c0, c1, c2, c3⟩, ⟨f0, f1, f2, f3⟩, ⟨d0, d1, d2, d3⟩, ⟨g0, g1, g2, g3⟩⟩ := HS.out.facts
  go_wp2_with fail
  refine (marks_any _).mono ?_
  rintro e v10 ⟨rfl, kk⟩
  have H10 : Hid (St w v10 w.heap.size (w.heap.size + 1) (Oct.none)) := (HS.out).later kk
  clear kk c0 c1 c2 c3 f0 f1 f2 f3 d0 d1 d2 d3 g0 g1 g2 g3
  obtain ⟨⟨c0, c1, c2, c3⟩, ⟨f0, f1, f2, f3⟩, ⟨d0, d1, d2, d3⟩, ⟨g0, g1, g2, g3⟩⟩ := H10.out.facts
  go_upto_region 28 with fail
  obtain ⟨u1, hu1⟩ : ∃ u1, u1 = put4 v10 (w.heap.size + 1) (punct) := ⟨_, rfl⟩
  have HT : Hid (St w u1 w.heap.size (w.heap.size + 1) (punct)) := by rw [hu1]; exact H10.out.put (by omega) (by omega) _
  have HE : Hid (u1 = put4 v10 (w.heap.size + 1) (punct)) := hu1
  unfold put4 at HE
  clear hu1 c0 c1 c2 c3 f0 f1 f2 f3 d0 d1 d2 d3 g0 g1 g2 g3 HS
  rw [← HE.out]
  clear HE
  have HS : Hid (St w u1 w.heap.size (w.heap.size + 1) (punct)) := HT
  clear HT
  obtain ⟨⟨c0, c1, c2, c3⟩, ⟨f0, f1, f2, f3⟩, ⟨d0, d1, d2, d3⟩, ⟨g0, g1, g2, g3⟩⟩ := HS.out.facts
  go_wp2
  exact HS.out.ret2 Tryz.f106 rfl rfl rfl rfl (Nat.le_refl _) _ punct (fun b hb => by
    rw [Bool.eq_iff_iff]
    try simp [Oct.none]
    try omega)
end Go.Proofs.YtmjnobdlgbojoaaGreatDoor


namespace Go.Proofs.YtmjnobdlgbojoaaGreatDoor
open Go.RowKit
attribute [local go_sem ↓] Go.wp_at_zero Go.wp_at_succ
set_option maxRecDepth 4000 in
set_option maxHeartbeats 2000000 in
theorem class_graph (w : World) : Calls Tryz.prog 106 #[.string ⟨#[103, 114, 97, 112, 104]⟩] w fun e w' => e = .returned (.tuple #[setV graph, .int .i64 0]) ∧ Below w.heap.size w w' := by
  obtain ⟨u0, hu0⟩ : ∃ u0, u0 = (w.alloc (.cells #[.int .u64 0, .int .u64 0, .int .u64 0, .int .u64 0] 28)).alloc (.cells #[.int .u64 0, .int .u64 0, .int .u64 0, .int .u64 0] 28) := ⟨_, rfl⟩
  have HS : Hid (St w u0 w.heap.size (w.heap.size + 1) (Oct.none)) := by rw [hu0]; exact start2 w
  have HU : Hid (u0 = _) := hu0
  clear hu0
  go_enter Tryz.func106, Tryz.ntmps106
  go_upto_region 16 with fail
  rw [← HU.out]
  clear HU
  refine wp_cut4 32 33 34 35 (fun wx => Hid (St w wx w.heap.size (w.heap.size + 1) (Oct.join (Oct.none) (punct)))) ?first1 ?rest1
  case first1 =>
    obtain ⟨⟨c0, c1, c2, c3⟩, ⟨f0, f1, f2, f3⟩, ⟨d0, d1, d2, d3⟩, ⟨g0, g1, g2, g3⟩⟩ := HS.out.facts
    have a0 : ∀ o : Obj, (u0.alloc o).cell? ⟨w.heap.size + 1, 0, none⟩ = some (.int .u64 (Oct.word (Oct.none) 0 : Nat)) := fun o => (HS.out.later ((Below.refl _ _).alloc (Nat.le_refl _) _)).facts.1.1
    have a1 : ∀ o : Obj, (u0.alloc o).cell? ⟨w.heap.size + 1, 1, none⟩ = some (.int .u64 (Oct.word (Oct.none) 1 : Nat)) := fun o => (HS.out.later ((Below.refl _ _).alloc (Nat.le_refl _) _)).facts.1.2.1
    have a2 : ∀ o : Obj, (u0.alloc o).cell? ⟨w.heap.size + 1, 2, none⟩ = some (.int .u64 (Oct.word (Oct.none) 2 : Nat)) := fun o => (HS.out.later ((Below.refl _ _).alloc (Nat.le_refl _) _)).facts.1.2.2.1
    have a3 : ∀ o : Obj, (u0.alloc o).cell? ⟨w.heap.size + 1, 3, none⟩ = some (.int .u64 (Oct.word (Oct.none) 3 : Nat)) := fun o => (HS.out.later ((Below.refl _ _).alloc (Nat.le_refl _) _)).facts.1.2.2.2
    go_region_with (first
      | (go_at_call 109; refine (marks_any _).mono ?_; rintro e wn ⟨rfl, kn⟩; have Hn : Hid (St w wn w.heap.size (w.heap.size + 1) (Oct.none)) := (by first | exact (HS.out.later (Below.refl _ _).drew).later kn | exact (HS.out.later (((Below.refl _ _).alloc (Nat.le_refl _) _).drew)).later kn); clear c0 c1 c2 c3 f0 f1 f2 f3 d0 d1 d2 d3 g0 g1 g2 g3; obtain ⟨⟨c0, c1, c2, c3⟩, ⟨f0, f1, f2, f3⟩, ⟨d0, d1, d2, d3⟩, ⟨g0, g1, g2, g3⟩⟩ := Hn.out.facts; clear kn)
      | (go_at_call 95; refine (join2_gen (sl2_new _ _ _ _ rfl)).mono ?_; rintro e wm ⟨rfl, km⟩; have Hm : Hid (St w wm w.heap.size (w.heap.size + 1) (Oct.none)) := (Hn.out.later ((Below.refl _ _).alloc (Nat.le_refl _) _)).later km; clear c0 c1 c2 c3 f0 f1 f2 f3 d0 d1 d2 d3 g0 g1 g2 g3; obtain ⟨⟨c0, c1, c2, c3⟩, ⟨f0, f1, f2, f3⟩, ⟨d0, d1, d2, d3⟩, ⟨g0, g1, g2, g3⟩⟩ := Hm.out.facts; clear km))
    all_goals
      exact ⟨rfl, ⟨_, _, _, _, rfl⟩, Hm.out.put (by omega) (by omega) (Oct.join (Oct.none) (punct))⟩
  case rest1 =>
  intro x10 x11 x12 x13 u1 hcut a' ha'
  simp [Act.put] at ha'
  subst ha'
  clear HS
  have HS : Hid (St w u1 w.heap.size (w.heap.size + 1) (Oct.join (Oct.none) (punct))) := hcut
  clear hcut
  go_upto_region 17 with fail
  refine wp_cut4 36 37 38 39 (fun wx => Hid (St w wx w.heap.size (w.heap.size + 1) (Oct.join (Oct.join (Oct.none) (punct)) (Oct.span 48 57)))) ?first2 ?rest2
  case first2 =>
    obtain ⟨⟨c0, c1, c2, c3⟩, ⟨f0, f1, f2, f3⟩, ⟨d0, d1, d2, d3⟩, ⟨g0, g1, g2, g3⟩⟩ := HS.out.facts
    have a0 : ∀ o : Obj, (u1.alloc o).cell? ⟨w.heap.size + 1, 0, none⟩ = some (.int .u64 (Oct.word (Oct.join (Oct.none) (punct)) 0 : Nat)) := fun o => (HS.out.later ((Below.refl _ _).alloc (Nat.le_refl _) _)).facts.1.1
    have a1 : ∀ o : Obj, (u1.alloc o).cell? ⟨w.heap.size + 1, 1, none⟩ = some (.int .u64 (Oct.word (Oct.join (Oct.none) (punct)) 1 : Nat)) := fun o => (HS.out.later ((Below.refl _ _).alloc (Nat.le_refl _) _)).facts.1.2.1
    have a2 : ∀ o : Obj, (u1.alloc o).cell? ⟨w.heap.size + 1, 2, none⟩ = some (.int .u64 (Oct.word (Oct.join (Oct.none) (punct)) 2 : Nat)) := fun o => (HS.out.later ((Below.refl _ _).alloc (Nat.le_refl _) _)).facts.1.2.2.1
    have a3 : ∀ o : Obj, (u1.alloc o).cell? ⟨w.heap.size + 1, 3, none⟩ = some (.int .u64 (Oct.word (Oct.join (Oct.none) (punct)) 3 : Nat)) := fun o => (HS.out.later ((Below.refl _ _).alloc (Nat.le_refl _) _)).facts.1.2.2.2
    go_region_with (first
      | (go_at_call 107; refine (span_gen 48 57 _ (by decide) (by decide)).mono ?_; rintro e wn ⟨rfl, kn⟩; have Hn : Hid (St w wn w.heap.size (w.heap.size + 1) (Oct.join (Oct.none) (punct))) := (by first | exact (HS.out.later (Below.refl _ _).drew).later kn | exact (HS.out.later (((Below.refl _ _).alloc (Nat.le_refl _) _).drew)).later kn); clear c0 c1 c2 c3 f0 f1 f2 f3 d0 d1 d2 d3 g0 g1 g2 g3; obtain ⟨⟨c0, c1, c2, c3⟩, ⟨f0, f1, f2, f3⟩, ⟨d0, d1, d2, d3⟩, ⟨g0, g1, g2, g3⟩⟩ := Hn.out.facts; clear kn)
      | (go_at_call 95; refine (join2_gen (sl2_new _ _ _ _ rfl)).mono ?_; rintro e wm ⟨rfl, km⟩; have Hm : Hid (St w wm w.heap.size (w.heap.size + 1) (Oct.join (Oct.none) (punct))) := (Hn.out.later ((Below.refl _ _).alloc (Nat.le_refl _) _)).later km; clear c0 c1 c2 c3 f0 f1 f2 f3 d0 d1 d2 d3 g0 g1 g2 g3; obtain ⟨⟨c0, c1, c2, c3⟩, ⟨f0, f1, f2, f3⟩, ⟨d0, d1, d2, d3⟩, ⟨g0, g1, g2, g3⟩⟩ := Hm.out.facts; clear km))
    all_goals
      exact ⟨rfl, ⟨_, _, _, _, rfl⟩, Hm.out.put (by omega) (by omega) (Oct.join (Oct.join (Oct.none) (punct)) (Oct.span 48 57))⟩
  case rest2 =>
  intro x20 x21 x22 x23 u2 hcut a' ha'
  simp [Act.put] at ha'
  subst ha'
  clear HS
  have HS : Hid (St w u2 w.heap.size (w.heap.size + 1) (Oct.join (Oct.join (Oct.none) (punct)) (Oct.span 48 57))) := hcut
  clear hcut
  go_upto_region 18 with fail
  refine wp_cut4 40 41 42 43 (fun wx => Hid (St w wx w.heap.size (w.heap.size + 1) (Oct.join (Oct.join (Oct.join (Oct.none) (punct)) (Oct.span 48 57)) (Oct.span 65 90)))) ?first3 ?rest3
  case first3 =>
    obtain ⟨⟨c0, c1, c2, c3⟩, ⟨f0, f1, f2, f3⟩, ⟨d0, d1, d2, d3⟩, ⟨g0, g1, g2, g3⟩⟩ := HS.out.facts
    have a0 : ∀ o : Obj, (u2.alloc o).cell? ⟨w.heap.size + 1, 0, none⟩ = some (.int .u64 (Oct.word (Oct.join (Oct.join (Oct.none) (punct)) (Oct.span 48 57)) 0 : Nat)) := fun o => (HS.out.later ((Below.refl _ _).alloc (Nat.le_refl _) _)).facts.1.1
    have a1 : ∀ o : Obj, (u2.alloc o).cell? ⟨w.heap.size + 1, 1, none⟩ = some (.int .u64 (Oct.word (Oct.join (Oct.join (Oct.none) (punct)) (Oct.span 48 57)) 1 : Nat)) := fun o => (HS.out.later ((Below.refl _ _).alloc (Nat.le_refl _) _)).facts.1.2.1
    have a2 : ∀ o : Obj, (u2.alloc o).cell? ⟨w.heap.size + 1, 2, none⟩ = some (.int .u64 (Oct.word (Oct.join (Oct.join (Oct.none) (punct)) (Oct.span 48 57)) 2 : Nat)) := fun o => (HS.out.later ((Below.refl _ _).alloc (Nat.le_refl _) _)).facts.1.2.2.1
    have a3 : ∀ o : Obj, (u2.alloc o).cell? ⟨w.heap.size + 1, 3, none⟩ = some (.int .u64 (Oct.word (Oct.join (Oct.join (Oct.none) (punct)) (Oct.span 48 57)) 3 : Nat)) := fun o => (HS.out.later ((Below.refl _ _).alloc (Nat.le_refl _) _)).facts.1.2.2.2
    go_region_with (first
      | (go_at_call 107; refine (span_gen 65 90 _ (by decide) (by decide)).mono ?_; rintro e wn ⟨rfl, kn⟩; have Hn : Hid (St w wn w.heap.size (w.heap.size + 1) (Oct.join (Oct.join (Oct.none) (punct)) (Oct.span 48 57))) := (by first | exact (HS.out.later (Below.refl _ _).drew).later kn | exact (HS.out.later (((Below.refl _ _).alloc (Nat.le_refl _) _).drew)).later kn); clear c0 c1 c2 c3 f0 f1 f2 f3 d0 d1 d2 d3 g0 g1 g2 g3; obtain ⟨⟨c0, c1, c2, c3⟩, ⟨f0, f1, f2, f3⟩, ⟨d0, d1, d2, d3⟩, ⟨g0, g1, g2, g3⟩⟩ := Hn.out.facts; clear kn)
      | (go_at_call 95; refine (join2_gen (sl2_new _ _ _ _ rfl)).mono ?_; rintro e wm ⟨rfl, km⟩; have Hm : Hid (St w wm w.heap.size (w.heap.size + 1) (Oct.join (Oct.join (Oct.none) (punct)) (Oct.span 48 57))) := (Hn.out.later ((Below.refl _ _).alloc (Nat.le_refl _) _)).later km; clear c0 c1 c2 c3 f0 f1 f2 f3 d0 d1 d2 d3 g0 g1 g2 g3; obtain ⟨⟨c0, c1, c2, c3⟩, ⟨f0, f1, f2, f3⟩, ⟨d0, d1, d2, d3⟩, ⟨g0, g1, g2, g3⟩⟩ := Hm.out.facts; clear km))
    all_goals
      exact ⟨rfl, ⟨_, _, _, _, rfl⟩, Hm.out.put (by omega) (by omega) (Oct.join (Oct.join (Oct.join (Oct.none) (punct)) (Oct.span 48 57)) (Oct.span 65 90))⟩
  case rest3 =>
  intro x30 x31 x32 x33 u3 hcut a' ha'
  simp [Act.put] at ha'
  subst ha'
  clear HS
  have HS : Hid (St w u3 w.heap.size (w.heap.size + 1) (Oct.join (Oct.join (Oct.join (Oct.none) (punct)) (Oct.span 48 57)) (Oct.span 65 90))) := hcut
  clear hcut
  go_upto_region 19 with fail
  refine wp_cut4 44 45 46 47 (fun wx => Hid (St w wx w.heap.size (w.heap.size + 1) (Oct.join (Oct.join (Oct.join (Oct.join (Oct.none) (punct)) (Oct.span 48 57)) (Oct.span 65 90)) (Oct.span 97 122)))) ?first4 ?rest4
  case first4 =>
    obtain ⟨⟨c0, c1, c2, c3⟩, ⟨f0, f1, f2, f3⟩, ⟨d0, d1, d2, d3⟩, ⟨g0, g1, g2, g3⟩⟩ := HS.out.facts
    have a0 : ∀ o : Obj, (u3.alloc o).cell? ⟨w.heap.size + 1, 0, none⟩ = some (.int .u64 (Oct.word (Oct.join (Oct.join (Oct.join (Oct.none) (punct)) (Oct.span 48 57)) (Oct.span 65 90)) 0 : Nat)) := fun o => (HS.out.later ((Below.refl _ _).alloc (Nat.le_refl _) _)).facts.1.1
    have a1 : ∀ o : Obj, (u3.alloc o).cell? ⟨w.heap.size + 1, 1, none⟩ = some (.int .u64 (Oct.word (Oct.join (Oct.join (Oct.join (Oct.none) (punct)) (Oct.span 48 57)) (Oct.span 65 90)) 1 : Nat)) := fun o => (HS.out.later ((Below.refl _ _).alloc (Nat.le_refl _) _)).facts.1.2.1
    have a2 : ∀ o : Obj, (u3.alloc o).cell? ⟨w.heap.size + 1, 2, none⟩ = some (.int .u64 (Oct.word (Oct.join (Oct.join (Oct.join (Oct.none) (punct)) (Oct.span 48 57)) (Oct.span 65 90)) 2 : Nat)) := fun o => (HS.out.later ((Below.refl _ _).alloc (Nat.le_refl _) _)).facts.1.2.2.1
    have a3 : ∀ o : Obj, (u3.alloc o).cell? ⟨w.heap.size + 1, 3, none⟩ = some (.int .u64 (Oct.word (Oct.join (Oct.join (Oct.join (Oct.none) (punct)) (Oct.span 48 57)) (Oct.span 65 90)) 3 : Nat)) := fun o => (HS.out.later ((Below.refl _ _).alloc (Nat.le_refl _) _)).facts.1.2.2.2
    go_region_with (first
      | (go_at_call 107; refine (span_gen 97 122 _ (by decide) (by decide)).mono ?_; rintro e wn ⟨rfl, kn⟩; have Hn : Hid (St w wn w.heap.size (w.heap.size + 1) (Oct.join (Oct.join (Oct.join (Oct.none) (punct)) (Oct.span 48 57)) (Oct.span 65 90))) := (by first | exact (HS.out.later (Below.refl _ _).drew).later kn | exact (HS.out.later (((Below.refl _ _).alloc (Nat.le_refl _) _).drew)).later kn); clear c0 c1 c2 c3 f0 f1 f2 f3 d0 d1 d2 d3 g0 g1 g2 g3; obtain ⟨⟨c0, c1, c2, c3⟩, ⟨f0, f1, f2, f3⟩, ⟨d0, d1, d2, d3⟩, ⟨g0, g1, g2, g3⟩⟩ := Hn.out.facts; clear kn)
      | (go_at_call 95; refine (join2_gen (sl2_new _ _ _ _ rfl)).mono ?_; rintro e wm ⟨rfl, km⟩; have Hm : Hid (St w wm w.heap.size (w.heap.size + 1) (Oct.join (Oct.join (Oct.join (Oct.none) (punct)) (Oct.span 48 57)) (Oct.span 65 90))) := (Hn.out.later ((Below.refl _ _).alloc (Nat.le_refl _) _)).later km; clear c0 c1 c2 c3 f0 f1 f2 f3 d0 d1 d2 d3 g0 g1 g2 g3; obtain ⟨⟨c0, c1, c2, c3⟩, ⟨f0, f1, f2, f3⟩, ⟨d0, d1, d2, d3⟩, ⟨g0, g1, g2, g3⟩⟩ := Hm.out.facts; clear km))
    all_goals
      exact ⟨rfl, ⟨_, _, _, _, rfl⟩, Hm.out.put (by omega) (by omega) (Oct.join (Oct.join (Oct.join (Oct.join (Oct.none) (punct)) (Oct.span 48 57)) (Oct.span 65 90)) (Oct.span 97 122))⟩
  case rest4 =>
  intro x40 x41 x42 x43 u4 hcut a' ha'
  simp [Act.put] at ha'
  subst ha'
  clear HS
  have HS : Hid (St w u4 w.heap.size (w.heap.size + 1) (Oct.join (Oct.join (Oct.join (Oct.join (Oct.none) (punct)) (Oct.span 48 57)) (Oct.span 65 90)) (Oct.span 97 122))) := hcut
  clear hcut
  obtain ⟨⟨c0, c1, c2, c3⟩, ⟨f0, f1, f2, f3⟩, ⟨d0, d1, d2, d3⟩, ⟨g0, g1, g2, g3⟩⟩ := HS.out.facts
  go_wp2
  exact HS.out.ret2 Tryz.f106 rfl rfl rfl rfl (Nat.le_refl _) _ graph (fun b hb => by
    rw [Bool.eq_iff_iff]
    try simp [Oct.join, Oct.none, Oct.span, graph, punct, upper, lower, digit]
    try omega)
end Go.Proofs.YtmjnobdlgbojoaaGreatDoor


namespace Go.Proofs.YtmjnobdlgbojoaaGreatDoor
open Go.RowKit
attribute [local go_sem ↓] Go.wp_at_zero Go.wp_at_succ
set_option maxRecDepth 4000 in
set_option maxHeartbeats 2000000 in
theorem class_print (w : World) : Calls Tryz.prog 106 #[.string ⟨#[112, 114, 105, 110, 116]⟩] w fun e w' => e = .returned (.tuple #[setV print, .int .i64 0]) ∧ Below w.heap.size w w' := by
  obtain ⟨u0, hu0⟩ : ∃ u0, u0 = (w.alloc (.cells #[.int .u64 0, .int .u64 0, .int .u64 0, .int .u64 0] 28)).alloc (.cells #[.int .u64 0, .int .u64 0, .int .u64 0, .int .u64 0] 28) := ⟨_, rfl⟩
  have HS : Hid (St w u0 w.heap.size (w.heap.size + 1) (Oct.none)) := by rw [hu0]; exact start2 w
  have HU : Hid (u0 = _) := hu0
  clear hu0
  go_enter Tryz.func106, Tryz.ntmps106
  go_upto_region 15 with fail
  rw [← HU.out]
  clear HU
  obtain ⟨⟨c0, c1, c2, c3⟩, ⟨f0, f1, f2, f3⟩, ⟨d0, d1, d2, d3⟩, ⟨g0, g1, g2, g3⟩⟩ := HS.out.facts
  go_wp2_with fail
  refine (of_gen [32] 1 rfl (by decide) (bytesAt_new _ [32] 5 (0, 0)) (by decide)).mono ?_
  rintro e v10 ⟨rfl, kk⟩
  have H10 : Hid (St w v10 w.heap.size (w.heap.size + 1) (Oct.none)) := (HS.out.later ((Below.refl _ _).alloc (Nat.le_refl _) _)).later kk
  clear kk c0 c1 c2 c3 f0 f1 f2 f3 d0 d1 d2 d3 g0 g1 g2 g3
  obtain ⟨⟨c0, c1, c2, c3⟩, ⟨f0, f1, f2, f3⟩, ⟨d0, d1, d2, d3⟩, ⟨g0, g1, g2, g3⟩⟩ := H10.out.facts
  go_upto_region 16 with fail
  obtain ⟨u1, hu1⟩ : ∃ u1, u1 = put4 v10 (w.heap.size + 1) (Oct.has [32]) := ⟨_, rfl⟩
  have HT : Hid (St w u1 w.heap.size (w.heap.size + 1) (Oct.has [32])) := by rw [hu1]; exact H10.out.put (by omega) (by omega) _
  have HE : Hid (u1 = put4 v10 (w.heap.size + 1) (Oct.has [32])) := hu1
  unfold put4 at HE
  clear hu1 c0 c1 c2 c3 f0 f1 f2 f3 d0 d1 d2 d3 g0 g1 g2 g3 HS
  rw [← HE.out]
  clear HE
  have HS : Hid (St w u1 w.heap.size (w.heap.size + 1) (Oct.has [32])) := HT
  clear HT
  go_upto_region 16 with fail
  refine wp_cut4 32 33 34 35 (fun wx => Hid (St w wx w.heap.size (w.heap.size + 1) (Oct.join (Oct.has [32]) (punct)))) ?first2 ?rest2
  case first2 =>
    obtain ⟨⟨c0, c1, c2, c3⟩, ⟨f0, f1, f2, f3⟩, ⟨d0, d1, d2, d3⟩, ⟨g0, g1, g2, g3⟩⟩ := HS.out.facts
    have a0 : ∀ o : Obj, (u1.alloc o).cell? ⟨w.heap.size + 1, 0, none⟩ = some (.int .u64 (Oct.word (Oct.has [32]) 0 : Nat)) := fun o => (HS.out.later ((Below.refl _ _).alloc (Nat.le_refl _) _)).facts.1.1
    have a1 : ∀ o : Obj, (u1.alloc o).cell? ⟨w.heap.size + 1, 1, none⟩ = some (.int .u64 (Oct.word (Oct.has [32]) 1 : Nat)) := fun o => (HS.out.later ((Below.refl _ _).alloc (Nat.le_refl _) _)).facts.1.2.1
    have a2 : ∀ o : Obj, (u1.alloc o).cell? ⟨w.heap.size + 1, 2, none⟩ = some (.int .u64 (Oct.word (Oct.has [32]) 2 : Nat)) := fun o => (HS.out.later ((Below.refl _ _).alloc (Nat.le_refl _) _)).facts.1.2.2.1
    have a3 : ∀ o : Obj, (u1.alloc o).cell? ⟨w.heap.size + 1, 3, none⟩ = some (.int .u64 (Oct.word (Oct.has [32]) 3 : Nat)) := fun o => (HS.out.later ((Below.refl _ _).alloc (Nat.le_refl _) _)).facts.1.2.2.2
    go_region_with (first
      | (go_at_call 109; refine (marks_any _).mono ?_; rintro e wn ⟨rfl, kn⟩; have Hn : Hid (St w wn w.heap.size (w.heap.size + 1) (Oct.has [32])) := (by first | exact (HS.out.later (Below.refl _ _).drew).later kn | exact (HS.out.later (((Below.refl _ _).alloc (Nat.le_refl _) _).drew)).later kn); clear c0 c1 c2 c3 f0 f1 f2 f3 d0 d1 d2 d3 g0 g1 g2 g3; obtain ⟨⟨c0, c1, c2, c3⟩, ⟨f0, f1, f2, f3⟩, ⟨d0, d1, d2, d3⟩, ⟨g0, g1, g2, g3⟩⟩ := Hn.out.facts; clear kn)
      | (go_at_call 95; refine (join2_gen (sl2_new _ _ _ _ rfl)).mono ?_; rintro e wm ⟨rfl, km⟩; have Hm : Hid (St w wm w.heap.size (w.heap.size + 1) (Oct.has [32])) := (Hn.out.later ((Below.refl _ _).alloc (Nat.le_refl _) _)).later km; clear c0 c1 c2 c3 f0 f1 f2 f3 d0 d1 d2 d3 g0 g1 g2 g3; obtain ⟨⟨c0, c1, c2, c3⟩, ⟨f0, f1, f2, f3⟩, ⟨d0, d1, d2, d3⟩, ⟨g0, g1, g2, g3⟩⟩ := Hm.out.facts; clear km))
    all_goals
      exact ⟨rfl, ⟨_, _, _, _, rfl⟩, Hm.out.put (by omega) (by omega) (Oct.join (Oct.has [32]) (punct))⟩
  case rest2 =>
  intro x20 x21 x22 x23 u2 hcut a' ha'
  simp [Act.put] at ha'
  subst ha'
  clear HS
  have HS : Hid (St w u2 w.heap.size (w.heap.size + 1) (Oct.join (Oct.has [32]) (punct))) := hcut
  clear hcut
  go_upto_region 17 with fail
  refine wp_cut4 36 37 38 39 (fun wx => Hid (St w wx w.heap.size (w.heap.size + 1) (Oct.join (Oct.join (Oct.has [32]) (punct)) (Oct.span 48 57)))) ?first3 ?rest3
  case first3 =>
    obtain ⟨⟨c0, c1, c2, c3⟩, ⟨f0, f1, f2, f3⟩, ⟨d0, d1, d2, d3⟩, ⟨g0, g1, g2, g3⟩⟩ := HS.out.facts
    have a0 : ∀ o : Obj, (u2.alloc o).cell? ⟨w.heap.size + 1, 0, none⟩ = some (.int .u64 (Oct.word (Oct.join (Oct.has [32]) (punct)) 0 : Nat)) := fun o => (HS.out.later ((Below.refl _ _).alloc (Nat.le_refl _) _)).facts.1.1
    have a1 : ∀ o : Obj, (u2.alloc o).cell? ⟨w.heap.size + 1, 1, none⟩ = some (.int .u64 (Oct.word (Oct.join (Oct.has [32]) (punct)) 1 : Nat)) := fun o => (HS.out.later ((Below.refl _ _).alloc (Nat.le_refl _) _)).facts.1.2.1
    have a2 : ∀ o : Obj, (u2.alloc o).cell? ⟨w.heap.size + 1, 2, none⟩ = some (.int .u64 (Oct.word (Oct.join (Oct.has [32]) (punct)) 2 : Nat)) := fun o => (HS.out.later ((Below.refl _ _).alloc (Nat.le_refl _) _)).facts.1.2.2.1
    have a3 : ∀ o : Obj, (u2.alloc o).cell? ⟨w.heap.size + 1, 3, none⟩ = some (.int .u64 (Oct.word (Oct.join (Oct.has [32]) (punct)) 3 : Nat)) := fun o => (HS.out.later ((Below.refl _ _).alloc (Nat.le_refl _) _)).facts.1.2.2.2
    go_region_with (first
      | (go_at_call 107; refine (span_gen 48 57 _ (by decide) (by decide)).mono ?_; rintro e wn ⟨rfl, kn⟩; have Hn : Hid (St w wn w.heap.size (w.heap.size + 1) (Oct.join (Oct.has [32]) (punct))) := (by first | exact (HS.out.later (Below.refl _ _).drew).later kn | exact (HS.out.later (((Below.refl _ _).alloc (Nat.le_refl _) _).drew)).later kn); clear c0 c1 c2 c3 f0 f1 f2 f3 d0 d1 d2 d3 g0 g1 g2 g3; obtain ⟨⟨c0, c1, c2, c3⟩, ⟨f0, f1, f2, f3⟩, ⟨d0, d1, d2, d3⟩, ⟨g0, g1, g2, g3⟩⟩ := Hn.out.facts; clear kn)
      | (go_at_call 95; refine (join2_gen (sl2_new _ _ _ _ rfl)).mono ?_; rintro e wm ⟨rfl, km⟩; have Hm : Hid (St w wm w.heap.size (w.heap.size + 1) (Oct.join (Oct.has [32]) (punct))) := (Hn.out.later ((Below.refl _ _).alloc (Nat.le_refl _) _)).later km; clear c0 c1 c2 c3 f0 f1 f2 f3 d0 d1 d2 d3 g0 g1 g2 g3; obtain ⟨⟨c0, c1, c2, c3⟩, ⟨f0, f1, f2, f3⟩, ⟨d0, d1, d2, d3⟩, ⟨g0, g1, g2, g3⟩⟩ := Hm.out.facts; clear km))
    all_goals
      exact ⟨rfl, ⟨_, _, _, _, rfl⟩, Hm.out.put (by omega) (by omega) (Oct.join (Oct.join (Oct.has [32]) (punct)) (Oct.span 48 57))⟩
  case rest3 =>
  intro x30 x31 x32 x33 u3 hcut a' ha'
  simp [Act.put] at ha'
  subst ha'
  clear HS
  have HS : Hid (St w u3 w.heap.size (w.heap.size + 1) (Oct.join (Oct.join (Oct.has [32]) (punct)) (Oct.span 48 57))) := hcut
  clear hcut
  go_upto_region 18 with fail
  refine wp_cut4 40 41 42 43 (fun wx => Hid (St w wx w.heap.size (w.heap.size + 1) (Oct.join (Oct.join (Oct.join (Oct.has [32]) (punct)) (Oct.span 48 57)) (Oct.span 65 90)))) ?first4 ?rest4
  case first4 =>
    obtain ⟨⟨c0, c1, c2, c3⟩, ⟨f0, f1, f2, f3⟩, ⟨d0, d1, d2, d3⟩, ⟨g0, g1, g2, g3⟩⟩ := HS.out.facts
    have a0 : ∀ o : Obj, (u3.alloc o).cell? ⟨w.heap.size + 1, 0, none⟩ = some (.int .u64 (Oct.word (Oct.join (Oct.join (Oct.has [32]) (punct)) (Oct.span 48 57)) 0 : Nat)) := fun o => (HS.out.later ((Below.refl _ _).alloc (Nat.le_refl _) _)).facts.1.1
    have a1 : ∀ o : Obj, (u3.alloc o).cell? ⟨w.heap.size + 1, 1, none⟩ = some (.int .u64 (Oct.word (Oct.join (Oct.join (Oct.has [32]) (punct)) (Oct.span 48 57)) 1 : Nat)) := fun o => (HS.out.later ((Below.refl _ _).alloc (Nat.le_refl _) _)).facts.1.2.1
    have a2 : ∀ o : Obj, (u3.alloc o).cell? ⟨w.heap.size + 1, 2, none⟩ = some (.int .u64 (Oct.word (Oct.join (Oct.join (Oct.has [32]) (punct)) (Oct.span 48 57)) 2 : Nat)) := fun o => (HS.out.later ((Below.refl _ _).alloc (Nat.le_refl _) _)).facts.1.2.2.1
    have a3 : ∀ o : Obj, (u3.alloc o).cell? ⟨w.heap.size + 1, 3, none⟩ = some (.int .u64 (Oct.word (Oct.join (Oct.join (Oct.has [32]) (punct)) (Oct.span 48 57)) 3 : Nat)) := fun o => (HS.out.later ((Below.refl _ _).alloc (Nat.le_refl _) _)).facts.1.2.2.2
    go_region_with (first
      | (go_at_call 107; refine (span_gen 65 90 _ (by decide) (by decide)).mono ?_; rintro e wn ⟨rfl, kn⟩; have Hn : Hid (St w wn w.heap.size (w.heap.size + 1) (Oct.join (Oct.join (Oct.has [32]) (punct)) (Oct.span 48 57))) := (by first | exact (HS.out.later (Below.refl _ _).drew).later kn | exact (HS.out.later (((Below.refl _ _).alloc (Nat.le_refl _) _).drew)).later kn); clear c0 c1 c2 c3 f0 f1 f2 f3 d0 d1 d2 d3 g0 g1 g2 g3; obtain ⟨⟨c0, c1, c2, c3⟩, ⟨f0, f1, f2, f3⟩, ⟨d0, d1, d2, d3⟩, ⟨g0, g1, g2, g3⟩⟩ := Hn.out.facts; clear kn)
      | (go_at_call 95; refine (join2_gen (sl2_new _ _ _ _ rfl)).mono ?_; rintro e wm ⟨rfl, km⟩; have Hm : Hid (St w wm w.heap.size (w.heap.size + 1) (Oct.join (Oct.join (Oct.has [32]) (punct)) (Oct.span 48 57))) := (Hn.out.later ((Below.refl _ _).alloc (Nat.le_refl _) _)).later km; clear c0 c1 c2 c3 f0 f1 f2 f3 d0 d1 d2 d3 g0 g1 g2 g3; obtain ⟨⟨c0, c1, c2, c3⟩, ⟨f0, f1, f2, f3⟩, ⟨d0, d1, d2, d3⟩, ⟨g0, g1, g2, g3⟩⟩ := Hm.out.facts; clear km))
    all_goals
      exact ⟨rfl, ⟨_, _, _, _, rfl⟩, Hm.out.put (by omega) (by omega) (Oct.join (Oct.join (Oct.join (Oct.has [32]) (punct)) (Oct.span 48 57)) (Oct.span 65 90))⟩
  case rest4 =>
  intro x40 x41 x42 x43 u4 hcut a' ha'
  simp [Act.put] at ha'
  subst ha'
  clear HS
  have HS : Hid (St w u4 w.heap.size (w.heap.size + 1) (Oct.join (Oct.join (Oct.join (Oct.has [32]) (punct)) (Oct.span 48 57)) (Oct.span 65 90))) := hcut
  clear hcut
  go_upto_region 19 with fail
  refine wp_cut4 44 45 46 47 (fun wx => Hid (St w wx w.heap.size (w.heap.size + 1) (Oct.join (Oct.join (Oct.join (Oct.join (Oct.has [32]) (punct)) (Oct.span 48 57)) (Oct.span 65 90)) (Oct.span 97 122)))) ?first5 ?rest5
  case first5 =>
    obtain ⟨⟨c0, c1, c2, c3⟩, ⟨f0, f1, f2, f3⟩, ⟨d0, d1, d2, d3⟩, ⟨g0, g1, g2, g3⟩⟩ := HS.out.facts
    have a0 : ∀ o : Obj, (u4.alloc o).cell? ⟨w.heap.size + 1, 0, none⟩ = some (.int .u64 (Oct.word (Oct.join (Oct.join (Oct.join (Oct.has [32]) (punct)) (Oct.span 48 57)) (Oct.span 65 90)) 0 : Nat)) := fun o => (HS.out.later ((Below.refl _ _).alloc (Nat.le_refl _) _)).facts.1.1
    have a1 : ∀ o : Obj, (u4.alloc o).cell? ⟨w.heap.size + 1, 1, none⟩ = some (.int .u64 (Oct.word (Oct.join (Oct.join (Oct.join (Oct.has [32]) (punct)) (Oct.span 48 57)) (Oct.span 65 90)) 1 : Nat)) := fun o => (HS.out.later ((Below.refl _ _).alloc (Nat.le_refl _) _)).facts.1.2.1
    have a2 : ∀ o : Obj, (u4.alloc o).cell? ⟨w.heap.size + 1, 2, none⟩ = some (.int .u64 (Oct.word (Oct.join (Oct.join (Oct.join (Oct.has [32]) (punct)) (Oct.span 48 57)) (Oct.span 65 90)) 2 : Nat)) := fun o => (HS.out.later ((Below.refl _ _).alloc (Nat.le_refl _) _)).facts.1.2.2.1
    have a3 : ∀ o : Obj, (u4.alloc o).cell? ⟨w.heap.size + 1, 3, none⟩ = some (.int .u64 (Oct.word (Oct.join (Oct.join (Oct.join (Oct.has [32]) (punct)) (Oct.span 48 57)) (Oct.span 65 90)) 3 : Nat)) := fun o => (HS.out.later ((Below.refl _ _).alloc (Nat.le_refl _) _)).facts.1.2.2.2
    go_region_with (first
      | (go_at_call 107; refine (span_gen 97 122 _ (by decide) (by decide)).mono ?_; rintro e wn ⟨rfl, kn⟩; have Hn : Hid (St w wn w.heap.size (w.heap.size + 1) (Oct.join (Oct.join (Oct.join (Oct.has [32]) (punct)) (Oct.span 48 57)) (Oct.span 65 90))) := (by first | exact (HS.out.later (Below.refl _ _).drew).later kn | exact (HS.out.later (((Below.refl _ _).alloc (Nat.le_refl _) _).drew)).later kn); clear c0 c1 c2 c3 f0 f1 f2 f3 d0 d1 d2 d3 g0 g1 g2 g3; obtain ⟨⟨c0, c1, c2, c3⟩, ⟨f0, f1, f2, f3⟩, ⟨d0, d1, d2, d3⟩, ⟨g0, g1, g2, g3⟩⟩ := Hn.out.facts; clear kn)
      | (go_at_call 95; refine (join2_gen (sl2_new _ _ _ _ rfl)).mono ?_; rintro e wm ⟨rfl, km⟩; have Hm : Hid (St w wm w.heap.size (w.heap.size + 1) (Oct.join (Oct.join (Oct.join (Oct.has [32]) (punct)) (Oct.span 48 57)) (Oct.span 65 90))) := (Hn.out.later ((Below.refl _ _).alloc (Nat.le_refl _) _)).later km; clear c0 c1 c2 c3 f0 f1 f2 f3 d0 d1 d2 d3 g0 g1 g2 g3; obtain ⟨⟨c0, c1, c2, c3⟩, ⟨f0, f1, f2, f3⟩, ⟨d0, d1, d2, d3⟩, ⟨g0, g1, g2, g3⟩⟩ := Hm.out.facts; clear km))
    all_goals
      exact ⟨rfl, ⟨_, _, _, _, rfl⟩, Hm.out.put (by omega) (by omega) (Oct.join (Oct.join (Oct.join (Oct.join (Oct.has [32]) (punct)) (Oct.span 48 57)) (Oct.span 65 90)) (Oct.span 97 122))⟩
  case rest5 =>
  intro x50 x51 x52 x53 u5 hcut a' ha'
  simp [Act.put] at ha'
  subst ha'
  clear HS
  have HS : Hid (St w u5 w.heap.size (w.heap.size + 1) (Oct.join (Oct.join (Oct.join (Oct.join (Oct.has [32]) (punct)) (Oct.span 48 57)) (Oct.span 65 90)) (Oct.span 97 122))) := hcut
  clear hcut
  obtain ⟨⟨c0, c1, c2, c3⟩, ⟨f0, f1, f2, f3⟩, ⟨d0, d1, d2, d3⟩, ⟨g0, g1, g2, g3⟩⟩ := HS.out.facts
  go_wp2
  exact HS.out.ret2 Tryz.f106 rfl rfl rfl rfl (Nat.le_refl _) _ print (fun b hb => by
    rw [Bool.eq_iff_iff]
    try simp [Oct.join, Oct.has, Oct.span, print, graph, punct, upper, lower, digit]
    try omega)
end Go.Proofs.YtmjnobdlgbojoaaGreatDoor
