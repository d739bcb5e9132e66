
import Derived.Test.YtmjnobdlgbojoaaGreatDoorG01
import Derived.Deep.DeepMust
namespace Go.Proofs.YtmjnobdlgbojoaaGreatDoor
open Go.RowKit
def RB (w : World) (B : Nat) (s : ByteArray) (i d : Nat) : Prop := w.heap[B]? = some (.cells #[.string s, .int .i64 (i : Nat), .int .i64 (d : Nat)] 91 (0, 0))
theorem RB.cells {w : World} {B : Nat} {s : ByteArray} {i d : Nat} (h : RB w B s i d) : w.cell? ⟨B, 0, none⟩ = some (.string s) ∧ w.cell? ⟨B, 1, none⟩ = some (.int .i64 (i : Nat)) ∧ w.cell? ⟨B, 2, none⟩ = some (.int .i64 (d : Nat)) := by
  unfold RB at h
  refine ⟨?_, ?_, ?_⟩ <;> simp [World.cell?, h]
theorem RB.frozen {w : World} {B : Nat} {s : ByteArray} {i d : Nat} (h : RB w B s i d) (j : Nat) : w.frozen? ⟨B, j, none⟩ = false := by
  unfold RB at h
  simp [World.frozen?, h]
theorem RB.lt {w : World} {B : Nat} {s : ByteArray} {i d : Nat} (h : RB w B s i d) : B < w.heap.size := (Array.getElem?_eq_some_iff.1 h).1
theorem RB.later {w w' : World} {B : Nat} {s : ByteArray} {i d : Nat} (h : RB w B s i d) (hb : Below w.heap.size w w') : RB w' B s i d := (hb.block B h.lt).trans h
theorem below_drewN (B : Nat) (w : World) (n : Nat) : Below B w (w.drewN n) := ⟨rfl, rfl, rfl, Nat.le_refl _, fun _ _ => rfl⟩
theorem ended_any (B i d : Nat) (s : ByteArray) (w : World) (h : RB w B s i d) : Calls Tryz.prog 63 #[.pointer (some ⟨B, 0, none⟩)] w fun e w' => e = .returned (.bool (decide (i = s.size))) ∧ Below w.heap.size w w' := by
  obtain ⟨c0, c1, c2⟩ := h.cells
  clear h
  go_enter Tryz.func63, Tryz.ntmps63
  go_wp2
  go_quiet (fail)
  go_wp2
  go_ret
  exact ⟨ret_bool (by rw [Bool.eq_iff_iff]; simp; omega), below_drewN _ _ _⟩
def byt (s : ByteArray) (i : Nat) : Nat := if h : i < s.size then s[i].toNat else 0
theorem byt_eq {s : ByteArray} {i : Nat} (h : i < s.size) : byt s i = s[i].toNat := dif_pos h
theorem byt_lt (s : ByteArray) (i : Nat) : byt s i < 256 := by
  unfold byt
  split
  · exact UInt8.toNat_lt _
  · decide
theorem sees_no (B i d : Nat) (b : Int) (s : ByteArray) (w : World) (h : RB w B s i d) (hi : i = s.size) : Calls Tryz.prog 78 #[.pointer (some ⟨B, 0, none⟩), .int .u8 b] w fun e w' => e = .returned (.bool false) ∧ Below w.heap.size w w' := by
  have HR : Hid (RB w B s i d) := h
  have HI : Hid (decide (i = s.size) = true) := by show _ = _; simp [hi]
  clear h hi
  go_enter Tryz.func78, Tryz.ntmps78
  have hne : Nonempty (Later w) := ⟨⟨w, Below.refl _ _⟩⟩
  have HE : Hid (∀ u : Later w, Calls Tryz.prog 63 #[.pointer (some ⟨B, 0, none⟩)] u.at_ fun e w' => e = .returned (.bool true) ∧ Below u.at_.heap.size u.at_ w') := fun u => (ended_any B i d s _ (HR.out.later u.below)).mono (fun _ _ h => ⟨by rw [h.1, HI.out], h.2⟩)
  go_upto_region 1 with fail
  refine wp_region_later (by kernel_rfl) (by kernel_rfl) ?_
  repeat (first
    | go_big_quiet_step ((go_at_call 63; exact calls_later (HE.out _)))
    | quiet_step ((go_at_call 63; exact calls_later (HE.out _))))
  refine wpQuiet_nil ?_
  intro _ hw'
  obtain ⟨u, hw''⟩ := hw'
  subst hw''
  go_wp2
  go_ret
  exact ⟨rfl, u.below⟩
theorem sees_at (B i d : Nat) (b : Nat) (s : ByteArray) (w : World) (h : RB w B s i d) (hi : i < s.size) : Calls Tryz.prog 78 #[.pointer (some ⟨B, 0, none⟩), .int .u8 (b : Nat)] w fun e w' => e = .returned (.bool (decide (byt s i = b))) ∧ Below w.heap.size w w' := by
  have HR : Hid (RB w B s i d) := h
  have HI : Hid (decide (i = s.size) = false) := by show _ = _; simp; omega
  have hi' : (i : Int) < (s.size : Int) := by omega
  clear h
  go_enter Tryz.func78, Tryz.ntmps78
  have hne : Nonempty (Later w) := ⟨⟨w, Below.refl _ _⟩⟩
  have HE : Hid (∀ u : Later w, Calls Tryz.prog 63 #[.pointer (some ⟨B, 0, none⟩)] u.at_ fun e w' => e = .returned (.bool false) ∧ Below u.at_.heap.size u.at_ w') := fun u => (ended_any B i d s _ (HR.out.later u.below)).mono (fun _ _ h => ⟨by rw [h.1, HI.out], h.2⟩)
  have c0 : ∀ u : Later w, u.at_.cell? ⟨B, 0, none⟩ = some (.string s) := fun u => (HR.out.later u.below).cells.1
  have c1 : ∀ u : Later w, u.at_.cell? ⟨B, 1, none⟩ = some (.int .i64 (i : Nat)) := fun u => (HR.out.later u.below).cells.2.1
  go_upto_region 1 with fail
  refine wp_region_later (by kernel_rfl) (by kernel_rfl) ?_
  repeat (first
    | go_big_quiet_step ((go_at_call 63; exact calls_later (HE.out _)))
    | quiet_step ((go_at_call 63; exact calls_later (HE.out _))))
  refine wpQuiet_nil ?_
  intro _ hw'
  obtain ⟨u, hw''⟩ := hw'
  subst hw''
  go_wp2
  go_ret
  refine ⟨?_, u.below⟩
  exact ret_bool (by rw [Bool.eq_iff_iff, byt_eq hi]; simp; omega)
def sees (s : ByteArray) (i b : Nat) : Bool := decide (i < s.size) && decide (byt s i = b)
theorem sees_any (B i d : Nat) (b : Nat) (s : ByteArray) (w : World) (h : RB w B s i d) (hi : i ≤ s.size) : Calls Tryz.prog 78 #[.pointer (some ⟨B, 0, none⟩), .int .u8 (b : Nat)] w fun e w' => e = .returned (.bool (sees s i b)) ∧ Below w.heap.size w w' := by
  by_cases e : i = s.size
  · refine (sees_no B i d b s w h e).mono ?_
    rintro _ w' ⟨rfl, hb⟩
    have : ¬ i < s.size := by omega
    exact ⟨by simp [sees, this], hb⟩
  · have hlt : i < s.size := by omega
    refine (sees_at B i d b s w h hlt).mono ?_
    rintro _ w' ⟨rfl, hb⟩
    exact ⟨by simp [sees, hlt], hb⟩
def flt (i e : Nat) : Value := .iface 88 (.agg #[.int .i64 (i : Nat), .int .i64 (e : Nat)])
theorem giveUp_any (i e : Nat) (w : World) : Calls Tryz.prog 64 #[.int .i64 (i : Nat), .int .i64 (e : Nat)] w fun x w' => x = .panicked [{ v := flt i e, recovered := false }] ∧ Below w.heap.size w w' := by
  go_enter Tryz.func64, Tryz.ntmps64
  go_wp2
  exact ⟨rfl, rfl, Below.refl _ _⟩
end Go.Proofs.YtmjnobdlgbojoaaGreatDoor


namespace Go.Proofs.YtmjnobdlgbojoaaGreatDoor
open Go.RowKit
attribute [local go_sem ↓] Go.wp_at_zero Go.wp_at_succ
set_option maxRecDepth 4000 in
set_option maxHeartbeats 2000000 in
theorem class_upper (w : World) : Calls Tryz.prog 106 #[.string ⟨#[117, 112, 112, 101, 114]⟩] w fun e w' => e = .returned (.tuple #[setV upper, .int .i64 0]) ∧ Below w.heap.size w w' := by
  obtain ⟨u0, hu0⟩ : ∃ u0, u0 = (w.alloc (.cells #[.int .u64 0, .int .u64 0, .int .u64 0, .int .u64 0] 28)).alloc (.cells #[.int .u64 0, .int .u64 0, .int .u64 0, .int .u64 0] 28) := ⟨_, rfl⟩
  have HS : Hid (St w u0 w.heap.size (w.heap.size + 1) (Oct.none)) := by rw [hu0]; exact start2 w
  have HU : Hid (u0 = _) := hu0
  clear hu0
  go_enter Tryz.func106, Tryz.ntmps106
  go_upto_region 20 with fail
  rw [← HU.out]
  clear HU
  obtain ⟨⟨c0, c1, c2, c3⟩, ⟨f0, f1, f2, f3⟩, ⟨d0, d1, d2, d3⟩, ⟨g0, g1, g2, g3⟩⟩ := HS.out.facts
  go_wp2_with fail
  refine (span_gen 65 90 _ (by decide) (by decide)).mono ?_
  rintro e v10 ⟨rfl, kk⟩
  have H10 : Hid (St w v10 w.heap.size (w.heap.size + 1) (Oct.none)) := (HS.out).later kk
  clear kk c0 c1 c2 c3 f0 f1 f2 f3 d0 d1 d2 d3 g0 g1 g2 g3
  obtain ⟨⟨c0, c1, c2, c3⟩, ⟨f0, f1, f2, f3⟩, ⟨d0, d1, d2, d3⟩, ⟨g0, g1, g2, g3⟩⟩ := H10.out.facts
  go_upto_region 28 with fail
  obtain ⟨u1, hu1⟩ : ∃ u1, u1 = put4 v10 (w.heap.size + 1) (Oct.span 65 90) := ⟨_, rfl⟩
  have HT : Hid (St w u1 w.heap.size (w.heap.size + 1) (Oct.span 65 90)) := by rw [hu1]; exact H10.out.put (by omega) (by omega) _
  have HE : Hid (u1 = put4 v10 (w.heap.size + 1) (Oct.span 65 90)) := hu1
  unfold put4 at HE
  clear hu1 c0 c1 c2 c3 f0 f1 f2 f3 d0 d1 d2 d3 g0 g1 g2 g3 HS
  rw [← HE.out]
  clear HE
  have HS : Hid (St w u1 w.heap.size (w.heap.size + 1) (Oct.span 65 90)) := HT
  clear HT
  obtain ⟨⟨c0, c1, c2, c3⟩, ⟨f0, f1, f2, f3⟩, ⟨d0, d1, d2, d3⟩, ⟨g0, g1, g2, g3⟩⟩ := HS.out.facts
  go_wp2
  exact HS.out.ret2 Tryz.f106 rfl rfl rfl rfl (Nat.le_refl _) _ upper (fun b hb => by
    rw [Bool.eq_iff_iff]
    try simp [Oct.span, upper]
    try omega)
set_option maxRecDepth 4000 in
set_option maxHeartbeats 2000000 in
theorem class_lower (w : World) : Calls Tryz.prog 106 #[.string ⟨#[108, 111, 119, 101, 114]⟩] w fun e w' => e = .returned (.tuple #[setV lower, .int .i64 0]) ∧ Below w.heap.size w w' := by
  obtain ⟨u0, hu0⟩ : ∃ u0, u0 = (w.alloc (.cells #[.int .u64 0, .int .u64 0, .int .u64 0, .int .u64 0] 28)).alloc (.cells #[.int .u64 0, .int .u64 0, .int .u64 0, .int .u64 0] 28) := ⟨_, rfl⟩
  have HS : Hid (St w u0 w.heap.size (w.heap.size + 1) (Oct.none)) := by rw [hu0]; exact start2 w
  have HU : Hid (u0 = _) := hu0
  clear hu0
  go_enter Tryz.func106, Tryz.ntmps106
  go_upto_region 19 with fail
  rw [← HU.out]
  clear HU
  refine wp_cut4 44 45 46 47 (fun wx => Hid (St w wx w.heap.size (w.heap.size + 1) (Oct.join (Oct.none) (Oct.span 97 122)))) ?first1 ?rest1
  case first1 =>
    obtain ⟨⟨c0, c1, c2, c3⟩, ⟨f0, f1, f2, f3⟩, ⟨d0, d1, d2, d3⟩, ⟨g0, g1, g2, g3⟩⟩ := HS.out.facts
    have a0 : ∀ o : Obj, (u0.alloc o).cell? ⟨w.heap.size + 1, 0, none⟩ = some (.int .u64 (Oct.word (Oct.none) 0 : Nat)) := fun o => (HS.out.later ((Below.refl _ _).alloc (Nat.le_refl _) _)).facts.1.1
    have a1 : ∀ o : Obj, (u0.alloc o).cell? ⟨w.heap.size + 1, 1, none⟩ = some (.int .u64 (Oct.word (Oct.none) 1 : Nat)) := fun o => (HS.out.later ((Below.refl _ _).alloc (Nat.le_refl _) _)).facts.1.2.1
    have a2 : ∀ o : Obj, (u0.alloc o).cell? ⟨w.heap.size + 1, 2, none⟩ = some (.int .u64 (Oct.word (Oct.none) 2 : Nat)) := fun o => (HS.out.later ((Below.refl _ _).alloc (Nat.le_refl _) _)).facts.1.2.2.1
    have a3 : ∀ o : Obj, (u0.alloc o).cell? ⟨w.heap.size + 1, 3, none⟩ = some (.int .u64 (Oct.word (Oct.none) 3 : Nat)) := fun o => (HS.out.later ((Below.refl _ _).alloc (Nat.le_refl _) _)).facts.1.2.2.2
    go_region_with (first
      | (go_at_call 107; refine (span_gen 97 122 _ (by decide) (by decide)).mono ?_; rintro e wn ⟨rfl, kn⟩; have Hn : Hid (St w wn w.heap.size (w.heap.size + 1) (Oct.none)) := (by first | exact (HS.out.later (Below.refl _ _).drew).later kn | exact (HS.out.later (((Below.refl _ _).alloc (Nat.le_refl _) _).drew)).later kn); clear c0 c1 c2 c3 f0 f1 f2 f3 d0 d1 d2 d3 g0 g1 g2 g3; obtain ⟨⟨c0, c1, c2, c3⟩, ⟨f0, f1, f2, f3⟩, ⟨d0, d1, d2, d3⟩, ⟨g0, g1, g2, g3⟩⟩ := Hn.out.facts; clear kn)
      | (go_at_call 95; refine (join2_gen (sl2_new _ _ _ _ rfl)).mono ?_; rintro e wm ⟨rfl, km⟩; have Hm : Hid (St w wm w.heap.size (w.heap.size + 1) (Oct.none)) := (Hn.out.later ((Below.refl _ _).alloc (Nat.le_refl _) _)).later km; clear c0 c1 c2 c3 f0 f1 f2 f3 d0 d1 d2 d3 g0 g1 g2 g3; obtain ⟨⟨c0, c1, c2, c3⟩, ⟨f0, f1, f2, f3⟩, ⟨d0, d1, d2, d3⟩, ⟨g0, g1, g2, g3⟩⟩ := Hm.out.facts; clear km))
    all_goals
      exact ⟨rfl, ⟨_, _, _, _, rfl⟩, Hm.out.put (by omega) (by omega) (Oct.join (Oct.none) (Oct.span 97 122))⟩
  case rest1 =>
  intro x10 x11 x12 x13 u1 hcut a' ha'
  simp [Act.put] at ha'
  subst ha'
  clear HS
  have HS : Hid (St w u1 w.heap.size (w.heap.size + 1) (Oct.join (Oct.none) (Oct.span 97 122))) := hcut
  clear hcut
  obtain ⟨⟨c0, c1, c2, c3⟩, ⟨f0, f1, f2, f3⟩, ⟨d0, d1, d2, d3⟩, ⟨g0, g1, g2, g3⟩⟩ := HS.out.facts
  go_wp2
  exact HS.out.ret2 Tryz.f106 rfl rfl rfl rfl (Nat.le_refl _) _ lower (fun b hb => by
    rw [Bool.eq_iff_iff]
    try simp [Oct.join, Oct.none, Oct.span, lower]
    try omega)
set_option maxRecDepth 4000 in
set_option maxHeartbeats 2000000 in
theorem class_alpha (w : World) : Calls Tryz.prog 106 #[.string ⟨#[97, 108, 112, 104, 97]⟩] w fun e w' => e = .returned (.tuple #[setV alpha, .int .i64 0]) ∧ Below w.heap.size w w' := by
  obtain ⟨u0, hu0⟩ : ∃ u0, u0 = (w.alloc (.cells #[.int .u64 0, .int .u64 0, .int .u64 0, .int .u64 0] 28)).alloc (.cells #[.int .u64 0, .int .u64 0, .int .u64 0, .int .u64 0] 28) := ⟨_, rfl⟩
  have HS : Hid (St w u0 w.heap.size (w.heap.size + 1) (Oct.none)) := by rw [hu0]; exact start2 w
  have HU : Hid (u0 = _) := hu0
  clear hu0
  go_enter Tryz.func106, Tryz.ntmps106
  go_upto_region 18 with fail
  rw [← HU.out]
  clear HU
  refine wp_cut4 40 41 42 43 (fun wx => Hid (St w wx w.heap.size (w.heap.size + 1) (Oct.join (Oct.none) (Oct.span 65 90)))) ?first1 ?rest1
  case first1 =>
    obtain ⟨⟨c0, c1, c2, c3⟩, ⟨f0, f1, f2, f3⟩, ⟨d0, d1, d2, d3⟩, ⟨g0, g1, g2, g3⟩⟩ := HS.out.facts
    have a0 : ∀ o : Obj, (u0.alloc o).cell? ⟨w.heap.size + 1, 0, none⟩ = some (.int .u64 (Oct.word (Oct.none) 0 : Nat)) := fun o => (HS.out.later ((Below.refl _ _).alloc (Nat.le_refl _) _)).facts.1.1
    have a1 : ∀ o : Obj, (u0.alloc o).cell? ⟨w.heap.size + 1, 1, none⟩ = some (.int .u64 (Oct.word (Oct.none) 1 : Nat)) := fun o => (HS.out.later ((Below.refl _ _).alloc (Nat.le_refl _) _)).facts.1.2.1
    have a2 : ∀ o : Obj, (u0.alloc o).cell? ⟨w.heap.size + 1, 2, none⟩ = some (.int .u64 (Oct.word (Oct.none) 2 : Nat)) := fun o => (HS.out.later ((Below.refl _ _).alloc (Nat.le_refl _) _)).facts.1.2.2.1
    have a3 : ∀ o : Obj, (u0.alloc o).cell? ⟨w.heap.size + 1, 3, none⟩ = some (.int .u64 (Oct.word (Oct.none) 3 : Nat)) := fun o => (HS.out.later ((Below.refl _ _).alloc (Nat.le_refl _) _)).facts.1.2.2.2
    go_region_with (first
      | (go_at_call 107; refine (span_gen 65 90 _ (by decide) (by decide)).mono ?_; rintro e wn ⟨rfl, kn⟩; have Hn : Hid (St w wn w.heap.size (w.heap.size + 1) (Oct.none)) := (by first | exact (HS.out.later (Below.refl _ _).drew).later kn | exact (HS.out.later (((Below.refl _ _).alloc (Nat.le_refl _) _).drew)).later kn); clear c0 c1 c2 c3 f0 f1 f2 f3 d0 d1 d2 d3 g0 g1 g2 g3; obtain ⟨⟨c0, c1, c2, c3⟩, ⟨f0, f1, f2, f3⟩, ⟨d0, d1, d2, d3⟩, ⟨g0, g1, g2, g3⟩⟩ := Hn.out.facts; clear kn)
      | (go_at_call 95; refine (join2_gen (sl2_new _ _ _ _ rfl)).mono ?_; rintro e wm ⟨rfl, km⟩; have Hm : Hid (St w wm w.heap.size (w.heap.size + 1) (Oct.none)) := (Hn.out.later ((Below.refl _ _).alloc (Nat.le_refl _) _)).later km; clear c0 c1 c2 c3 f0 f1 f2 f3 d0 d1 d2 d3 g0 g1 g2 g3; obtain ⟨⟨c0, c1, c2, c3⟩, ⟨f0, f1, f2, f3⟩, ⟨d0, d1, d2, d3⟩, ⟨g0, g1, g2, g3⟩⟩ := Hm.out.facts; clear km))
    all_goals
      exact ⟨rfl, ⟨_, _, _, _, rfl⟩, Hm.out.put (by omega) (by omega) (Oct.join (Oct.none) (Oct.span 65 90))⟩
  case rest1 =>
  intro x10 x11 x12 x13 u1 hcut a' ha'
  simp [Act.put] at ha'
  subst ha'
  clear HS
  have HS : Hid (St w u1 w.heap.size (w.heap.size + 1) (Oct.join (Oct.none) (Oct.span 65 90))) := hcut
  clear hcut
  go_upto_region 19 with fail
  refine wp_cut4 44 45 46 47 (fun wx => Hid (St w wx w.heap.size (w.heap.size + 1) (Oct.join (Oct.join (Oct.none) (Oct.span 65 90)) (Oct.span 97 122)))) ?first2 ?rest2
  case first2 =>
    obtain ⟨⟨c0, c1, c2, c3⟩, ⟨f0, f1, f2, f3⟩, ⟨d0, d1, d2, d3⟩, ⟨g0, g1, g2, g3⟩⟩ := HS.out.facts
    have a0 : ∀ o : Obj, (u1.alloc o).cell? ⟨w.heap.size + 1, 0, none⟩ = some (.int .u64 (Oct.word (Oct.join (Oct.none) (Oct.span 65 90)) 0 : Nat)) := fun o => (HS.out.later ((Below.refl _ _).alloc (Nat.le_refl _) _)).facts.1.1
    have a1 : ∀ o : Obj, (u1.alloc o).cell? ⟨w.heap.size + 1, 1, none⟩ = some (.int .u64 (Oct.word (Oct.join (Oct.none) (Oct.span 65 90)) 1 : Nat)) := fun o => (HS.out.later ((Below.refl _ _).alloc (Nat.le_refl _) _)).facts.1.2.1
    have a2 : ∀ o : Obj, (u1.alloc o).cell? ⟨w.heap.size + 1, 2, none⟩ = some (.int .u64 (Oct.word (Oct.join (Oct.none) (Oct.span 65 90)) 2 : Nat)) := fun o => (HS.out.later ((Below.refl _ _).alloc (Nat.le_refl _) _)).facts.1.2.2.1
    have a3 : ∀ o : Obj, (u1.alloc o).cell? ⟨w.heap.size + 1, 3, none⟩ = some (.int .u64 (Oct.word (Oct.join (Oct.none) (Oct.span 65 90)) 3 : Nat)) := fun o => (HS.out.later ((Below.refl _ _).alloc (Nat.le_refl _) _)).facts.1.2.2.2
    go_region_with (first
      | (go_at_call 107; refine (span_gen 97 122 _ (by decide) (by decide)).mono ?_; rintro e wn ⟨rfl, kn⟩; have Hn : Hid (St w wn w.heap.size (w.heap.size + 1) (Oct.join (Oct.none) (Oct.span 65 90))) := (by first | exact (HS.out.later (Below.refl _ _).drew).later kn | exact (HS.out.later (((Below.refl _ _).alloc (Nat.le_refl _) _).drew)).later kn); clear c0 c1 c2 c3 f0 f1 f2 f3 d0 d1 d2 d3 g0 g1 g2 g3; obtain ⟨⟨c0, c1, c2, c3⟩, ⟨f0, f1, f2, f3⟩, ⟨d0, d1, d2, d3⟩, ⟨g0, g1, g2, g3⟩⟩ := Hn.out.facts; clear kn)
      | (go_at_call 95; refine (join2_gen (sl2_new _ _ _ _ rfl)).mono ?_; rintro e wm ⟨rfl, km⟩; have Hm : Hid (St w wm w.heap.size (w.heap.size + 1) (Oct.join (Oct.none) (Oct.span 65 90))) := (Hn.out.later ((Below.refl _ _).alloc (Nat.le_refl _) _)).later km; clear c0 c1 c2 c3 f0 f1 f2 f3 d0 d1 d2 d3 g0 g1 g2 g3; obtain ⟨⟨c0, c1, c2, c3⟩, ⟨f0, f1, f2, f3⟩, ⟨d0, d1, d2, d3⟩, ⟨g0, g1, g2, g3⟩⟩ := Hm.out.facts; clear km))
    all_goals
      exact ⟨rfl, ⟨_, _, _, _, rfl⟩, Hm.out.put (by omega) (by omega) (Oct.join (Oct.join (Oct.none) (Oct.span 65 90)) (Oct.span 97 122))⟩
  case rest2 =>
  intro x20 x21 x22 x23 u2 hcut a' ha'
  simp [Act.put] at ha'
  subst ha'
  clear HS
  have HS : Hid (St w u2 w.heap.size (w.heap.size + 1) (Oct.join (Oct.join (Oct.none) (Oct.span 65 90)) (Oct.span 97 122))) := hcut
  clear hcut
  obtain ⟨⟨c0, c1, c2, c3⟩, ⟨f0, f1, f2, f3⟩, ⟨d0, d1, d2, d3⟩, ⟨g0, g1, g2, g3⟩⟩ := HS.out.facts
  go_wp2
  exact HS.out.ret2 Tryz.f106 rfl rfl rfl rfl (Nat.le_refl _) _ alpha (fun b hb => by
    rw [Bool.eq_iff_iff]
    try simp [Oct.join, Oct.none, Oct.span, alpha, upper, lower]
    try omega)
end Go.Proofs.YtmjnobdlgbojoaaGreatDoor


namespace Go.Proofs.YtmjnobdlgbojoaaGreatDoor
open Go.RowKit
attribute [local go_sem ↓] Go.wp_at_zero Go.wp_at_succ
set_option maxRecDepth 4000 in
set_option maxHeartbeats 2000000 in
theorem class_alnum (w : World) : Calls Tryz.prog 106 #[.string ⟨#[97, 108, 110, 117, 109]⟩] w fun e w' => e = .returned (.tuple #[setV alnum, .int .i64 0]) ∧ Below w.heap.size w w' := by
  obtain ⟨u0, hu0⟩ : ∃ u0, u0 = (w.alloc (.cells #[.int .u64 0, .int .u64 0, .int .u64 0, .int .u64 0] 28)).alloc (.cells #[.int .u64 0, .int .u64 0, .int .u64 0, .int .u64 0] 28) := ⟨_, rfl⟩
  have HS : Hid (St w u0 w.heap.size (w.heap.size + 1) (Oct.none)) := by rw [hu0]; exact start2 w
  have HU : Hid (u0 = _) := hu0
  clear hu0
  go_enter Tryz.func106, Tryz.ntmps106
  go_upto_region 17 with fail
  rw [← HU.out]
  clear HU
  refine wp_cut4 36 37 38 39 (fun wx => Hid (St w wx w.heap.size (w.heap.size + 1) (Oct.join (Oct.none) (Oct.span 48 57)))) ?first1 ?rest1
  case first1 =>
    obtain ⟨⟨c0, c1, c2, c3⟩, ⟨f0, f1, f2, f3⟩, ⟨d0, d1, d2, d3⟩, ⟨g0, g1, g2, g3⟩⟩ := HS.out.facts
    have a0 : ∀ o : Obj, (u0.alloc o).cell? ⟨w.heap.size + 1, 0, none⟩ = some (.int .u64 (Oct.word (Oct.none) 0 : Nat)) := fun o => (HS.out.later ((Below.refl _ _).alloc (Nat.le_refl _) _)).facts.1.1
    have a1 : ∀ o : Obj, (u0.alloc o).cell? ⟨w.heap.size + 1, 1, none⟩ = some (.int .u64 (Oct.word (Oct.none) 1 : Nat)) := fun o => (HS.out.later ((Below.refl _ _).alloc (Nat.le_refl _) _)).facts.1.2.1
    have a2 : ∀ o : Obj, (u0.alloc o).cell? ⟨w.heap.size + 1, 2, none⟩ = some (.int .u64 (Oct.word (Oct.none) 2 : Nat)) := fun o => (HS.out.later ((Below.refl _ _).alloc (Nat.le_refl _) _)).facts.1.2.2.1
    have a3 : ∀ o : Obj, (u0.alloc o).cell? ⟨w.heap.size + 1, 3, none⟩ = some (.int .u64 (Oct.word (Oct.none) 3 : Nat)) := fun o => (HS.out.later ((Below.refl _ _).alloc (Nat.le_refl _) _)).facts.1.2.2.2
    go_region_with (first
      | (go_at_call 107; refine (span_gen 48 57 _ (by decide) (by decide)).mono ?_; rintro e wn ⟨rfl, kn⟩; have Hn : Hid (St w wn w.heap.size (w.heap.size + 1) (Oct.none)) := (by first | exact (HS.out.later (Below.refl _ _).drew).later kn | exact (HS.out.later (((Below.refl _ _).alloc (Nat.le_refl _) _).drew)).later kn); clear c0 c1 c2 c3 f0 f1 f2 f3 d0 d1 d2 d3 g0 g1 g2 g3; obtain ⟨⟨c0, c1, c2, c3⟩, ⟨f0, f1, f2, f3⟩, ⟨d0, d1, d2, d3⟩, ⟨g0, g1, g2, g3⟩⟩ := Hn.out.facts; clear kn)
      | (go_at_call 95; refine (join2_gen (sl2_new _ _ _ _ rfl)).mono ?_; rintro e wm ⟨rfl, km⟩; have Hm : Hid (St w wm w.heap.size (w.heap.size + 1) (Oct.none)) := (Hn.out.later ((Below.refl _ _).alloc (Nat.le_refl _) _)).later km; clear c0 c1 c2 c3 f0 f1 f2 f3 d0 d1 d2 d3 g0 g1 g2 g3; obtain ⟨⟨c0, c1, c2, c3⟩, ⟨f0, f1, f2, f3⟩, ⟨d0, d1, d2, d3⟩, ⟨g0, g1, g2, g3⟩⟩ := Hm.out.facts; clear km))
    all_goals
      exact ⟨rfl, ⟨_, _, _, _, rfl⟩, Hm.out.put (by omega) (by omega) (Oct.join (Oct.none) (Oct.span 48 57))⟩
  case rest1 =>
  intro x10 x11 x12 x13 u1 hcut a' ha'
  simp [Act.put] at ha'
  subst ha'
  clear HS
  have HS : Hid (St w u1 w.heap.size (w.heap.size + 1) (Oct.join (Oct.none) (Oct.span 48 57))) := hcut
  clear hcut
  go_upto_region 18 with fail
  refine wp_cut4 40 41 42 43 (fun wx => Hid (St w wx w.heap.size (w.heap.size + 1) (Oct.join (Oct.join (Oct.none) (Oct.span 48 57)) (Oct.span 65 90)))) ?first2 ?rest2
  case first2 =>
    obtain ⟨⟨c0, c1, c2, c3⟩, ⟨f0, f1, f2, f3⟩, ⟨d0, d1, d2, d3⟩, ⟨g0, g1, g2, g3⟩⟩ := HS.out.facts
    have a0 : ∀ o : Obj, (u1.alloc o).cell? ⟨w.heap.size + 1, 0, none⟩ = some (.int .u64 (Oct.word (Oct.join (Oct.none) (Oct.span 48 57)) 0 : Nat)) := fun o => (HS.out.later ((Below.refl _ _).alloc (Nat.le_refl _) _)).facts.1.1
    have a1 : ∀ o : Obj, (u1.alloc o).cell? ⟨w.heap.size + 1, 1, none⟩ = some (.int .u64 (Oct.word (Oct.join (Oct.none) (Oct.span 48 57)) 1 : Nat)) := fun o => (HS.out.later ((Below.refl _ _).alloc (Nat.le_refl _) _)).facts.1.2.1
    have a2 : ∀ o : Obj, (u1.alloc o).cell? ⟨w.heap.size + 1, 2, none⟩ = some (.int .u64 (Oct.word (Oct.join (Oct.none) (Oct.span 48 57)) 2 : Nat)) := fun o => (HS.out.later ((Below.refl _ _).alloc (Nat.le_refl _) _)).facts.1.2.2.1
    have a3 : ∀ o : Obj, (u1.alloc o).cell? ⟨w.heap.size + 1, 3, none⟩ = some (.int .u64 (Oct.word (Oct.join (Oct.none) (Oct.span 48 57)) 3 : Nat)) := fun o => (HS.out.later ((Below.refl _ _).alloc (Nat.le_refl _) _)).facts.1.2.2.2
    go_region_with (first
      | (go_at_call 107; refine (span_gen 65 90 _ (by decide) (by decide)).mono ?_; rintro e wn ⟨rfl, kn⟩; have Hn : Hid (St w wn w.heap.size (w.heap.size + 1) (Oct.join (Oct.none) (Oct.span 48 57))) := (by first | exact (HS.out.later (Below.refl _ _).drew).later kn | exact (HS.out.later (((Below.refl _ _).alloc (Nat.le_refl _) _).drew)).later kn); clear c0 c1 c2 c3 f0 f1 f2 f3 d0 d1 d2 d3 g0 g1 g2 g3; obtain ⟨⟨c0, c1, c2, c3⟩, ⟨f0, f1, f2, f3⟩, ⟨d0, d1, d2, d3⟩, ⟨g0, g1, g2, g3⟩⟩ := Hn.out.facts; clear kn)
      | (go_at_call 95; refine (join2_gen (sl2_new _ _ _ _ rfl)).mono ?_; rintro e wm ⟨rfl, km⟩; have Hm : Hid (St w wm w.heap.size (w.heap.size + 1) (Oct.join (Oct.none) (Oct.span 48 57))) := (Hn.out.later ((Below.refl _ _).alloc (Nat.le_refl _) _)).later km; clear c0 c1 c2 c3 f0 f1 f2 f3 d0 d1 d2 d3 g0 g1 g2 g3; obtain ⟨⟨c0, c1, c2, c3⟩, ⟨f0, f1, f2, f3⟩, ⟨d0, d1, d2, d3⟩, ⟨g0, g1, g2, g3⟩⟩ := Hm.out.facts; clear km))
    all_goals
      exact ⟨rfl, ⟨_, _, _, _, rfl⟩, Hm.out.put (by omega) (by omega) (Oct.join (Oct.join (Oct.none) (Oct.span 48 57)) (Oct.span 65 90))⟩
  case rest2 =>
  intro x20 x21 x22 x23 u2 hcut a' ha'
  simp [Act.put] at ha'
  subst ha'
  clear HS
  have HS : Hid (St w u2 w.heap.size (w.heap.size + 1) (Oct.join (Oct.join (Oct.none) (Oct.span 48 57)) (Oct.span 65 90))) := hcut
  clear hcut
  go_upto_region 19 with fail
  refine wp_cut4 44 45 46 47 (fun wx => Hid (St w wx w.heap.size (w.heap.size + 1) (Oct.join (Oct.join (Oct.join (Oct.none) (Oct.span 48 57)) (Oct.span 65 90)) (Oct.span 97 122)))) ?first3 ?rest3
  case first3 =>
    obtain ⟨⟨c0, c1, c2, c3⟩, ⟨f0, f1, f2, f3⟩, ⟨d0, d1, d2, d3⟩, ⟨g0, g1, g2, g3⟩⟩ := HS.out.facts
    have a0 : ∀ o : Obj, (u2.alloc o).cell? ⟨w.heap.size + 1, 0, none⟩ = some (.int .u64 (Oct.word (Oct.join (Oct.join (Oct.none) (Oct.span 48 57)) (Oct.span 65 90)) 0 : Nat)) := fun o => (HS.out.later ((Below.refl _ _).alloc (Nat.le_refl _) _)).facts.1.1
    have a1 : ∀ o : Obj, (u2.alloc o).cell? ⟨w.heap.size + 1, 1, none⟩ = some (.int .u64 (Oct.word (Oct.join (Oct.join (Oct.none) (Oct.span 48 57)) (Oct.span 65 90)) 1 : Nat)) := fun o => (HS.out.later ((Below.refl _ _).alloc (Nat.le_refl _) _)).facts.1.2.1
    have a2 : ∀ o : Obj, (u2.alloc o).cell? ⟨w.heap.size + 1, 2, none⟩ = some (.int .u64 (Oct.word (Oct.join (Oct.join (Oct.none) (Oct.span 48 57)) (Oct.span 65 90)) 2 : Nat)) := fun o => (HS.out.later ((Below.refl _ _).alloc (Nat.le_refl _) _)).facts.1.2.2.1
    have a3 : ∀ o : Obj, (u2.alloc o).cell? ⟨w.heap.size + 1, 3, none⟩ = some (.int .u64 (Oct.word (Oct.join (Oct.join (Oct.none) (Oct.span 48 57)) (Oct.span 65 90)) 3 : Nat)) := fun o => (HS.out.later ((Below.refl _ _).alloc (Nat.le_refl _) _)).facts.1.2.2.2
    go_region_with (first
      | (go_at_call 107; refine (span_gen 97 122 _ (by decide) (by decide)).mono ?_; rintro e wn ⟨rfl, kn⟩; have Hn : Hid (St w wn w.heap.size (w.heap.size + 1) (Oct.join (Oct.join (Oct.none) (Oct.span 48 57)) (Oct.span 65 90))) := (by first | exact (HS.out.later (Below.refl _ _).drew).later kn | exact (HS.out.later (((Below.refl _ _).alloc (Nat.le_refl _) _).drew)).later kn); clear c0 c1 c2 c3 f0 f1 f2 f3 d0 d1 d2 d3 g0 g1 g2 g3; obtain ⟨⟨c0, c1, c2, c3⟩, ⟨f0, f1, f2, f3⟩, ⟨d0, d1, d2, d3⟩, ⟨g0, g1, g2, g3⟩⟩ := Hn.out.facts; clear kn)
      | (go_at_call 95; refine (join2_gen (sl2_new _ _ _ _ rfl)).mono ?_; rintro e wm ⟨rfl, km⟩; have Hm : Hid (St w wm w.heap.size (w.heap.size + 1) (Oct.join (Oct.join (Oct.none) (Oct.span 48 57)) (Oct.span 65 90))) := (Hn.out.later ((Below.refl _ _).alloc (Nat.le_refl _) _)).later km; clear c0 c1 c2 c3 f0 f1 f2 f3 d0 d1 d2 d3 g0 g1 g2 g3; obtain ⟨⟨c0, c1, c2, c3⟩, ⟨f0, f1, f2, f3⟩, ⟨d0, d1, d2, d3⟩, ⟨g0, g1, g2, g3⟩⟩ := Hm.out.facts; clear km))
    all_goals
      exact ⟨rfl, ⟨_, _, _, _, rfl⟩, Hm.out.put (by omega) (by omega) (Oct.join (Oct.join (Oct.join (Oct.none) (Oct.span 48 57)) (Oct.span 65 90)) (Oct.span 97 122))⟩
  case rest3 =>
  intro x30 x31 x32 x33 u3 hcut a' ha'
  simp [Act.put] at ha'
  subst ha'
  clear HS
  have HS : Hid (St w u3 w.heap.size (w.heap.size + 1) (Oct.join (Oct.join (Oct.join (Oct.none) (Oct.span 48 57)) (Oct.span 65 90)) (Oct.span 97 122))) := hcut
  clear hcut
  obtain ⟨⟨c0, c1, c2, c3⟩, ⟨f0, f1, f2, f3⟩, ⟨d0, d1, d2, d3⟩, ⟨g0, g1, g2, g3⟩⟩ := HS.out.facts
  go_wp2
  exact HS.out.ret2 Tryz.f106 rfl rfl rfl rfl (Nat.le_refl _) _ alnum (fun b hb => by
    rw [Bool.eq_iff_iff]
    try simp [Oct.join, Oct.none, Oct.span, alnum, upper, lower, digit]
    try omega)
set_option maxRecDepth 4000 in
set_option maxHeartbeats 2000000 in
theorem class_digit (w : World) : Calls Tryz.prog 106 #[.string ⟨#[100, 105, 103, 105, 116]⟩] w fun e w' => e = .returned (.tuple #[setV digit, .int .i64 0]) ∧ Below w.heap.size w w' := by
  obtain ⟨u0, hu0⟩ : ∃ u0, u0 = (w.alloc (.cells #[.int .u64 0, .int .u64 0, .int .u64 0, .int .u64 0] 28)).alloc (.cells #[.int .u64 0, .int .u64 0, .int .u64 0, .int .u64 0] 28) := ⟨_, rfl⟩
  have HS : Hid (St w u0 w.heap.size (w.heap.size + 1) (Oct.none)) := by rw [hu0]; exact start2 w
  have HU : Hid (u0 = _) := hu0
  clear hu0
  go_enter Tryz.func106, Tryz.ntmps106
  go_upto_region 22 with fail
  rw [← HU.out]
  clear HU
  refine wp_cut4 53 54 55 56 (fun wx => Hid (St w wx w.heap.size (w.heap.size + 1) (Oct.join (Oct.none) (Oct.span 48 57)))) ?first1 ?rest1
  case first1 =>
    obtain ⟨⟨c0, c1, c2, c3⟩, ⟨f0, f1, f2, f3⟩, ⟨d0, d1, d2, d3⟩, ⟨g0, g1, g2, g3⟩⟩ := HS.out.facts
    have a0 : ∀ o : Obj, (u0.alloc o).cell? ⟨w.heap.size + 1, 0, none⟩ = some (.int .u64 (Oct.word (Oct.none) 0 : Nat)) := fun o => (HS.out.later ((Below.refl _ _).alloc (Nat.le_refl _) _)).facts.1.1
    have a1 : ∀ o : Obj, (u0.alloc o).cell? ⟨w.heap.size + 1, 1, none⟩ = some (.int .u64 (Oct.word (Oct.none) 1 : Nat)) := fun o => (HS.out.later ((Below.refl _ _).alloc (Nat.le_refl _) _)).facts.1.2.1
    have a2 : ∀ o : Obj, (u0.alloc o).cell? ⟨w.heap.size + 1, 2, none⟩ = some (.int .u64 (Oct.word (Oct.none) 2 : Nat)) := fun o => (HS.out.later ((Below.refl _ _).alloc (Nat.le_refl _) _)).facts.1.2.2.1
    have a3 : ∀ o : Obj, (u0.alloc o).cell? ⟨w.heap.size + 1, 3, none⟩ = some (.int .u64 (Oct.word (Oct.none) 3 : Nat)) := fun o => (HS.out.later ((Below.refl _ _).alloc (Nat.le_refl _) _)).facts.1.2.2.2
    go_region_with (first
      | (go_at_call 107; refine (span_gen 48 57 _ (by decide) (by decide)).mono ?_; rintro e wn ⟨rfl, kn⟩; have Hn : Hid (St w wn w.heap.size (w.heap.size + 1) (Oct.none)) := (by first | exact (HS.out.later (Below.refl _ _).drew).later kn | exact (HS.out.later (((Below.refl _ _).alloc (Nat.le_refl _) _).drew)).later kn); clear c0 c1 c2 c3 f0 f1 f2 f3 d0 d1 d2 d3 g0 g1 g2 g3; obtain ⟨⟨c0, c1, c2, c3⟩, ⟨f0, f1, f2, f3⟩, ⟨d0, d1, d2, d3⟩, ⟨g0, g1, g2, g3⟩⟩ := Hn.out.facts; clear kn)
      | (go_at_call 95; refine (join2_gen (sl2_new _ _ _ _ rfl)).mono ?_; rintro e wm ⟨rfl, km⟩; have Hm : Hid (St w wm w.heap.size (w.heap.size + 1) (Oct.none)) := (Hn.out.later ((Below.refl _ _).alloc (Nat.le_refl _) _)).later km; clear c0 c1 c2 c3 f0 f1 f2 f3 d0 d1 d2 d3 g0 g1 g2 g3; obtain ⟨⟨c0, c1, c2, c3⟩, ⟨f0, f1, f2, f3⟩, ⟨d0, d1, d2, d3⟩, ⟨g0, g1, g2, g3⟩⟩ := Hm.out.facts; clear km))
    all_goals
      exact ⟨rfl, ⟨_, _, _, _, rfl⟩, Hm.out.put (by omega) (by omega) (Oct.join (Oct.none) (Oct.span 48 57))⟩
  case rest1 =>
  intro x10 x11 x12 x13 u1 hcut a' ha'
  simp [Act.put] at ha'
  subst ha'
  clear HS
  have HS : Hid (St w u1 w.heap.size (w.heap.size + 1) (Oct.join (Oct.none) (Oct.span 48 57))) := hcut
  clear hcut
  obtain ⟨⟨c0, c1, c2, c3⟩, ⟨f0, f1, f2, f3⟩, ⟨d0, d1, d2, d3⟩, ⟨g0, g1, g2, g3⟩⟩ := HS.out.facts
  go_wp2
  exact HS.out.ret2 Tryz.f106 rfl rfl rfl rfl (Nat.le_refl _) _ digit (fun b hb => by
    rw [Bool.eq_iff_iff]
    try simp [Oct.join, Oct.none, Oct.span, digit]
    try omega)
set_option maxRecDepth 4000 in
set_option maxHeartbeats 2000000 in
theorem class_xdigit (w : World) : Calls Tryz.prog 106 #[.string ⟨#[120, 100, 105, 103, 105, 116]⟩] w fun e w' => e = .returned (.tuple #[setV xdigit, .int .i64 0]) ∧ Below w.heap.size w w' := by
  obtain ⟨u0, hu0⟩ : ∃ u0, u0 = (w.alloc (.cells #[.int .u64 0, .int .u64 0, .int .u64 0, .int .u64 0] 28)).alloc (.cells #[.int .u64 0, .int .u64 0, .int .u64 0, .int .u64 0] 28) := ⟨_, rfl⟩
  have HS : Hid (St w u0 w.heap.size (w.heap.size + 1) (Oct.none)) := by rw [hu0]; exact start2 w
  have HU : Hid (u0 = _) := hu0
  clear hu0
  go_enter Tryz.func106, Tryz.ntmps106
  go_upto_region 21 with fail
  rw [← HU.out]
  clear HU
  obtain ⟨⟨c0, c1, c2, c3⟩, ⟨f0, f1, f2, f3⟩, ⟨d0, d1, d2, d3⟩, ⟨g0, g1, g2, g3⟩⟩ := HS.out.facts
  go_wp2_with fail
  refine (span_gen 65 70 _ (by decide) (by decide)).mono ?_
  rintro e v10 ⟨rfl, kk⟩
  have H10 : Hid (St w v10 w.heap.size (w.heap.size + 1) (Oct.none)) := (HS.out).later kk
  clear kk c0 c1 c2 c3 f0 f1 f2 f3 d0 d1 d2 d3 g0 g1 g2 g3
  obtain ⟨⟨c0, c1, c2, c3⟩, ⟨f0, f1, f2, f3⟩, ⟨d0, d1, d2, d3⟩, ⟨g0, g1, g2, g3⟩⟩ := H10.out.facts
  go_wp2_with fail
  refine (span_gen 97 102 _ (by decide) (by decide)).mono ?_
  rintro e v11 ⟨rfl, kk⟩
  have H11 : Hid (St w v11 w.heap.size (w.heap.size + 1) (Oct.none)) := (H10.out).later kk
  clear kk c0 c1 c2 c3 f0 f1 f2 f3 d0 d1 d2 d3 g0 g1 g2 g3
  obtain ⟨⟨c0, c1, c2, c3⟩, ⟨f0, f1, f2, f3⟩, ⟨d0, d1, d2, d3⟩, ⟨g0, g1, g2, g3⟩⟩ := H11.out.facts
  go_wp2_with fail
  refine (join2_gen (sl2_new _ _ _ _ rfl)).mono ?_
  rintro e v12 ⟨rfl, kk⟩
  have H12 : Hid (St w v12 w.heap.size (w.heap.size + 1) (Oct.none)) := (H11.out.later ((Below.refl _ _).alloc (Nat.le_refl _) _)).later kk
  clear kk c0 c1 c2 c3 f0 f1 f2 f3 d0 d1 d2 d3 g0 g1 g2 g3
  obtain ⟨⟨c0, c1, c2, c3⟩, ⟨f0, f1, f2, f3⟩, ⟨d0, d1, d2, d3⟩, ⟨g0, g1, g2, g3⟩⟩ := H12.out.facts
  go_upto_region 22 with fail
  obtain ⟨u1, hu1⟩ : ∃ u1, u1 = put4 v12 (w.heap.size + 1) (Oct.join (Oct.span 65 70) (Oct.span 97 102)) := ⟨_, rfl⟩
  have HT : Hid (St w u1 w.heap.size (w.heap.size + 1) (Oct.join (Oct.span 65 70) (Oct.span 97 102))) := by rw [hu1]; exact H12.out.put (by omega) (by omega) _
  have HE : Hid (u1 = put4 v12 (w.heap.size + 1) (Oct.join (Oct.span 65 70) (Oct.span 97 102))) := hu1
  unfold put4 at HE
  clear hu1 c0 c1 c2 c3 f0 f1 f2 f3 d0 d1 d2 d3 g0 g1 g2 g3 HS
  rw [← HE.out]
  clear HE
  have HS : Hid (St w u1 w.heap.size (w.heap.size + 1) (Oct.join (Oct.span 65 70) (Oct.span 97 102))) := HT
  clear HT
  go_upto_region 22 with fail
  refine wp_cut4 53 54 55 56 (fun wx => Hid (St w wx w.heap.size (w.heap.size + 1) (Oct.join (Oct.join (Oct.span 65 70) (Oct.span 97 102)) (Oct.span 48 57)))) ?first2 ?rest2
  case first2 =>
    obtain ⟨⟨c0, c1, c2, c3⟩, ⟨f0, f1, f2, f3⟩, ⟨d0, d1, d2, d3⟩, ⟨g0, g1, g2, g3⟩⟩ := HS.out.facts
    have a0 : ∀ o : Obj, (u1.alloc o).cell? ⟨w.heap.size + 1, 0, none⟩ = some (.int .u64 (Oct.word (Oct.join (Oct.span 65 70) (Oct.span 97 102)) 0 : Nat)) := fun o => (HS.out.later ((Below.refl _ _).alloc (Nat.le_refl _) _)).facts.1.1
    have a1 : ∀ o : Obj, (u1.alloc o).cell? ⟨w.heap.size + 1, 1, none⟩ = some (.int .u64 (Oct.word (Oct.join (Oct.span 65 70) (Oct.span 97 102)) 1 : Nat)) := fun o => (HS.out.later ((Below.refl _ _).alloc (Nat.le_refl _) _)).facts.1.2.1
    have a2 : ∀ o : Obj, (u1.alloc o).cell? ⟨w.heap.size + 1, 2, none⟩ = some (.int .u64 (Oct.word (Oct.join (Oct.span 65 70) (Oct.span 97 102)) 2 : Nat)) := fun o => (HS.out.later ((Below.refl _ _).alloc (Nat.le_refl _) _)).facts.1.2.2.1
    have a3 : ∀ o : Obj, (u1.alloc o).cell? ⟨w.heap.size + 1, 3, none⟩ = some (.int .u64 (Oct.word (Oct.join (Oct.span 65 70) (Oct.span 97 102)) 3 : Nat)) := fun o => (HS.out.later ((Below.refl _ _).alloc (Nat.le_refl _) _)).facts.1.2.2.2
    go_region_with (first
      | (go_at_call 107; refine (span_gen 48 57 _ (by decide) (by decide)).mono ?_; rintro e wn ⟨rfl, kn⟩; have Hn : Hid (St w wn w.heap.size (w.heap.size + 1) (Oct.join (Oct.span 65 70) (Oct.span 97 102))) := (by first | exact (HS.out.later (Below.refl _ _).drew).later kn | exact (HS.out.later (((Below.refl _ _).alloc (Nat.le_refl _) _).drew)).later kn); clear c0 c1 c2 c3 f0 f1 f2 f3 d0 d1 d2 d3 g0 g1 g2 g3; obtain ⟨⟨c0, c1, c2, c3⟩, ⟨f0, f1, f2, f3⟩, ⟨d0, d1, d2, d3⟩, ⟨g0, g1, g2, g3⟩⟩ := Hn.out.facts; clear kn)
      | (go_at_call 95; refine (join2_gen (sl2_new _ _ _ _ rfl)).mono ?_; rintro e wm ⟨rfl, km⟩; have Hm : Hid (St w wm w.heap.size (w.heap.size + 1) (Oct.join (Oct.span 65 70) (Oct.span 97 102))) := (Hn.out.later ((Below.refl _ _).alloc (Nat.le_refl _) _)).later km; clear c0 c1 c2 c3 f0 f1 f2 f3 d0 d1 d2 d3 g0 g1 g2 g3; obtain ⟨⟨c0, c1, c2, c3⟩, ⟨f0, f1, f2, f3⟩, ⟨d0, d1, d2, d3⟩, ⟨g0, g1, g2, g3⟩⟩ := Hm.out.facts; clear km))
    all_goals
      exact ⟨rfl, ⟨_, _, _, _, rfl⟩, Hm.out.put (by omega) (by omega) (Oct.join (Oct.join (Oct.span 65 70) (Oct.span 97 102)) (Oct.span 48 57))⟩
  case rest2 =>
  intro x20 x21 x22 x23 u2 hcut a' ha'
  simp [Act.put] at ha'
  subst ha'
  clear HS
  have HS : Hid (St w u2 w.heap.size (w.heap.size + 1) (Oct.join (Oct.join (Oct.span 65 70) (Oct.span 97 102)) (Oct.span 48 57))) := hcut
  clear hcut
  obtain ⟨⟨c0, c1, c2, c3⟩, ⟨f0, f1, f2, f3⟩, ⟨d0, d1, d2, d3⟩, ⟨g0, g1, g2, g3⟩⟩ := HS.out.facts
  go_wp2
  exact HS.out.ret2 Tryz.f106 rfl rfl rfl rfl (Nat.le_refl _) _ xdigit (fun b hb => by
    rw [Bool.eq_iff_iff]
    try simp [Oct.join, Oct.span, xdigit, digit]
    try omega)
end Go.Proofs.YtmjnobdlgbojoaaGreatDoor
