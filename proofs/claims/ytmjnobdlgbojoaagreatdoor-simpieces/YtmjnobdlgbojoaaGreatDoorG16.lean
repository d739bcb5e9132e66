
import Derived.Test.YtmjnobdlgbojoaaGreatDoorG15
namespace Go.Proofs.YtmjnobdlgbojoaaGreatDoor
open Go.RowKit
attribute [local go_sem ↓] Go.wp_at_zero Go.wp_at_succ
def placesOf (t : Tn) : Nat := if (plc t).2 then (plc t).1 + 1 else 0
set_option maxHeartbeats 1000000 in
theorem Places_any {t : Tn} {x : Nd} (w : World) (h : InAt w t x) : Calls Tryz.prog 19 #[x.val] w fun e w' => e = .returned (.int .i64 (placesOf t : Nat)) ∧ Below w.heap.size w w' := by
  have HC : Hid (∀ u, Below w.heap.size w u → Calls Tryz.prog 41 #[x.val] u fun e w' => e = PlaceV t ∧ Below u.heap.size u w') := fun u hu => places_any h u hu
  have k1 : Below w.heap.size w (w.alloc (.cells #[.int .i64 x.k, .int .u64 (Oct.word x.s 0 : Nat), .int .u64 (Oct.word x.s 1 : Nat), .int .u64 (Oct.word x.s 2 : Nat), .int .u64 (Oct.word x.s 3 : Nat), .slice x.a x.n x.c, .int .i64 x.mn, .int .i64 x.mx] 30)) := (Below.refl _ _).alloc (Nat.le_refl _) _
  have HN : Hid (NB (w.alloc (.cells #[.int .i64 x.k, .int .u64 (Oct.word x.s 0 : Nat), .int .u64 (Oct.word x.s 1 : Nat), .int .u64 (Oct.word x.s 2 : Nat), .int .u64 (Oct.word x.s 3 : Nat), .slice x.a x.n x.c, .int .i64 x.mn, .int .i64 x.mx] 30)) w.heap.size x) := nb_new w x
  obtain ⟨w1, hw1⟩ : ∃ w1, w1 = w.alloc (.cells #[.int .i64 x.k, .int .u64 (Oct.word x.s 0 : Nat), .int .u64 (Oct.word x.s 1 : Nat), .int .u64 (Oct.word x.s 2 : Nat), .int .u64 (Oct.word x.s 3 : Nat), .slice x.a x.n x.c, .int .i64 x.mn, .int .i64 x.mx] 30) := ⟨_, rfl⟩
  obtain ⟨A, hA⟩ : ∃ A, A = w.heap.size := ⟨_, rfl⟩
  rw [← hw1] at HN k1
  rw [← hA] at HN
  have HW1 : Hid (w.alloc (.cells #[.int .i64 x.k, .int .u64 (Oct.word x.s 0 : Nat), .int .u64 (Oct.word x.s 1 : Nat), .int .u64 (Oct.word x.s 2 : Nat), .int .u64 (Oct.word x.s 3 : Nat), .slice x.a x.n x.c, .int .i64 x.mn, .int .i64 x.mx] 30) = w1) := hw1.symm
  have HAA : Hid (w.heap.size = A) := hA.symm
  have HB1 : Hid (Below w.heap.size w w1) := k1
  clear hw1 hA k1 h
  have HLE := plc_le t
  obtain ⟨b0, b1, b2, b3, b4, b5, b6, b7⟩ := HN.out.cells
  unfold Nd.val at HC ⊢
  go_enter Tryz.func19, Tryz.ntmps19
  go_upto_region 1 with fail
  rw [HW1.out, HAA.out]
  clear HW1 HAA
  go_wp2_with fail
  refine (HC.out w1 HB1.out).mono ?_
  rintro e w2 ⟨rfl, k2⟩
  have HB2 : Hid (Below w.heap.size w w2) := below_step HB1.out k2
  clear k2 HC
  unfold PlaceV
  have HPO : Hid (placesOf t = if (plc t).2 then (plc t).1 + 1 else 0) := by show _ = _; rfl
  obtain ⟨q, hq⟩ : ∃ q, q = (plc t).1 := ⟨_, rfl⟩
  rw [← hq] at HLE HPO ⊢
  clear hq
  cases hb : (plc t).2 with
  | false =>
    have HX : Hid (placesOf t = 0) := by show _ = _; rw [HPO.out, hb]; rfl
    clear hb
    go_wp2
    go_ret
    exact ⟨ret_int (by rw [HX.out]; rfl), HB2.out⟩
  | true =>
    have HX : Hid (placesOf t = q + 1) := by show _ = _; rw [HPO.out, hb]; rfl
    clear hb
    go_wp2
    go_ret
    exact ⟨ret_int (by rw [HX.out]; omega), HB2.out⟩
theorem placesOf_le (t : Tn) : placesOf t ≤ 2049 := by have := plc_le t; unfold placesOf; split <;> omega
def wholeOf (s : ByteArray) : Rs Tr := match patOf s with
  | .ok t j => if j = s.size then (if 2048 < placesOf (up t) then .bad 0 48 else .ok t j) else .bad j 42
  | .bad a e => .bad a e
  | .out => .out
set_option maxRecDepth 4000 in
set_option maxHeartbeats 4000000 in
theorem whole_walk (B : Nat) (s : ByteArray) (w : World) (pre : Pre w B s 0 0) (hnl : ∀ i, byt s i ≠ 10) : Calls Tryz.prog 40 #[.pointer (some ⟨B, 0, none⟩)] w (Reads w B s 0 (wholeOf s) (TreeV w.heap.size)) := by
  have hs := pre.hs
  have HNL : Hid (∀ i, byt s i ≠ 10) := hnl
  have HBW : Hid (B < w.heap.size) := pre.rd.lt
  have hal : Below w.heap.size w (w.alloc (.cells #[.int .i64 0, .int .u64 0, .int .u64 0, .int .u64 0, .int .u64 0, .slice none 0 0, .int .i64 0, .int .i64 0] 30)) := (Below.refl _ _).alloc (Nat.le_refl _) _
  have HN1 : Hid (NB (w.alloc (.cells #[.int .i64 0, .int .u64 0, .int .u64 0, .int .u64 0, .int .u64 0, .slice none 0 0, .int .i64 0, .int .i64 0] 30)) w.heap.size zeroNd) := nb_zero w
  have HP1 : Hid (Pre (w.alloc (.cells #[.int .i64 0, .int .u64 0, .int .u64 0, .int .u64 0, .int .u64 0, .slice none 0 0, .int .i64 0, .int .i64 0] 30)) B s 0 0) := ⟨pre.rd.later hal, pre.hi, pre.hs, pre.gm.later hal, pre.hB0, pre.hd⟩
  have HG1 : Hid (w.grownBy (w.alloc (.cells #[.int .i64 0, .int .u64 0, .int .u64 0, .int .u64 0, .int .u64 0, .slice none 0 0, .int .i64 0, .int .i64 0] 30)) (some B)) := grown_below (grown_refl _ _) hal
  obtain ⟨w1, hw1⟩ : ∃ w1, w1 = w.alloc (.cells #[.int .i64 0, .int .u64 0, .int .u64 0, .int .u64 0, .int .u64 0, .slice none 0 0, .int .i64 0, .int .i64 0] 30) := ⟨_, rfl⟩
  obtain ⟨R, hR⟩ : ∃ R, R = w.heap.size := ⟨_, rfl⟩
  rw [← hw1] at HP1 HG1 HN1
  rw [← hR] at HN1
  have HW1 : Hid (w1 = _) := hw1
  have HRR : Hid (R = _) := hR
  have HRB : Hid (R ≠ B) := by have := HBW.out; show _ ≠ _; omega
  clear hw1 hR hal pre hnl
  go_enter Tryz.func40, Tryz.ntmps40
  go_upto_region 1 with fail
  rw [← HW1.out, ← HRR.out]
  clear HW1
  go_wp2_with fail
  refine (pattern_any B s w1 HP1.out).mono ?_
  intro e w3 h3
  cases hc : patOf s with
  | out => rw [hc] at h3; exact h3.elim
  | bad a c =>
    have HX : Hid (wholeOf s = .bad a c) := by show _ = _; unfold wholeOf; rw [hc]
    rw [hc] at h3
    obtain ⟨rfl, hg3⟩ := h3
    have HG3 : Hid (w.grownBy w3 (some B)) := grown_trans HG1.out hg3
    clear hc hg3
    go_wp2
    refine ⟨rfl, ?_⟩
    unfold Reads
    rw [HX.out]
    exact ⟨rfl, HG3.out⟩
  | ok t j =>
    have HXX : Hid (wholeOf s = if j = s.size then (if 2048 < placesOf (up t) then .bad 0 48 else .ok t j) else .bad j 42) := by show _ = _; unfold wholeOf; rw [hc]
    have HGD : Hid (Good (j + 1) t) := (read_good s HNL.out _).1 _ _ _ _ hc
    rw [hc] at h3
    obtain ⟨hj, v, rfl, ⟨x, rfl, hx⟩, hr3, hg3⟩ := h3
    have hn3 : NB w3 R zeroNd := HN1.out.grown hg3 (by have := HRB.out; simp; exact this)
    have hgw3 : w.grownBy w3 (some B) := grown_trans HG1.out hg3
    have hz2 : w.heap.size + 1 ≤ w1.heap.size := by have := HN1.out.lt; have := HRR.out; omega
    have hal4 : Below w3.heap.size w3 (w3.alloc (.cells #[.int .i64 x.k, .int .u64 (Oct.word x.s 0 : Nat), .int .u64 (Oct.word x.s 1 : Nat), .int .u64 (Oct.word x.s 2 : Nat), .int .u64 (Oct.word x.s 3 : Nat), .slice x.a x.n x.c, .int .i64 x.mn, .int .i64 x.mx] 30)) := (Below.refl _ _).alloc (Nat.le_refl _) _
    have HX4 : Hid (NodeAt (fun b => w.heap.size + 1 ≤ b ∧ b < w3.heap.size) (w3.alloc (.cells #[.int .i64 x.k, .int .u64 (Oct.word x.s 0 : Nat), .int .u64 (Oct.word x.s 1 : Nat), .int .u64 (Oct.word x.s 2 : Nat), .int .u64 (Oct.word x.s 3 : Nat), .slice x.a x.n x.c, .int .i64 x.mn, .int .i64 x.mx] 30)) t x) := hx.keep (fun b hb hlt => ⟨by omega, hlt⟩) (fun b _ hlt => hal4.block b hlt)
    have HN4 : Hid (NB (w3.alloc (.cells #[.int .i64 x.k, .int .u64 (Oct.word x.s 0 : Nat), .int .u64 (Oct.word x.s 1 : Nat), .int .u64 (Oct.word x.s 2 : Nat), .int .u64 (Oct.word x.s 3 : Nat), .slice x.a x.n x.c, .int .i64 x.mn, .int .i64 x.mx] 30)) R zeroNd) := hn3.later hal4
    have HR4 : Hid (RB (w3.alloc (.cells #[.int .i64 x.k, .int .u64 (Oct.word x.s 0 : Nat), .int .u64 (Oct.word x.s 1 : Nat), .int .u64 (Oct.word x.s 2 : Nat), .int .u64 (Oct.word x.s 3 : Nat), .slice x.a x.n x.c, .int .i64 x.mn, .int .i64 x.mx] 30)) B s j 0) := hr3.later hal4
    have HG4 : Hid (w.grownBy (w3.alloc (.cells #[.int .i64 x.k, .int .u64 (Oct.word x.s 0 : Nat), .int .u64 (Oct.word x.s 1 : Nat), .int .u64 (Oct.word x.s 2 : Nat), .int .u64 (Oct.word x.s 3 : Nat), .slice x.a x.n x.c, .int .i64 x.mn, .int .i64 x.mx] 30)) (some B)) := grown_below hgw3 hal4
    have HY4 : Hid (NB (w3.alloc (.cells #[.int .i64 x.k, .int .u64 (Oct.word x.s 0 : Nat), .int .u64 (Oct.word x.s 1 : Nat), .int .u64 (Oct.word x.s 2 : Nat), .int .u64 (Oct.word x.s 3 : Nat), .slice x.a x.n x.c, .int .i64 x.mn, .int .i64 x.mx] 30)) w3.heap.size x) := nb_new w3 x
    obtain ⟨Y, hY⟩ : ∃ Y, Y = w3.heap.size := ⟨_, rfl⟩
    obtain ⟨w4, hw4⟩ : ∃ w4, w4 = w3.alloc (.cells #[.int .i64 x.k, .int .u64 (Oct.word x.s 0 : Nat), .int .u64 (Oct.word x.s 1 : Nat), .int .u64 (Oct.word x.s 2 : Nat), .int .u64 (Oct.word x.s 3 : Nat), .slice x.a x.n x.c, .int .i64 x.mn, .int .i64 x.mx] 30) := ⟨_, rfl⟩
    have HYB : Hid (Y ≠ B ∧ Y ≠ R) := ⟨by have := hr3.lt; omega, by have := hn3.lt; omega⟩
    rw [← hw4, ← hY] at HX4 HY4
    rw [← hw4] at HN4 HR4 HG4
    have HW4 : Hid (w4 = _) := hw4
    have HYY : Hid (Y = _) := hY
    clear hc hr3 hg3 hx hn3 hgw3 hz2 hal4 hw4 hY HN1 HG1 HP1
    unfold Nd.val
    go_upto_region 2 with fail
    rw [← HW4.out, ← HYY.out]
    clear HW4 HYY
    go_wp2_with fail
    refine (ended_any B j 0 s w4 HR4.out).mono ?_
    rintro e w5 ⟨rfl, k5⟩
    have HXX5 : Hid (NodeAt (fun b => w.heap.size + 1 ≤ b ∧ b < Y) w5 t x) := HX4.out.later k5
    have HN5 : Hid (NB w5 R zeroNd) := HN4.out.later k5
    have HR5 : Hid (RB w5 B s j 0) := HR4.out.later k5
    have HG5 : Hid (w.grownBy w5 (some B)) := grown_below HG4.out k5
    have HY5 : Hid (NB w5 Y x) := HY4.out.later k5
    clear k5 HX4 HN4 HR4 HG4 HY4
    by_cases hend : j = s.size
    · have HX6 : Hid (wholeOf s = if 2048 < placesOf (up t) then .bad 0 48 else .ok t j) := by show _ = _; rw [HXX.out, if_pos hend]
      rw [decide_eq_true hend]
      clear hend HXX
      obtain ⟨b0, b1, b2, b3, b4, b5, b6, b7⟩ := HY5.out.cells
      have HPL : Hid (∀ u, Below w5.heap.size w5 u → Calls Tryz.prog 19 #[x.val] u fun e w' => e = .returned (.int .i64 (placesOf (up t) : Nat)) ∧ Below u.heap.size u w') := fun u hu => Places_any u ((HXX5.out.later hu).inAt (N := j + 1) (by omega) (by omega) HGD.out)
      unfold Nd.val at HPL
      have hpl := placesOf_le (up t)
      obtain ⟨q, hq⟩ : ∃ q, q = placesOf (up t) := ⟨_, rfl⟩
      rw [← hq] at HPL HX6 hpl
      clear hq
      go_wp2_with fail
      refine (HPL.out _ (Below.refl _ _)).mono ?_
      rintro e w6 ⟨rfl, k6⟩
      have HX7 : Hid (NodeAt (fun b => w.heap.size + 1 ≤ b ∧ b < Y) w6 t x) := HXX5.out.later k6
      have HN7 : Hid (NB w6 R zeroNd) := HN5.out.later k6
      have HR7 : Hid (RB w6 B s j 0) := HR5.out.later k6
      have HG7 : Hid (w.grownBy w6 (some B)) := grown_below HG5.out k6
      have HY7 : Hid (NB w6 Y x) := HY5.out.later k6
      clear k6 b0 b1 b2 b3 b4 b5 b6 b7 HXX5 HN5 HR5 HG5 HY5 HPL
      by_cases hq : 2048 < q
      · have HX : Hid (wholeOf s = .bad 0 48) := by show _ = _; rw [HX6.out, if_pos hq]
        go_wp2_with fail
        refine (giveUp_any 0 48 _).mono ?_
        rintro e u1 ⟨rfl, k1⟩
        go_wp2
        refine ⟨rfl, ?_⟩
        unfold Reads
        rw [HX.out]
        exact ⟨rfl, grown_below HG7.out k1⟩
      · have HX : Hid (wholeOf s = .ok t j) := by show _ = _; rw [HX6.out, if_neg hq]
        obtain ⟨b0, b1, b2, b3, b4, b5, b6, b7⟩ := HY7.out.cells
        obtain ⟨z0, z1, z2, z3, z4, z5, z6, z7⟩ := HN7.out.cells
        have y0 := HN7.out.frozen 0
        have y1 := HN7.out.frozen 1
        have y2 := HN7.out.frozen 2
        have y3 := HN7.out.frozen 3
        have y4 := HN7.out.frozen 4
        have y5 := HN7.out.frozen 5
        have y6 := HN7.out.frozen 6
        have y7 := HN7.out.frozen 7
        go_wp2
        refine post_node Tryz.f40 2 rfl rfl rfl (HN7.out.put8 x) ?_
        unfold Reads
        rw [HX.out]
        have hRR := HRR.out
        have hBW := HBW.out
        exact ⟨hj, _, rfl, ⟨_, rfl, HX7.out.keep (fun b hb _ => by omega) (fun b hb _ => heap_put8 _ R _ b (by omega))⟩, put8_rb HR7.out HRB.out _, put8_grown HG7.out (by omega) _⟩
    · have HX : Hid (wholeOf s = .bad j 42) := by show _ = _; rw [HXX.out, if_neg hend]
      rw [decide_eq_false hend]
      clear hend HXX
      obtain ⟨c0, c1, c2⟩ := HR5.out.cells
      go_wp2_with fail
      refine (giveUp_any j 42 _).mono ?_
      rintro e u1 ⟨rfl, k1⟩
      go_wp2
      refine ⟨rfl, ?_⟩
      unfold Reads
      rw [HX.out]
      exact ⟨rfl, grown_below HG5.out k1⟩
end Go.Proofs.YtmjnobdlgbojoaaGreatDoor
