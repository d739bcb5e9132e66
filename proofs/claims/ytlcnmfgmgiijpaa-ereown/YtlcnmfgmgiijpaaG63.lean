/- ere's group, its lists in blocks of their own. -/
import Derived.Test.YtlcnmfgmgiijpaaG62
namespace Go.Proofs.Ytlcnmfgmgiijpaa.Ow
open Go.RowKit
attribute [local go_sem ↓] Go.wp_at_zero Go.wp_at_succ

set_option maxRecDepth 4000 in
set_option maxHeartbeats 4000000 in
theorem group_walk (n : Nat) (H : ∀ m, m < n → PatOK m) : GroupOK n := by
  intro B i d s w pre hlt hout
  obtain ⟨k, rfl⟩ : ∃ k, n = k + 1 := by
    cases n with
    | zero => exact absurd (by simp [group]) hout
    | succ k => exact ⟨k, rfl⟩
  have HO : Hid (group s (k + 1) d i ≠ .out) := hout
  have HP : Hid (∀ m, m < k + 1 → PatOK m) := H
  have hi := pre.hi
  have hs := pre.hs
  have hd := pre.hd
  have hal : Below w.heap.size w (w.alloc (.cells #[.int .i64 0, .int .u64 0, .int .u64 0, .int .u64 0, .int .u64 0, .slice none 0 0, .int .i64 0, .int .i64 0] 28)) := (Below.refl _ _).alloc (Nat.le_refl _) _
  have HS : Hid (Pt w s B w.heap.size d (w.alloc (.cells #[.int .i64 0, .int .u64 0, .int .u64 0, .int .u64 0, .int .u64 0, .slice none 0 0, .int .i64 0, .int .i64 0] 28)) i (.slice none 0 0) []) :=
    ⟨nb_zero w, pre.rd.later hal, pre.gm.later hal, grown_below (grown_refl _ _) hal, nodes_nil _ _, rfl, pre.rd.lt, pre.hB0⟩
  obtain ⟨w1, hw1⟩ : ∃ w1, w1 = w.alloc (.cells #[.int .i64 0, .int .u64 0, .int .u64 0, .int .u64 0, .int .u64 0, .slice none 0 0, .int .i64 0, .int .i64 0] 28) := ⟨_, rfl⟩
  obtain ⟨R, hR⟩ : ∃ R, R = w.heap.size := ⟨_, rfl⟩
  rw [← hw1, ← hR] at HS
  have HW1 : Hid (w1 = _) := hw1
  have HRR : Hid (R = _) := hR
  clear hw1 hR hal pre hout H
  obtain ⟨c0, c1, c2⟩ := HS.out.rd.cells
  have f1 := HS.out.rd.frozen 1
  have f2 := HS.out.rd.frozen 2
  have hi3 : i ≤ 1024 := by omega
  go_enter Try.func62, Try.ntmps62
  go_upto_region 1 with fail
  rw [← HW1.out, ← HRR.out]
  clear HW1
  by_cases hd64 : d = 64
  · have HX : Hid (group s (k + 1) d i = .bad i 47) := by show _ = _; rw [group, if_pos hd64]
    have g1 : (d : Int) = 64 := by omega
    clear hd64
    go_wp2_with fail
    refine (giveUp_any i 47 _).mono ?_
    rintro e u1 ⟨rfl, k1⟩
    go_wp2
    refine ⟨rfl, ?_⟩
    unfold Reads
    rw [HX.out]
    exact ⟨rfl, grown_below HS.out.grown k1⟩
  · have g1 : ¬ (d : Int) = 64 := by omega
    have HGO : Hid (group s (k + 1) d i = match pat s k (d + 1) (i + 1) with
      | .ok t j => if j = s.size then .bad i 42 else .ok t (j + 1)
      | .bad a e => .bad a e
      | .out => .out) := by show _ = _; rw [group, if_neg hd64]; rfl
    have hd3 : d + 1 ≤ 64 := by omega
    clear hd64
    have HR2 : Hid (RB ((w1.setCell ⟨B, 1, none⟩ (.int .i64 ((i : Int) + 1))).setCell ⟨B, 2, none⟩ (.int .i64 ((d : Int) + 1))) B s (i + 1) (d + 1)) := (HS.out.rd.at (i + 1)).deep (d + 1)
    have HG2 : Hid (w1.grownBy ((w1.setCell ⟨B, 1, none⟩ (.int .i64 ((i : Int) + 1))).setCell ⟨B, 2, none⟩ (.int .i64 ((d : Int) + 1))) (some B)) := grown_trans (grown_set _ _ _ _) (grown_set _ _ _ _)
    go_upto_region 6 with fail
    obtain ⟨w2, hw2⟩ : ∃ w2, w2 = (w1.setCell ⟨B, 1, none⟩ (.int .i64 ((i : Int) + 1))).setCell ⟨B, 2, none⟩ (.int .i64 ((d : Int) + 1)) := ⟨_, rfl⟩
    rw [← hw2] at HR2 HG2 ⊢
    clear hw2 c0 c1 c2 f1 f2
    have HRB : Hid (R ≠ B) := by have := HS.out.hR; have := HS.out.hB; show _ ≠ _; omega
    have HN2 : Hid (NB w2 R zeroNd) := HS.out.res.grown HG2.out (by have := HRB.out; simp; exact this)
    have HM2 : Hid (GM w2) := HS.out.gm.grown HG2.out HS.out.hB0
    have HGW2 : Hid (w.grownBy w2 (some B)) := grown_trans HS.out.grown HG2.out
    go_wp2_with fail
    have hpo : pat s k (d + 1) (i + 1) ≠ .out := fun e => HO.out (by rw [HGO.out, e])
    refine (HP.out k (by omega) B (i + 1) (d + 1) s w2 ⟨HR2.out, by omega, hs, HM2.out, HS.out.hB0, hd3⟩ hpo).mono ?_
    intro e w3 h3
    clear hpo
    cases hc : pat s k (d + 1) (i + 1) with
    | out => rw [hc] at h3; exact h3.elim
    | bad a c =>
      rw [hc] at h3 HGO
      obtain ⟨rfl, hg3⟩ := h3
      have HG3 : Hid (w.grownBy w3 (some B)) := grown_trans HGW2.out hg3
      clear hc hg3
      go_wp2
      refine ⟨rfl, ?_⟩
      unfold Reads
      rw [HGO.out]
      exact ⟨rfl, HG3.out⟩
    | ok t j =>
      rw [hc] at h3 HGO
      obtain ⟨hj, v, rfl, ⟨x, rfl, hx⟩, hr3, hg3⟩ := h3
      have hn3 : NB w3 R zeroNd := HN2.out.grown hg3 (by have := HRB.out; simp; exact this)
      have hgw3 : w.grownBy w3 (some B) := grown_trans HGW2.out hg3
      have hz2 : w.heap.size + 1 ≤ w2.heap.size := by have := HN2.out.lt; have := HS.out.hR; omega
      have hal4 : Below w3.heap.size w3 (w3.alloc (.cells #[.int .i64 x.k, .int .u64 (Oct.word x.s 0 : Nat), .int .u64 (Oct.word x.s 1 : Nat), .int .u64 (Oct.word x.s 2 : Nat), .int .u64 (Oct.word x.s 3 : Nat), .slice x.a x.n x.c, .int .i64 x.mn, .int .i64 x.mx] 28)) := (Below.refl _ _).alloc (Nat.le_refl _) _
      have HX4 : Hid (NodeAt (fun b => w.heap.size + 1 ≤ b ∧ b < w3.heap.size) (w3.alloc (.cells #[.int .i64 x.k, .int .u64 (Oct.word x.s 0 : Nat), .int .u64 (Oct.word x.s 1 : Nat), .int .u64 (Oct.word x.s 2 : Nat), .int .u64 (Oct.word x.s 3 : Nat), .slice x.a x.n x.c, .int .i64 x.mn, .int .i64 x.mx] 28)) t x) := hx.keep (fun b hb hlt => ⟨by omega, hlt⟩) (fun b _ hlt => hal4.block b hlt)
      have HN4 : Hid (NB (w3.alloc (.cells #[.int .i64 x.k, .int .u64 (Oct.word x.s 0 : Nat), .int .u64 (Oct.word x.s 1 : Nat), .int .u64 (Oct.word x.s 2 : Nat), .int .u64 (Oct.word x.s 3 : Nat), .slice x.a x.n x.c, .int .i64 x.mn, .int .i64 x.mx] 28)) R zeroNd) := hn3.later hal4
      have HR4 : Hid (RB (w3.alloc (.cells #[.int .i64 x.k, .int .u64 (Oct.word x.s 0 : Nat), .int .u64 (Oct.word x.s 1 : Nat), .int .u64 (Oct.word x.s 2 : Nat), .int .u64 (Oct.word x.s 3 : Nat), .slice x.a x.n x.c, .int .i64 x.mn, .int .i64 x.mx] 28)) B s j (d + 1)) := hr3.later hal4
      have HG4 : Hid (w.grownBy (w3.alloc (.cells #[.int .i64 x.k, .int .u64 (Oct.word x.s 0 : Nat), .int .u64 (Oct.word x.s 1 : Nat), .int .u64 (Oct.word x.s 2 : Nat), .int .u64 (Oct.word x.s 3 : Nat), .slice x.a x.n x.c, .int .i64 x.mn, .int .i64 x.mx] 28)) (some B)) := grown_below hgw3 hal4
      have HY4 : Hid (NB (w3.alloc (.cells #[.int .i64 x.k, .int .u64 (Oct.word x.s 0 : Nat), .int .u64 (Oct.word x.s 1 : Nat), .int .u64 (Oct.word x.s 2 : Nat), .int .u64 (Oct.word x.s 3 : Nat), .slice x.a x.n x.c, .int .i64 x.mn, .int .i64 x.mx] 28)) w3.heap.size x) := nb_new w3 x
      obtain ⟨Y, hY⟩ : ∃ Y, Y = w3.heap.size := ⟨_, rfl⟩
      obtain ⟨w4, hw4⟩ : ∃ w4, w4 = w3.alloc (.cells #[.int .i64 x.k, .int .u64 (Oct.word x.s 0 : Nat), .int .u64 (Oct.word x.s 1 : Nat), .int .u64 (Oct.word x.s 2 : Nat), .int .u64 (Oct.word x.s 3 : Nat), .slice x.a x.n x.c, .int .i64 x.mn, .int .i64 x.mx] 28) := ⟨_, rfl⟩
      have HYB : Hid (Y ≠ B ∧ Y ≠ R) := ⟨by have := hr3.lt; omega, by have := hn3.lt; omega⟩
      rw [← hw4, ← hY] at HX4 HY4
      rw [← hw4] at HN4 HR4 HG4
      have HW4 : Hid (w4 = _) := hw4
      have HYY : Hid (Y = _) := hY
      clear hc hr3 hg3 hx hn3 hgw3 hz2 hal4 hw4 hY HN2 HM2 HGW2 HR2 HG2
      unfold Nd.val
      go_upto_region 7 with fail
      rw [← HW4.out, ← HYY.out]
      clear HW4 HYY
      go_wp2_with fail
      refine (ended_any B j (d + 1) s w4 HR4.out).mono ?_
      rintro e w5 ⟨rfl, k5⟩
      have HX5 := HX4.out.later k5
      have HN5 : Hid (NB w5 R zeroNd) := HN4.out.later k5
      have HR5 : Hid (RB w5 B s j (d + 1)) := HR4.out.later k5
      have HG5 : Hid (w.grownBy w5 (some B)) := grown_below HG4.out k5
      have HY5 : Hid (NB w5 Y x) := HY4.out.later k5
      have HXX : Hid (NodeAt (fun b => w.heap.size + 1 ≤ b ∧ b < Y) w5 t x) := HX5
      clear k5 HX5 HX4 HN4 HR4 HG4 HY4
      by_cases hend : j = s.size
      · have HX : Hid (group s (k + 1) d i = .bad i 42) := by show _ = _; rw [HGO.out]; simp [hend]
        rw [decide_eq_true hend]
        clear hend
        go_wp2_with fail
        refine (giveUp_any i 42 _).mono ?_
        rintro e u1 ⟨rfl, k1⟩
        go_wp2
        refine ⟨rfl, ?_⟩
        unfold Reads
        rw [HX.out]
        exact ⟨rfl, grown_below HG5.out k1⟩
      · have HX : Hid (group s (k + 1) d i = .ok t (j + 1)) := by show _ = _; rw [HGO.out]; simp [hend]
        rw [decide_eq_false hend]
        have hj3 : j ≤ 1024 := by omega
        have hjl : j + 1 ≤ s.size := by omega
        clear hend
        obtain ⟨c0, c1, c2⟩ := HR5.out.cells
        have f1 := HR5.out.frozen 1
        have f2 := HR5.out.frozen 2
        have e1 : ((d + 1 : Nat) : Int) = (d : Int) + 1 := by omega
        rw [e1] at c2
        have HR6 : Hid (RB ((w5.setCell ⟨B, 1, none⟩ (.int .i64 ((j : Int) + 1))).setCell ⟨B, 2, none⟩ (.int .i64 (d : Int))) B s (j + 1) d) := (HR5.out.at (j + 1)).deep d
        have HG6 : Hid (w5.grownBy ((w5.setCell ⟨B, 1, none⟩ (.int .i64 ((j : Int) + 1))).setCell ⟨B, 2, none⟩ (.int .i64 (d : Int))) (some B)) := grown_trans (grown_set _ _ _ _) (grown_set _ _ _ _)
        clear e1
        go_upto_region 11 with fail
        have es : ((d : Int) + 1 - 1) = (d : Int) := by omega
        try rw [es]
        obtain ⟨w6, hw6⟩ : ∃ w6, w6 = (w5.setCell ⟨B, 1, none⟩ (.int .i64 ((j : Int) + 1))).setCell ⟨B, 2, none⟩ (.int .i64 (d : Int)) := ⟨_, rfl⟩
        rw [← hw6] at HR6 HG6 ⊢
        clear hw6 c0 c1 c2 f1 f2 es
        have hYB := HYB.out
        have hRB := HRB.out
        have hBw := HS.out.hB
        have hRw := HS.out.hR
        have HN6 : Hid (NB w6 R zeroNd) := HN5.out.grown HG6.out (by simp; exact hRB)
        have HY6 : Hid (NB w6 Y x) := HY5.out.grown HG6.out (by simp; exact hYB.1)
        have HX6 : Hid (NodeAt (fun b => w.heap.size + 1 ≤ b) w6 t x) := HXX.out.keep (fun b hb _ => hb.1) (fun b hb hlt => HG6.out.block b hlt (by simp; omega))
        have HGW6 : Hid (w.grownBy w6 (some B)) := grown_trans HG5.out HG6.out
        clear hYB hRB hBw hRw HN5 HY5 HXX HG5 HG6
        obtain ⟨b0, b1, b2, b3, b4, b5, b6, b7⟩ := HY6.out.cells
        obtain ⟨z0, z1, z2, z3, z4, z5, z6, z7⟩ := HN6.out.cells
        have y0 := HN6.out.frozen 0
        have y1 := HN6.out.frozen 1
        have y2 := HN6.out.frozen 2
        have y3 := HN6.out.frozen 3
        have y4 := HN6.out.frozen 4
        have y5 := HN6.out.frozen 5
        have y6 := HN6.out.frozen 6
        have y7 := HN6.out.frozen 7
        go_wp2
        refine post_node Try.f62 2 rfl rfl rfl (HN6.out.put8 x) ?_
        unfold Reads
        rw [HX.out]
        have hRb := HS.out.hR
        have hBb := HS.out.hB
        exact ⟨hjl, _, rfl, ⟨_, rfl, HX6.out.keep (fun b hb _ => by omega) (fun b hb _ => heap_put8 _ R _ b (by omega))⟩, put8_rb HR6.out HRB.out _, put8_grown HGW6.out (by omega) _⟩
end Go.Proofs.Ytlcnmfgmgiijpaa.Ow

/- ere's piece, its lists in blocks of their own. -/
namespace Go.Proofs.Ytlcnmfgmgiijpaa.Ow
open Go.RowKit
attribute [local go_sem ↓] Go.wp_at_zero Go.wp_at_succ

set_option maxRecDepth 4000 in
set_option maxHeartbeats 4000000 in
theorem piece_walk (n : Nat) (H : ∀ m, m < n → AtomOK m) : PieceOK n := by
  intro B i d s w pre hlt hout
  obtain ⟨k, rfl⟩ : ∃ k, n = k + 1 := by
    cases n with
    | zero => exact absurd (by simp [piece]) hout
    | succ k => exact ⟨k, rfl⟩
  have HO : Hid (piece s (k + 1) d i ≠ .out) := hout
  have HP : Hid (∀ m, m < k + 1 → AtomOK m) := H
  have HPC : Hid (piece s (k + 1) d i = if byt s i = 94 then .ok (.mk 6 Oct.none [] 0 0) (i + 1)
    else if byt s i = 36 then .ok (.mk 7 Oct.none [] 0 0) (i + 1)
    else match atom s k d i with
      | .ok t j => repeated s t j
      | .bad a e => .bad a e
      | .out => .out) := by show _ = _; rw [piece]; rfl
  have hi := pre.hi
  have hs := pre.hs
  have hd := pre.hd
  have HB0 : Hid (B ≠ 0) := pre.hB0
  have HBW : Hid (B < w.heap.size) := pre.rd.lt
  have hal : Below w.heap.size w (w.alloc (.cells #[.int .i64 0, .int .u64 0, .int .u64 0, .int .u64 0, .int .u64 0, .slice none 0 0, .int .i64 0, .int .i64 0] 28)) := (Below.refl _ _).alloc (Nat.le_refl _) _
  have HN1 : Hid (NB (w.alloc (.cells #[.int .i64 0, .int .u64 0, .int .u64 0, .int .u64 0, .int .u64 0, .slice none 0 0, .int .i64 0, .int .i64 0] 28)) w.heap.size zeroNd) := nb_zero w
  have HR1 : Hid (RB (w.alloc (.cells #[.int .i64 0, .int .u64 0, .int .u64 0, .int .u64 0, .int .u64 0, .slice none 0 0, .int .i64 0, .int .i64 0] 28)) B s i d) := pre.rd.later hal
  have HM1 : Hid (GM (w.alloc (.cells #[.int .i64 0, .int .u64 0, .int .u64 0, .int .u64 0, .int .u64 0, .slice none 0 0, .int .i64 0, .int .i64 0] 28))) := pre.gm.later hal
  have HG1 : Hid (w.grownBy (w.alloc (.cells #[.int .i64 0, .int .u64 0, .int .u64 0, .int .u64 0, .int .u64 0, .slice none 0 0, .int .i64 0, .int .i64 0] 28)) (some B)) := grown_below (grown_refl _ _) hal
  obtain ⟨w1, hw1⟩ : ∃ w1, w1 = w.alloc (.cells #[.int .i64 0, .int .u64 0, .int .u64 0, .int .u64 0, .int .u64 0, .slice none 0 0, .int .i64 0, .int .i64 0] 28) := ⟨_, rfl⟩
  obtain ⟨R, hR⟩ : ∃ R, R = w.heap.size := ⟨_, rfl⟩
  rw [← hw1, ← hR] at HN1
  rw [← hw1] at HR1 HM1 HG1
  have HW1 : Hid (w1 = _) := hw1
  have HRR : Hid (R = _) := hR
  have HRB : Hid (R ≠ B) := by have := HBW.out; show _ ≠ _; omega
  clear hw1 hR hal pre hout H
  obtain ⟨c0, c1, c2⟩ := HR1.out.cells
  have hi3 : i ≤ 1024 := by omega
  have hlt' : (i : Int) < (s.size : Int) := by omega
  go_enter Try.func51, Try.ntmps51
  go_upto_region 1 with fail
  rw [← HW1.out, ← HRR.out]
  clear HW1
  go_quiet (fail)
  have HR2 : Hid (RB (w1.drewN nq) B s i d) := HR1.out.later (below_drewN _ _ _)
  have HN2 : Hid (NB (w1.drewN nq) R zeroNd) := HN1.out.later (below_drewN _ _ _)
  have HM2 : Hid (GM (w1.drewN nq)) := HM1.out.later (below_drewN _ _ _)
  have HG2 : Hid (w.grownBy (w1.drewN nq) (some B)) := grown_below HG1.out (below_drewN _ _ _)
  obtain ⟨w2, hw2⟩ : ∃ w2, w2 = w1.drewN nq := ⟨_, rfl⟩
  rw [← hw2] at HR2 HN2 HG2 HM2
  have HW2 : Hid (w2 = _) := hw2
  clear hw2 c0 c1 c2 HR1 HN1 HG1 HM1
  go_upto_region 2 with fail
  rw [← HW2.out]
  clear HW2
  obtain ⟨c0, c1, c2⟩ := HR2.out.cells
  by_cases h94 : s[i].toNat = 94
  · have g1 : ((s[i].toNat : Int) == 94) = true := by simp; omega
    have HX : Hid (piece s (k + 1) d i = .ok (.mk 6 Oct.none [] 0 0) (i + 1)) := by show _ = _; rw [HPC.out]; simp [byt_eq hlt, h94]
    clear h94
    have HR3 : Hid (RB (w2.setCell ⟨B, 1, none⟩ (.int .i64 ((i : Int) + 1))) B s (i + 1) d) := HR2.out.at (i + 1)
    have HG3 : Hid (w.grownBy (w2.setCell ⟨B, 1, none⟩ (.int .i64 ((i : Int) + 1))) (some B)) := grown_trans HG2.out (grown_set _ _ _ _)
    have HN3 : Hid (NB (w2.setCell ⟨B, 1, none⟩ (.int .i64 ((i : Int) + 1))) R zeroNd) := HN2.out.set HRB.out _ _
    have f1 := HR2.out.frozen 1
    go_upto_region 4 with fail
    obtain ⟨w3, hw3⟩ : ∃ w3, w3 = w2.setCell ⟨B, 1, none⟩ (.int .i64 ((i : Int) + 1)) := ⟨_, rfl⟩
    rw [← hw3] at HR3 HG3 HN3 ⊢
    clear hw3 c0 c1 c2 f1
    obtain ⟨z0, z1, z2, z3, z4, z5, z6, z7⟩ := HN3.out.cells
    have y0 := HN3.out.frozen 0
    have y1 := HN3.out.frozen 1
    have y2 := HN3.out.frozen 2
    have y3 := HN3.out.frozen 3
    have y4 := HN3.out.frozen 4
    have y5 := HN3.out.frozen 5
    have y6 := HN3.out.frozen 6
    have y7 := HN3.out.frozen 7
    go_wp2
    show bodyPost _ _ _ _ _ (put8z _ R 6 none 0 0 0 0)
    rw [put8z_eq]
    refine post_node Try.f51 2 rfl rfl rfl (HN3.out.put8 _) ?_
    unfold Reads
    rw [HX.out]
    exact ⟨by omega, _, rfl, ⟨_, rfl, NodeAt.leaf _ _ 6 Oct.none 0 0 none 0⟩, put8_rb HR3.out HRB.out _, put8_grown HG3.out (by rw [HRR.out]; exact Nat.le_refl _) _⟩
  · have g1 : ((s[i].toNat : Int) == 94) = false := by simp; omega
    by_cases h36 : s[i].toNat = 36
    · have g2 : ((s[i].toNat : Int) == 36) = true := by simp; omega
      have HX : Hid (piece s (k + 1) d i = .ok (.mk 7 Oct.none [] 0 0) (i + 1)) := by show _ = _; rw [HPC.out]; simp [byt_eq hlt, h36]
      clear h94 h36
      have HR3 : Hid (RB (w2.setCell ⟨B, 1, none⟩ (.int .i64 ((i : Int) + 1))) B s (i + 1) d) := HR2.out.at (i + 1)
      have HG3 : Hid (w.grownBy (w2.setCell ⟨B, 1, none⟩ (.int .i64 ((i : Int) + 1))) (some B)) := grown_trans HG2.out (grown_set _ _ _ _)
      have HN3 : Hid (NB (w2.setCell ⟨B, 1, none⟩ (.int .i64 ((i : Int) + 1))) R zeroNd) := HN2.out.set HRB.out _ _
      have f1 := HR2.out.frozen 1
      go_upto_region 7 with fail
      obtain ⟨w3, hw3⟩ : ∃ w3, w3 = w2.setCell ⟨B, 1, none⟩ (.int .i64 ((i : Int) + 1)) := ⟨_, rfl⟩
      rw [← hw3] at HR3 HG3 HN3 ⊢
      clear hw3 c0 c1 c2 f1
      obtain ⟨z0, z1, z2, z3, z4, z5, z6, z7⟩ := HN3.out.cells
      have y0 := HN3.out.frozen 0
      have y1 := HN3.out.frozen 1
      have y2 := HN3.out.frozen 2
      have y3 := HN3.out.frozen 3
      have y4 := HN3.out.frozen 4
      have y5 := HN3.out.frozen 5
      have y6 := HN3.out.frozen 6
      have y7 := HN3.out.frozen 7
      go_wp2
      show bodyPost _ _ _ _ _ (put8z _ R 7 none 0 0 0 0)
      rw [put8z_eq]
      refine post_node Try.f51 2 rfl rfl rfl (HN3.out.put8 _) ?_
      unfold Reads
      rw [HX.out]
      exact ⟨by omega, _, rfl, ⟨_, rfl, NodeAt.leaf _ _ 7 Oct.none 0 0 none 0⟩, put8_rb HR3.out HRB.out _, put8_grown HG3.out (by rw [HRR.out]; exact Nat.le_refl _) _⟩
    · have g2 : ((s[i].toNat : Int) == 36) = false := by simp; omega
      have HX : Hid (piece s (k + 1) d i = match atom s k d i with
        | .ok t j => repeated s t j
        | .bad a e => .bad a e
        | .out => .out) := by show _ = _; rw [HPC.out]; simp [byt_eq hlt, h94, h36]
      clear h94 h36 c0 c1 c2
      have hpo : atom s k d i ≠ .out := fun e => HO.out (by rw [HX.out, e])
      go_wp2_with fail
      refine (HP.out k (by omega) B i d s w2 ⟨HR2.out, by omega, hs, HM2.out, HB0.out, hd⟩ hlt hpo).mono ?_
      intro e w3 h3
      clear hpo
      cases hc : atom s k d i with
      | out => rw [hc] at h3; exact h3.elim
      | bad a c =>
        rw [hc] at h3 HX
        obtain ⟨rfl, hg3⟩ := h3
        have HG3 : Hid (w.grownBy w3 (some B)) := grown_trans HG2.out hg3
        clear hc hg3
        go_wp2
        refine ⟨rfl, ?_⟩
        unfold Reads
        rw [HX.out]
        exact ⟨rfl, HG3.out⟩
      | ok t j =>
        rw [hc] at h3 HX
        obtain ⟨hj, v, rfl, ⟨x, rfl, hx⟩, hr3, hg3⟩ := h3
        have HN3 : Hid (NB w3 R zeroNd) := HN2.out.grown hg3 (by have := HRB.out; simp; exact this)
        have HG3 : Hid (w.grownBy w3 (some B)) := grown_trans HG2.out hg3
        have hz2 : w.heap.size + 1 ≤ w2.heap.size := by have := HN2.out.lt; have := HRR.out; omega
        have HX3 : Hid (NodeAt (fun b => w.heap.size + 1 ≤ b) w3 t x) := hx.keep (fun b hb _ => by omega) (fun _ _ _ => rfl)
        have HR3 : Hid (RB w3 B s j d) := hr3
        have HZ3 : Hid (w.heap.size + 1 ≤ w3.heap.size) := by have := HN3.out.lt; have := HRR.out; show _ ≤ _; omega
        clear hc hg3 hr3 hx hz2
        go_wp2_with fail
        refine (repeated_walk B j d (w.heap.size + 1) s t x w3 HR3.out hj hs HX3.out (by have := HBW.out; omega) HZ3.out).mono ?_
        intro e w4 h4
        cases hc : repeated s t j with
        | out => rw [hc] at h4; exact h4.elim
        | bad a c =>
          rw [hc] at h4 HX
          obtain ⟨rfl, hg4⟩ := h4
          have HG4 : Hid (w.grownBy w4 (some B)) := grown_trans HG3.out hg4
          clear hc hg4
          go_wp2
          refine ⟨rfl, ?_⟩
          unfold Reads
          rw [HX.out]
          exact ⟨rfl, HG4.out⟩
        | ok t2 j2 =>
          rw [hc] at h4 HX
          obtain ⟨hj2, v, rfl, ⟨y, rfl, hy⟩, hr4, hg4⟩ := h4
          have HN4 : Hid (NB w4 R zeroNd) := HN3.out.grown hg4 (by have := HRB.out; simp; exact this)
          have HG4 : Hid (w.grownBy w4 (some B)) := grown_trans HG3.out hg4
          have HY4 : Hid (NodeAt (fun b => w.heap.size + 1 ≤ b) w4 t2 y) := hy
          have HR4 : Hid (RB w4 B s j2 d) := hr4
          clear hc hg4 hr4 hy HN3 HG3 HX3 HR3 HZ3
          obtain ⟨z0, z1, z2, z3, z4, z5, z6, z7⟩ := HN4.out.cells
          have y0 := HN4.out.frozen 0
          have y1 := HN4.out.frozen 1
          have y2 := HN4.out.frozen 2
          have y3 := HN4.out.frozen 3
          have y4 := HN4.out.frozen 4
          have y5 := HN4.out.frozen 5
          have y6 := HN4.out.frozen 6
          have y7 := HN4.out.frozen 7
          unfold Nd.val
          go_wp2
          refine post_node Try.f51 2 rfl rfl rfl (HN4.out.put8 y) ?_
          unfold Reads
          rw [HX.out]
          have hRR := HRR.out
          exact ⟨hj2, _, rfl, ⟨_, rfl, HY4.out.keep (fun b hb _ => by omega) (fun b hb _ => heap_put8 _ R _ b (by omega))⟩, put8_rb HR4.out HRB.out _, put8_grown HG4.out (by omega) _⟩
end Go.Proofs.Ytlcnmfgmgiijpaa.Ow
