/- ere's pattern. -/
import Derived.Test.YtjmbimgofceanaaG08
import Derived.Test.YtjmbimgofceanaaG05
namespace Go.Proofs.Ytjmbimgofceanaa
open Go.RowKit
attribute [local go_sem ↓] Go.wp_at_zero Go.wp_at_succ

set_option maxRecDepth 4000 in
set_option maxHeartbeats 4000000 in
theorem pat_walk (n : Nat) (H : ∀ m, m < n → AltOK m) : PatOK n := by
  intro B i d s w pre hout
  obtain ⟨k, rfl⟩ : ∃ k, n = k + 1 := by
    cases n with
    | zero => exact absurd (by simp [pat]) hout
    | succ k => exact ⟨k, rfl⟩
  have HO : Hid (pat s (k + 1) d i ≠ .out) := hout
  have HP : Hid (∀ m, m < k + 1 → AltOK m) := H
  have hi := pre.hi
  have hs := pre.hs
  have hd := pre.hd
  have hal : Below w.heap.size w (w.alloc (.cells #[.int .i64 0, .int .u64 0, .int .u64 0, .int .u64 0, .int .u64 0, .slice none 0 0, .int .i64 0, .int .i64 0] 30)) := (Below.refl _ _).alloc (Nat.le_refl _) _
  have HS : Hid (Pt w s B w.heap.size d (w.alloc (.cells #[.int .i64 0, .int .u64 0, .int .u64 0, .int .u64 0, .int .u64 0, .slice none 0 0, .int .i64 0, .int .i64 0] 30)) i (.slice none 0 0) []) :=
    ⟨nb_zero w, pre.rd.later hal, pre.gm.later hal, grown_below (grown_refl _ _) hal, nodes_nil _ _, rfl, pre.rd.lt, pre.hB0⟩
  obtain ⟨w1, hw1⟩ : ∃ w1, w1 = w.alloc (.cells #[.int .i64 0, .int .u64 0, .int .u64 0, .int .u64 0, .int .u64 0, .slice none 0 0, .int .i64 0, .int .i64 0] 30) := ⟨_, rfl⟩
  obtain ⟨R, hR⟩ : ∃ R, R = w.heap.size := ⟨_, rfl⟩
  rw [← hw1, ← hR] at HS
  have HW1 : Hid (w1 = _) := hw1
  have HRR : Hid (R = _) := hR
  clear hw1 hR hal pre hout H
  go_enter Try.func65, Try.ntmps65
  go_upto_region 1 with fail
  rw [← HW1.out, ← HRR.out]
  clear HW1
  go_wp2_with fail
  have HPA : Hid (pat s (k + 1) d i = match alt s k d i with
    | .ok t j => patLoop s k d [t] j
    | .bad a e => .bad a e
    | .out => .out) := by show _ = _; rw [pat]; rfl
  have hpo : alt s k d i ≠ .out := fun e => HO.out (by rw [HPA.out, e])
  refine (HP.out k (by omega) B i d s w1 (pre_of HS.out hi hs hd) hpo).mono ?_
  intro e w2 h2
  clear hpo
  cases hc : alt s k d i with
  | out => rw [hc] at h2; exact h2.elim
  | bad a c =>
    rw [hc] at h2 HPA
    obtain ⟨rfl, hg2⟩ := h2
    have HG2 : Hid (w.grownBy w2 (some B)) := grown_trans HS.out.grown hg2
    clear hc hg2
    go_wp2
    refine ⟨rfl, ?_⟩
    unfold Reads
    rw [HPA.out]
    exact ⟨rfl, HG2.out⟩
  | ok t j0 =>
    rw [hc] at h2 HPA
    obtain ⟨hj0, v, rfl, ⟨x, rfl, hx⟩, hr2, hg2⟩ := h2
    have hp2 := HS.out.read hg2 hr2
    have hz1 := HS.out.size
    have hz2 := hp2.size
    have hal2 : Below w2.heap.size w2 (w2.alloc (.cells #[.int .i64 x.k, .int .u64 (Oct.word x.s 0 : Nat), .int .u64 (Oct.word x.s 1 : Nat), .int .u64 (Oct.word x.s 2 : Nat), .int .u64 (Oct.word x.s 3 : Nat), .slice x.a x.n x.c, .int .i64 x.mn, .int .i64 x.mx] 30)) := (Below.refl _ _).alloc (Nat.le_refl _) _
    have hp3 := hp2.later hal2
    have HS3 : Hid (Pt w s B R d (w2.alloc (.cells #[.int .i64 x.k, .int .u64 (Oct.word x.s 0 : Nat), .int .u64 (Oct.word x.s 1 : Nat), .int .u64 (Oct.word x.s 2 : Nat), .int .u64 (Oct.word x.s 3 : Nat), .slice x.a x.n x.c, .int .i64 x.mn, .int .i64 x.mx] 30)) j0 (.slice (some ⟨w2.heap.size, 0, none⟩) 1 1) [t]) :=
      ⟨hp3.res, hp3.rd, hp3.gm, hp3.grown, nodes_one (hx.keep (fun b hb _ => by omega) (fun _ _ _ => rfl)) hz2, hp3.hR, hp3.hB, hp3.hB0⟩
    obtain ⟨w3, hw3⟩ : ∃ w3, w3 = w2.alloc (.cells #[.int .i64 x.k, .int .u64 (Oct.word x.s 0 : Nat), .int .u64 (Oct.word x.s 1 : Nat), .int .u64 (Oct.word x.s 2 : Nat), .int .u64 (Oct.word x.s 3 : Nat), .slice x.a x.n x.c, .int .i64 x.mn, .int .i64 x.mx] 30) := ⟨_, rfl⟩
    obtain ⟨G, hG⟩ : ∃ G, G = w2.heap.size := ⟨_, rfl⟩
    rw [← hw3, ← hG] at HS3
    have HW3 : Hid (w3 = _) := hw3
    have HGG : Hid (G = _) := hG
    clear hc hr2 hg2 hx hp2 hp3 hz1 hz2 hal2 hw3 hG HS
    unfold Nd.val
    go_wp2_with fail
    rw [← HW3.out, ← HGG.out]
    clear HW3 HGG
    go_loopw [3] (fun V u => ∃ (m : Nat) (ts : List Tr) (j : Nat), m < k + 1 ∧ j ≤ s.size ∧ ts.length ≤ j + 1 ∧ Hid (Pt w s B R d u j V ts) ∧ Hid (pat s (k + 1) d i = patLoop s m d ts j)) (fun _ u => 4000 - (intOf ((u.cell? ⟨B, 1, none⟩).getD undef)).toNat)
    case atStart => exact ⟨k, [t], j0, by omega, hj0, by simp, HS3, HPA⟩
    case round =>
      clear HS3 HPA
      obtain ⟨m, ts, j, hm, hj, htl, hpt, hal⟩ := hrel
      have HM : Hid (4000 - (intOf ((wr.cell? ⟨B, 1, none⟩).getD undef)).toNat = 4000 - j) := by show _ = _; rw [hpt.out.rd.cells.2.1]; simp [intOf]
      obtain ⟨m, rfl⟩ : ∃ m', m = m' + 1 := by
        cases m with
        | zero => exact absurd (hal.out.trans (by simp [patLoop])) HO.out
        | succ m => exact ⟨m, rfl⟩
      go_wp2_with fail
      refine (sees_any B j d 124 s wr hpt.out.rd hj).mono ?_
      rintro e u1 ⟨rfl, kk⟩
      have HS1 : Hid (Pt w s B R d u1 j _ ts) := hpt.out.later kk
      clear kk
      cases h124 : sees s j 124 with
      | false =>
        have HX : Hid (pat s (k + 1) d i = .ok (together 4 ts) j) := by show _ = _; rw [hal.out, patLoop, h124]; rfl
        clear h124
        go_wp2_with fail
        refine (together_any 4 (w.heap.size + 1) _ ts u1 HS1.out.nodes (by omega)).mono ?_
        rintro e u7 ⟨⟨v, rfl, x, rfl, hx⟩, kk⟩
        have HS7 : Hid (Pt w s B R d u7 j _ ts) := HS1.out.later kk
        have HX7 : Hid (NodeAt (fun b => w.heap.size + 1 ≤ b) u7 (together 4 ts) x) := hx
        clear kk hx HS1
        obtain ⟨z0, z1, z2, z3, z4, z5, z6, z7⟩ := HS7.out.res.cells
        have y0 := HS7.out.res.frozen 0
        have y1 := HS7.out.res.frozen 1
        have y2 := HS7.out.res.frozen 2
        have y3 := HS7.out.res.frozen 3
        have y4 := HS7.out.res.frozen 4
        have y5 := HS7.out.res.frozen 5
        have y6 := HS7.out.res.frozen 6
        have y7 := HS7.out.res.frozen 7
        unfold Nd.val
        go_wp2
        refine post_node Try.f65 2 rfl rfl rfl (HS7.out.res.put8 x) ?_
        unfold Reads
        rw [HX.out]
        have hRb := HS7.out.hR
        have hBb := HS7.out.hB
        exact ⟨hj, _, rfl, ⟨_, rfl, HX7.out.keep (fun b hb _ => by omega) (fun b hb _ => heap_put8 _ R _ b (by omega))⟩, put8_rb HS7.out.rd (by omega) _, put8_grown HS7.out.grown (by omega) _⟩
      | true =>
        have hlt : j < s.size := by unfold sees at h124; simp at h124; exact h124.1
        have HGO : Hid (pat s (k + 1) d i = match alt s m d (j + 1) with
          | .ok t j' => patLoop s m d (ts ++ [t]) j'
          | .bad a e => .bad a e
          | .out => .out) := by
          show _ = _
          rw [hal.out, patLoop, h124]
          rfl
        clear h124
        obtain ⟨c0, c1, c2⟩ := HS1.out.rd.cells
        have f1 := HS1.out.rd.frozen 1
        have hj3 : j ≤ 1024 := by omega
        have HS2 : Hid (Pt w s B R d (u1.setCell ⟨B, 1, none⟩ (.int .i64 ((j : Int) + 1))) (j + 1) _ ts) := HS1.out.read (grown_set _ _ _ _) (HS1.out.rd.at (j + 1))
        go_upto_region 4 with fail
        obtain ⟨u2, hu2⟩ : ∃ u2, u2 = u1.setCell ⟨B, 1, none⟩ (.int .i64 ((j : Int) + 1)) := ⟨_, rfl⟩
        rw [← hu2] at HS2 ⊢
        clear hu2 c0 c1 c2 f1 HS1
        go_wp2_with fail
        have hpo : alt s m d (j + 1) ≠ .out := fun e => HO.out (by rw [HGO.out, e])
        refine (HP.out m (by omega) B (j + 1) d s u2 (pre_of HS2.out (by omega) hs hd) hpo).mono ?_
        intro e u4 h4
        clear hpo
        cases hc : alt s m d (j + 1) with
        | out => rw [hc] at h4; exact h4.elim
        | bad a c =>
          rw [hc] at h4 HGO
          obtain ⟨rfl, hg4⟩ := h4
          have HG4 : Hid (w.grownBy u4 (some B)) := grown_trans HS2.out.grown hg4
          clear hc hg4
          go_wp2
          refine ⟨rfl, ?_⟩
          unfold Reads
          rw [HGO.out]
          exact ⟨rfl, HG4.out⟩
        | ok t j' =>
          have hjj := (read_ge s m).2.2.1 _ _ _ _ hc
          rw [hc] at h4 HGO
          obtain ⟨hj', v, rfl, ⟨x, rfl, hx⟩, hr4, hg4⟩ := h4
          have HS4 : Hid (Pt w s B R d u4 j' _ ts) := HS2.out.read hg4 hr4
          have hu3 := HS2.out.size
          have hvb : ∀ b, Value.ownBlock _ = some b → b < u2.heap.size := Nodes.blt HS2.out.nodes
          have hx5 := hx.keep (Y := fun b => w.heap.size + 1 ≤ b ∧ Value.ownBlock _ ≠ some b) (w' := u4.alloc (.cells #[.int .i64 x.k, .int .u64 (Oct.word x.s 0 : Nat), .int .u64 (Oct.word x.s 1 : Nat), .int .u64 (Oct.word x.s 2 : Nat), .int .u64 (Oct.word x.s 3 : Nat), .slice x.a x.n x.c, .int .i64 x.mn, .int .i64 x.mx] 30)) (fun b hb _ => ⟨by omega, fun e => by have := hvb b e; omega⟩) (fun b _ hlt => ((Below.refl _ u4).alloc (Nat.le_refl _) _).block b hlt)
          have hS5 := HS4.out.later ((Below.refl _ u4).alloc (Nat.le_refl _) (.cells #[.int .i64 x.k, .int .u64 (Oct.word x.s 0 : Nat), .int .u64 (Oct.word x.s 1 : Nat), .int .u64 (Oct.word x.s 2 : Nat), .int .u64 (Oct.word x.s 3 : Nat), .slice x.a x.n x.c, .int .i64 x.mn, .int .i64 x.mx] 30))
          have HX5 : Hid (NodeAt _ _ t x) := hx5
          have HS5 : Hid (Pt w s B R d _ j' _ ts) := hS5
          have HC5 : Hid (∀ j v, x.cells[j]? = some v → _) := cells_new u4 x
          have HL5 : Hid (ts.length ≤ 100000) := by show _ ≤ _; omega
          have HZ5 : Hid (w.heap.size + 1 ≤ _) := hS5.size
          clear hc hr4 hg4 hx hx5 hS5 hu3 hvb HS2 HS4
          unfold Nd.val
          go_wp2_with (at_builtin; go_must (refine wpList_append_node rfl _ _ rfl (w.heap.size + 1) _ ts rfl HS5.out.nodes ⟨u4.heap.size, 0, none⟩ 1 x t rfl HX5.out HC5.out HL5.out HZ5.out ?_; intro g cap' w6 hn6 hg6 hb6; have HS6 : Hid (Pt w s B R d w6 j' _ (ts ++ [t])) := (HS5.out.more hn6 hg6 hb6); clear hn6 hg6 hb6))
          go_roundw
          case rel => exact ⟨m, ts ++ [t], j', by omega, hj', by simp; omega, HS6, HGO⟩
          case measure =>
            rw [HM.out, HS6.out.rd.cells.2.1]
            simp [intOf]
            omega
end Go.Proofs.Ytjmbimgofceanaa

/- ere's group. -/
namespace Go.Proofs.Ytjmbimgofceanaa
open Go.RowKit
attribute [local go_sem ↓] Go.wp_at_zero Go.wp_at_succ

set_option maxRecDepth 4000 in
set_option maxHeartbeats 4000000 in
theorem group_walk (n : Nat) (H : ∀ m, m < n → PatOK m) : GroupOK n := by
  intro B i d s w pre hlt hout
  obtain ⟨k, rfl⟩ : ∃ k, n = k + 1 := by
    cases n with
    | zero => exact absurd (by simp [group]) hout
    | succ k => exact ⟨k, rfl⟩
  have HO : Hid (group s (k + 1) d i ≠ .out) := hout
  have HP : Hid (∀ m, m < k + 1 → PatOK m) := H
  have hi := pre.hi
  have hs := pre.hs
  have hd := pre.hd
  have hal : Below w.heap.size w (w.alloc (.cells #[.int .i64 0, .int .u64 0, .int .u64 0, .int .u64 0, .int .u64 0, .slice none 0 0, .int .i64 0, .int .i64 0] 30)) := (Below.refl _ _).alloc (Nat.le_refl _) _
  have HS : Hid (Pt w s B w.heap.size d (w.alloc (.cells #[.int .i64 0, .int .u64 0, .int .u64 0, .int .u64 0, .int .u64 0, .slice none 0 0, .int .i64 0, .int .i64 0] 30)) i (.slice none 0 0) []) :=
    ⟨nb_zero w, pre.rd.later hal, pre.gm.later hal, grown_below (grown_refl _ _) hal, nodes_nil _ _, rfl, pre.rd.lt, pre.hB0⟩
  obtain ⟨w1, hw1⟩ : ∃ w1, w1 = w.alloc (.cells #[.int .i64 0, .int .u64 0, .int .u64 0, .int .u64 0, .int .u64 0, .slice none 0 0, .int .i64 0, .int .i64 0] 30) := ⟨_, rfl⟩
  obtain ⟨R, hR⟩ : ∃ R, R = w.heap.size := ⟨_, rfl⟩
  rw [← hw1, ← hR] at HS
  have HW1 : Hid (w1 = _) := hw1
  have HRR : Hid (R = _) := hR
  clear hw1 hR hal pre hout H
  obtain ⟨c0, c1, c2⟩ := HS.out.rd.cells
  have f1 := HS.out.rd.frozen 1
  have f2 := HS.out.rd.frozen 2
  have hi3 : i ≤ 1024 := by omega
  go_enter Try.func85, Try.ntmps85
  go_upto_region 1 with fail
  rw [← HW1.out, ← HRR.out]
  clear HW1
  by_cases hd64 : d = 64
  · have HX : Hid (group s (k + 1) d i = .bad i 47) := by show _ = _; rw [group, if_pos hd64]
    have g1 : (d : Int) = 64 := by omega
    clear hd64
    go_wp2_with fail
    refine (giveUp_any i 47 _).mono ?_
    rintro e u1 ⟨rfl, k1⟩
    go_wp2
    refine ⟨rfl, ?_⟩
    unfold Reads
    rw [HX.out]
    exact ⟨rfl, grown_below HS.out.grown k1⟩
  · have g1 : ¬ (d : Int) = 64 := by omega
    have HGO : Hid (group s (k + 1) d i = match pat s k (d + 1) (i + 1) with
      | .ok t j => if j = s.size then .bad i 42 else .ok t (j + 1)
      | .bad a e => .bad a e
      | .out => .out) := by show _ = _; rw [group, if_neg hd64]; rfl
    have hd3 : d + 1 ≤ 64 := by omega
    clear hd64
    have HR2 : Hid (RB ((w1.setCell ⟨B, 1, none⟩ (.int .i64 ((i : Int) + 1))).setCell ⟨B, 2, none⟩ (.int .i64 ((d : Int) + 1))) B s (i + 1) (d + 1)) := (HS.out.rd.at (i + 1)).deep (d + 1)
    have HG2 : Hid (w1.grownBy ((w1.setCell ⟨B, 1, none⟩ (.int .i64 ((i : Int) + 1))).setCell ⟨B, 2, none⟩ (.int .i64 ((d : Int) + 1))) (some B)) := grown_trans (grown_set _ _ _ _) (grown_set _ _ _ _)
    go_upto_region 6 with fail
    obtain ⟨w2, hw2⟩ : ∃ w2, w2 = (w1.setCell ⟨B, 1, none⟩ (.int .i64 ((i : Int) + 1))).setCell ⟨B, 2, none⟩ (.int .i64 ((d : Int) + 1)) := ⟨_, rfl⟩
    rw [← hw2] at HR2 HG2 ⊢
    clear hw2 c0 c1 c2 f1 f2
    have HRB : Hid (R ≠ B) := by have := HS.out.hR; have := HS.out.hB; show _ ≠ _; omega
    have HN2 : Hid (NB w2 R zeroNd) := HS.out.res.grown HG2.out (by have := HRB.out; simp; exact this)
    have HM2 : Hid (GM w2) := HS.out.gm.grown HG2.out HS.out.hB0
    have HGW2 : Hid (w.grownBy w2 (some B)) := grown_trans HS.out.grown HG2.out
    go_wp2_with fail
    have hpo : pat s k (d + 1) (i + 1) ≠ .out := fun e => HO.out (by rw [HGO.out, e])
    refine (HP.out k (by omega) B (i + 1) (d + 1) s w2 ⟨HR2.out, by omega, hs, HM2.out, HS.out.hB0, hd3⟩ hpo).mono ?_
    intro e w3 h3
    clear hpo
    cases hc : pat s k (d + 1) (i + 1) with
    | out => rw [hc] at h3; exact h3.elim
    | bad a c =>
      rw [hc] at h3 HGO
      obtain ⟨rfl, hg3⟩ := h3
      have HG3 : Hid (w.grownBy w3 (some B)) := grown_trans HGW2.out hg3
      clear hc hg3
      go_wp2
      refine ⟨rfl, ?_⟩
      unfold Reads
      rw [HGO.out]
      exact ⟨rfl, HG3.out⟩
    | ok t j =>
      rw [hc] at h3 HGO
      obtain ⟨hj, v, rfl, ⟨x, rfl, hx⟩, hr3, hg3⟩ := h3
      have hn3 : NB w3 R zeroNd := HN2.out.grown hg3 (by have := HRB.out; simp; exact this)
      have hgw3 : w.grownBy w3 (some B) := grown_trans HGW2.out hg3
      have hz2 : w.heap.size + 1 ≤ w2.heap.size := by have := HN2.out.lt; have := HS.out.hR; omega
      have hal4 : Below w3.heap.size w3 (w3.alloc (.cells #[.int .i64 x.k, .int .u64 (Oct.word x.s 0 : Nat), .int .u64 (Oct.word x.s 1 : Nat), .int .u64 (Oct.word x.s 2 : Nat), .int .u64 (Oct.word x.s 3 : Nat), .slice x.a x.n x.c, .int .i64 x.mn, .int .i64 x.mx] 30)) := (Below.refl _ _).alloc (Nat.le_refl _) _
      have HX4 : Hid (NodeAt (fun b => w.heap.size + 1 ≤ b ∧ b < w3.heap.size) (w3.alloc (.cells #[.int .i64 x.k, .int .u64 (Oct.word x.s 0 : Nat), .int .u64 (Oct.word x.s 1 : Nat), .int .u64 (Oct.word x.s 2 : Nat), .int .u64 (Oct.word x.s 3 : Nat), .slice x.a x.n x.c, .int .i64 x.mn, .int .i64 x.mx] 30)) t x) := hx.keep (fun b hb hlt => ⟨by omega, hlt⟩) (fun b _ hlt => hal4.block b hlt)
      have HN4 : Hid (NB (w3.alloc (.cells #[.int .i64 x.k, .int .u64 (Oct.word x.s 0 : Nat), .int .u64 (Oct.word x.s 1 : Nat), .int .u64 (Oct.word x.s 2 : Nat), .int .u64 (Oct.word x.s 3 : Nat), .slice x.a x.n x.c, .int .i64 x.mn, .int .i64 x.mx] 30)) R zeroNd) := hn3.later hal4
      have HR4 : Hid (RB (w3.alloc (.cells #[.int .i64 x.k, .int .u64 (Oct.word x.s 0 : Nat), .int .u64 (Oct.word x.s 1 : Nat), .int .u64 (Oct.word x.s 2 : Nat), .int .u64 (Oct.word x.s 3 : Nat), .slice x.a x.n x.c, .int .i64 x.mn, .int .i64 x.mx] 30)) B s j (d + 1)) := hr3.later hal4
      have HG4 : Hid (w.grownBy (w3.alloc (.cells #[.int .i64 x.k, .int .u64 (Oct.word x.s 0 : Nat), .int .u64 (Oct.word x.s 1 : Nat), .int .u64 (Oct.word x.s 2 : Nat), .int .u64 (Oct.word x.s 3 : Nat), .slice x.a x.n x.c, .int .i64 x.mn, .int .i64 x.mx] 30)) (some B)) := grown_below hgw3 hal4
      have HY4 : Hid (NB (w3.alloc (.cells #[.int .i64 x.k, .int .u64 (Oct.word x.s 0 : Nat), .int .u64 (Oct.word x.s 1 : Nat), .int .u64 (Oct.word x.s 2 : Nat), .int .u64 (Oct.word x.s 3 : Nat), .slice x.a x.n x.c, .int .i64 x.mn, .int .i64 x.mx] 30)) w3.heap.size x) := nb_new w3 x
      obtain ⟨Y, hY⟩ : ∃ Y, Y = w3.heap.size := ⟨_, rfl⟩
      obtain ⟨w4, hw4⟩ : ∃ w4, w4 = w3.alloc (.cells #[.int .i64 x.k, .int .u64 (Oct.word x.s 0 : Nat), .int .u64 (Oct.word x.s 1 : Nat), .int .u64 (Oct.word x.s 2 : Nat), .int .u64 (Oct.word x.s 3 : Nat), .slice x.a x.n x.c, .int .i64 x.mn, .int .i64 x.mx] 30) := ⟨_, rfl⟩
      have HYB : Hid (Y ≠ B ∧ Y ≠ R) := ⟨by have := hr3.lt; omega, by have := hn3.lt; omega⟩
      rw [← hw4, ← hY] at HX4 HY4
      rw [← hw4] at HN4 HR4 HG4
      have HW4 : Hid (w4 = _) := hw4
      have HYY : Hid (Y = _) := hY
      clear hc hr3 hg3 hx hn3 hgw3 hz2 hal4 hw4 hY HN2 HM2 HGW2 HR2 HG2
      unfold Nd.val
      go_upto_region 7 with fail
      rw [← HW4.out, ← HYY.out]
      clear HW4 HYY
      go_wp2_with fail
      refine (ended_any B j (d + 1) s w4 HR4.out).mono ?_
      rintro e w5 ⟨rfl, k5⟩
      have HX5 := HX4.out.later k5
      have HN5 : Hid (NB w5 R zeroNd) := HN4.out.later k5
      have HR5 : Hid (RB w5 B s j (d + 1)) := HR4.out.later k5
      have HG5 : Hid (w.grownBy w5 (some B)) := grown_below HG4.out k5
      have HY5 : Hid (NB w5 Y x) := HY4.out.later k5
      have HXX : Hid (NodeAt (fun b => w.heap.size + 1 ≤ b ∧ b < Y) w5 t x) := HX5
      clear k5 HX5 HX4 HN4 HR4 HG4 HY4
      by_cases hend : j = s.size
      · have HX : Hid (group s (k + 1) d i = .bad i 42) := by show _ = _; rw [HGO.out]; simp [hend]
        rw [decide_eq_true hend]
        clear hend
        go_wp2_with fail
        refine (giveUp_any i 42 _).mono ?_
        rintro e u1 ⟨rfl, k1⟩
        go_wp2
        refine ⟨rfl, ?_⟩
        unfold Reads
        rw [HX.out]
        exact ⟨rfl, grown_below HG5.out k1⟩
      · have HX : Hid (group s (k + 1) d i = .ok t (j + 1)) := by show _ = _; rw [HGO.out]; simp [hend]
        rw [decide_eq_false hend]
        have hj3 : j ≤ 1024 := by omega
        have hjl : j + 1 ≤ s.size := by omega
        clear hend
        obtain ⟨c0, c1, c2⟩ := HR5.out.cells
        have f1 := HR5.out.frozen 1
        have f2 := HR5.out.frozen 2
        have e1 : ((d + 1 : Nat) : Int) = (d : Int) + 1 := by omega
        rw [e1] at c2
        have HR6 : Hid (RB ((w5.setCell ⟨B, 1, none⟩ (.int .i64 ((j : Int) + 1))).setCell ⟨B, 2, none⟩ (.int .i64 (d : Int))) B s (j + 1) d) := (HR5.out.at (j + 1)).deep d
        have HG6 : Hid (w5.grownBy ((w5.setCell ⟨B, 1, none⟩ (.int .i64 ((j : Int) + 1))).setCell ⟨B, 2, none⟩ (.int .i64 (d : Int))) (some B)) := grown_trans (grown_set _ _ _ _) (grown_set _ _ _ _)
        clear e1
        go_upto_region 11 with fail
        have es : ((d : Int) + 1 - 1) = (d : Int) := by omega
        try rw [es]
        obtain ⟨w6, hw6⟩ : ∃ w6, w6 = (w5.setCell ⟨B, 1, none⟩ (.int .i64 ((j : Int) + 1))).setCell ⟨B, 2, none⟩ (.int .i64 (d : Int)) := ⟨_, rfl⟩
        rw [← hw6] at HR6 HG6 ⊢
        clear hw6 c0 c1 c2 f1 f2 es
        have hYB := HYB.out
        have hRB := HRB.out
        have hBw := HS.out.hB
        have hRw := HS.out.hR
        have HN6 : Hid (NB w6 R zeroNd) := HN5.out.grown HG6.out (by simp; exact hRB)
        have HY6 : Hid (NB w6 Y x) := HY5.out.grown HG6.out (by simp; exact hYB.1)
        have HX6 : Hid (NodeAt (fun b => w.heap.size + 1 ≤ b) w6 t x) := HXX.out.keep (fun b hb _ => hb.1) (fun b hb hlt => HG6.out.block b hlt (by simp; omega))
        have HGW6 : Hid (w.grownBy w6 (some B)) := grown_trans HG5.out HG6.out
        clear hYB hRB hBw hRw HN5 HY5 HXX HG5 HG6
        obtain ⟨b0, b1, b2, b3, b4, b5, b6, b7⟩ := HY6.out.cells
        obtain ⟨z0, z1, z2, z3, z4, z5, z6, z7⟩ := HN6.out.cells
        have y0 := HN6.out.frozen 0
        have y1 := HN6.out.frozen 1
        have y2 := HN6.out.frozen 2
        have y3 := HN6.out.frozen 3
        have y4 := HN6.out.frozen 4
        have y5 := HN6.out.frozen 5
        have y6 := HN6.out.frozen 6
        have y7 := HN6.out.frozen 7
        go_wp2
        refine post_node Try.f85 2 rfl rfl rfl (HN6.out.put8 x) ?_
        unfold Reads
        rw [HX.out]
        have hRb := HS.out.hR
        have hBb := HS.out.hB
        exact ⟨hjl, _, rfl, ⟨_, rfl, HX6.out.keep (fun b hb _ => by omega) (fun b hb _ => heap_put8 _ R _ b (by omega))⟩, put8_rb HR6.out HRB.out _, put8_grown HGW6.out (by omega) _⟩
end Go.Proofs.Ytjmbimgofceanaa

/- ere's piece. -/
namespace Go.Proofs.Ytjmbimgofceanaa
open Go.RowKit
attribute [local go_sem ↓] Go.wp_at_zero Go.wp_at_succ

set_option maxRecDepth 4000 in
set_option maxHeartbeats 4000000 in
theorem piece_walk (n : Nat) (H : ∀ m, m < n → AtomOK m) : PieceOK n := by
  intro B i d s w pre hlt hout
  obtain ⟨k, rfl⟩ : ∃ k, n = k + 1 := by
    cases n with
    | zero => exact absurd (by simp [piece]) hout
    | succ k => exact ⟨k, rfl⟩
  have HO : Hid (piece s (k + 1) d i ≠ .out) := hout
  have HP : Hid (∀ m, m < k + 1 → AtomOK m) := H
  have HPC : Hid (piece s (k + 1) d i = if byt s i = 94 then .ok (.mk 6 Oct.none [] 0 0) (i + 1)
    else if byt s i = 36 then .ok (.mk 7 Oct.none [] 0 0) (i + 1)
    else match atom s k d i with
      | .ok t j => repeated s t j
      | .bad a e => .bad a e
      | .out => .out) := by show _ = _; rw [piece]; rfl
  have hi := pre.hi
  have hs := pre.hs
  have hd := pre.hd
  have HB0 : Hid (B ≠ 0) := pre.hB0
  have HBW : Hid (B < w.heap.size) := pre.rd.lt
  have hal : Below w.heap.size w (w.alloc (.cells #[.int .i64 0, .int .u64 0, .int .u64 0, .int .u64 0, .int .u64 0, .slice none 0 0, .int .i64 0, .int .i64 0] 30)) := (Below.refl _ _).alloc (Nat.le_refl _) _
  have HN1 : Hid (NB (w.alloc (.cells #[.int .i64 0, .int .u64 0, .int .u64 0, .int .u64 0, .int .u64 0, .slice none 0 0, .int .i64 0, .int .i64 0] 30)) w.heap.size zeroNd) := nb_zero w
  have HR1 : Hid (RB (w.alloc (.cells #[.int .i64 0, .int .u64 0, .int .u64 0, .int .u64 0, .int .u64 0, .slice none 0 0, .int .i64 0, .int .i64 0] 30)) B s i d) := pre.rd.later hal
  have HM1 : Hid (GM (w.alloc (.cells #[.int .i64 0, .int .u64 0, .int .u64 0, .int .u64 0, .int .u64 0, .slice none 0 0, .int .i64 0, .int .i64 0] 30))) := pre.gm.later hal
  have HG1 : Hid (w.grownBy (w.alloc (.cells #[.int .i64 0, .int .u64 0, .int .u64 0, .int .u64 0, .int .u64 0, .slice none 0 0, .int .i64 0, .int .i64 0] 30)) (some B)) := grown_below (grown_refl _ _) hal
  obtain ⟨w1, hw1⟩ : ∃ w1, w1 = w.alloc (.cells #[.int .i64 0, .int .u64 0, .int .u64 0, .int .u64 0, .int .u64 0, .slice none 0 0, .int .i64 0, .int .i64 0] 30) := ⟨_, rfl⟩
  obtain ⟨R, hR⟩ : ∃ R, R = w.heap.size := ⟨_, rfl⟩
  rw [← hw1, ← hR] at HN1
  rw [← hw1] at HR1 HM1 HG1
  have HW1 : Hid (w1 = _) := hw1
  have HRR : Hid (R = _) := hR
  have HRB : Hid (R ≠ B) := by have := HBW.out; show _ ≠ _; omega
  clear hw1 hR hal pre hout H
  obtain ⟨c0, c1, c2⟩ := HR1.out.cells
  have hi3 : i ≤ 1024 := by omega
  have hlt' : (i : Int) < (s.size : Int) := by omega
  go_enter Try.func81, Try.ntmps81
  go_upto_region 1 with fail
  rw [← HW1.out, ← HRR.out]
  clear HW1
  go_quiet (fail)
  have HR2 : Hid (RB (w1.drewN nq) B s i d) := HR1.out.later (below_drewN _ _ _)
  have HN2 : Hid (NB (w1.drewN nq) R zeroNd) := HN1.out.later (below_drewN _ _ _)
  have HM2 : Hid (GM (w1.drewN nq)) := HM1.out.later (below_drewN _ _ _)
  have HG2 : Hid (w.grownBy (w1.drewN nq) (some B)) := grown_below HG1.out (below_drewN _ _ _)
  obtain ⟨w2, hw2⟩ : ∃ w2, w2 = w1.drewN nq := ⟨_, rfl⟩
  rw [← hw2] at HR2 HN2 HG2 HM2
  have HW2 : Hid (w2 = _) := hw2
  clear hw2 c0 c1 c2 HR1 HN1 HG1 HM1
  go_upto_region 2 with fail
  rw [← HW2.out]
  clear HW2
  obtain ⟨c0, c1, c2⟩ := HR2.out.cells
  by_cases h94 : s[i].toNat = 94
  · have g1 : ((s[i].toNat : Int) == 94) = true := by simp; omega
    have HX : Hid (piece s (k + 1) d i = .ok (.mk 6 Oct.none [] 0 0) (i + 1)) := by show _ = _; rw [HPC.out]; simp [byt_eq hlt, h94]
    clear h94
    have HR3 : Hid (RB (w2.setCell ⟨B, 1, none⟩ (.int .i64 ((i : Int) + 1))) B s (i + 1) d) := HR2.out.at (i + 1)
    have HG3 : Hid (w.grownBy (w2.setCell ⟨B, 1, none⟩ (.int .i64 ((i : Int) + 1))) (some B)) := grown_trans HG2.out (grown_set _ _ _ _)
    have HN3 : Hid (NB (w2.setCell ⟨B, 1, none⟩ (.int .i64 ((i : Int) + 1))) R zeroNd) := HN2.out.set HRB.out _ _
    have f1 := HR2.out.frozen 1
    go_upto_region 4 with fail
    obtain ⟨w3, hw3⟩ : ∃ w3, w3 = w2.setCell ⟨B, 1, none⟩ (.int .i64 ((i : Int) + 1)) := ⟨_, rfl⟩
    rw [← hw3] at HR3 HG3 HN3 ⊢
    clear hw3 c0 c1 c2 f1
    obtain ⟨z0, z1, z2, z3, z4, z5, z6, z7⟩ := HN3.out.cells
    have y0 := HN3.out.frozen 0
    have y1 := HN3.out.frozen 1
    have y2 := HN3.out.frozen 2
    have y3 := HN3.out.frozen 3
    have y4 := HN3.out.frozen 4
    have y5 := HN3.out.frozen 5
    have y6 := HN3.out.frozen 6
    have y7 := HN3.out.frozen 7
    go_wp2
    show bodyPost _ _ _ _ _ (put8z _ R 6 none 0 0 0 0)
    rw [put8z_eq]
    refine post_node Try.f81 2 rfl rfl rfl (HN3.out.put8 _) ?_
    unfold Reads
    rw [HX.out]
    exact ⟨by omega, _, rfl, ⟨_, rfl, NodeAt.leaf _ _ 6 Oct.none 0 0 none 0⟩, put8_rb HR3.out HRB.out _, put8_grown HG3.out (by rw [HRR.out]; exact Nat.le_refl _) _⟩
  · have g1 : ((s[i].toNat : Int) == 94) = false := by simp; omega
    by_cases h36 : s[i].toNat = 36
    · have g2 : ((s[i].toNat : Int) == 36) = true := by simp; omega
      have HX : Hid (piece s (k + 1) d i = .ok (.mk 7 Oct.none [] 0 0) (i + 1)) := by show _ = _; rw [HPC.out]; simp [byt_eq hlt, h36]
      clear h94 h36
      have HR3 : Hid (RB (w2.setCell ⟨B, 1, none⟩ (.int .i64 ((i : Int) + 1))) B s (i + 1) d) := HR2.out.at (i + 1)
      have HG3 : Hid (w.grownBy (w2.setCell ⟨B, 1, none⟩ (.int .i64 ((i : Int) + 1))) (some B)) := grown_trans HG2.out (grown_set _ _ _ _)
      have HN3 : Hid (NB (w2.setCell ⟨B, 1, none⟩ (.int .i64 ((i : Int) + 1))) R zeroNd) := HN2.out.set HRB.out _ _
      have f1 := HR2.out.frozen 1
      go_upto_region 7 with fail
      obtain ⟨w3, hw3⟩ : ∃ w3, w3 = w2.setCell ⟨B, 1, none⟩ (.int .i64 ((i : Int) + 1)) := ⟨_, rfl⟩
      rw [← hw3] at HR3 HG3 HN3 ⊢
      clear hw3 c0 c1 c2 f1
      obtain ⟨z0, z1, z2, z3, z4, z5, z6, z7⟩ := HN3.out.cells
      have y0 := HN3.out.frozen 0
      have y1 := HN3.out.frozen 1
      have y2 := HN3.out.frozen 2
      have y3 := HN3.out.frozen 3
      have y4 := HN3.out.frozen 4
      have y5 := HN3.out.frozen 5
      have y6 := HN3.out.frozen 6
      have y7 := HN3.out.frozen 7
      go_wp2
      show bodyPost _ _ _ _ _ (put8z _ R 7 none 0 0 0 0)
      rw [put8z_eq]
      refine post_node Try.f81 2 rfl rfl rfl (HN3.out.put8 _) ?_
      unfold Reads
      rw [HX.out]
      exact ⟨by omega, _, rfl, ⟨_, rfl, NodeAt.leaf _ _ 7 Oct.none 0 0 none 0⟩, put8_rb HR3.out HRB.out _, put8_grown HG3.out (by rw [HRR.out]; exact Nat.le_refl _) _⟩
    · have g2 : ((s[i].toNat : Int) == 36) = false := by simp; omega
      have HX : Hid (piece s (k + 1) d i = match atom s k d i with
        | .ok t j => repeated s t j
        | .bad a e => .bad a e
        | .out => .out) := by show _ = _; rw [HPC.out]; simp [byt_eq hlt, h94, h36]
      clear h94 h36 c0 c1 c2
      have hpo : atom s k d i ≠ .out := fun e => HO.out (by rw [HX.out, e])
      go_wp2_with fail
      refine (HP.out k (by omega) B i d s w2 ⟨HR2.out, by omega, hs, HM2.out, HB0.out, hd⟩ hlt hpo).mono ?_
      intro e w3 h3
      clear hpo
      cases hc : atom s k d i with
      | out => rw [hc] at h3; exact h3.elim
      | bad a c =>
        rw [hc] at h3 HX
        obtain ⟨rfl, hg3⟩ := h3
        have HG3 : Hid (w.grownBy w3 (some B)) := grown_trans HG2.out hg3
        clear hc hg3
        go_wp2
        refine ⟨rfl, ?_⟩
        unfold Reads
        rw [HX.out]
        exact ⟨rfl, HG3.out⟩
      | ok t j =>
        rw [hc] at h3 HX
        obtain ⟨hj, v, rfl, ⟨x, rfl, hx⟩, hr3, hg3⟩ := h3
        have HN3 : Hid (NB w3 R zeroNd) := HN2.out.grown hg3 (by have := HRB.out; simp; exact this)
        have HG3 : Hid (w.grownBy w3 (some B)) := grown_trans HG2.out hg3
        have hz2 : w.heap.size + 1 ≤ w2.heap.size := by have := HN2.out.lt; have := HRR.out; omega
        have HX3 : Hid (NodeAt (fun b => w.heap.size + 1 ≤ b) w3 t x) := hx.keep (fun b hb _ => by omega) (fun _ _ _ => rfl)
        have HR3 : Hid (RB w3 B s j d) := hr3
        have HZ3 : Hid (w.heap.size + 1 ≤ w3.heap.size) := by have := HN3.out.lt; have := HRR.out; show _ ≤ _; omega
        clear hc hg3 hr3 hx hz2
        go_wp2_with fail
        refine (repeated_walk B j d (w.heap.size + 1) s t x w3 HR3.out hj hs HX3.out (by have := HBW.out; omega) HZ3.out).mono ?_
        intro e w4 h4
        cases hc : repeated s t j with
        | out => rw [hc] at h4; exact h4.elim
        | bad a c =>
          rw [hc] at h4 HX
          obtain ⟨rfl, hg4⟩ := h4
          have HG4 : Hid (w.grownBy w4 (some B)) := grown_trans HG3.out hg4
          clear hc hg4
          go_wp2
          refine ⟨rfl, ?_⟩
          unfold Reads
          rw [HX.out]
          exact ⟨rfl, HG4.out⟩
        | ok t2 j2 =>
          rw [hc] at h4 HX
          obtain ⟨hj2, v, rfl, ⟨y, rfl, hy⟩, hr4, hg4⟩ := h4
          have HN4 : Hid (NB w4 R zeroNd) := HN3.out.grown hg4 (by have := HRB.out; simp; exact this)
          have HG4 : Hid (w.grownBy w4 (some B)) := grown_trans HG3.out hg4
          have HY4 : Hid (NodeAt (fun b => w.heap.size + 1 ≤ b) w4 t2 y) := hy
          have HR4 : Hid (RB w4 B s j2 d) := hr4
          clear hc hg4 hr4 hy HN3 HG3 HX3 HR3 HZ3
          obtain ⟨z0, z1, z2, z3, z4, z5, z6, z7⟩ := HN4.out.cells
          have y0 := HN4.out.frozen 0
          have y1 := HN4.out.frozen 1
          have y2 := HN4.out.frozen 2
          have y3 := HN4.out.frozen 3
          have y4 := HN4.out.frozen 4
          have y5 := HN4.out.frozen 5
          have y6 := HN4.out.frozen 6
          have y7 := HN4.out.frozen 7
          unfold Nd.val
          go_wp2
          refine post_node Try.f81 2 rfl rfl rfl (HN4.out.put8 y) ?_
          unfold Reads
          rw [HX.out]
          have hRR := HRR.out
          exact ⟨hj2, _, rfl, ⟨_, rfl, HY4.out.keep (fun b hb _ => by omega) (fun b hb _ => heap_put8 _ R _ b (by omega))⟩, put8_rb HR4.out HRB.out _, put8_grown HG4.out (by omega) _⟩
end Go.Proofs.Ytjmbimgofceanaa

/- A drawn region whose last operation waits for all others: each of the others shown once; the last turns the memory. -/
namespace Go.Proofs.Ytjmbimgofceanaa
open Go Go.RowKit

section
variable {P : Program} {ops : Array Oper} {Q : Exit → Act → World → Prop}
/-- each operation ahead of n is waited for by a later one -/
def covers (ops : Array Oper) (n : Nat) : Bool := (List.range n).all fun i => (List.range (n + 1)).any fun j => decide (i < j) && match ops[j]? with
  | some o => o.after.any fun e => e.on == i && Region.binds .any e
  | none => false
theorem covers_all {n : Nat} (h : covers ops n = true) {L : Nat → Bool} (hc : ∀ i o e, ops[i]? = some o → e ∈ o.after → Region.binds .any e = true → L i = true → L e.on = true) (hn : L n = true) : ∀ i, i ≤ n → L i = true := by
  suffices hs : ∀ k i, i ≤ n → n - i ≤ k → L i = true from fun i hi => hs (n - i) i hi (Nat.le_refl _)
  intro k
  induction k with
  | zero => intro i hi hk; rw [show i = n by omega]; exact hn
  | succ k ih =>
    intro i hi hk
    by_cases e : i = n
    · rw [e]; exact hn
    · have h1 := List.all_eq_true.1 h i (List.mem_range.2 (by omega))
      obtain ⟨j, hj, h2⟩ := List.any_eq_true.1 h1
      have hj := List.mem_range.1 hj
      rw [Bool.and_eq_true] at h2
      have hij := of_decide_eq_true h2.1
      have h3 := h2.2
      cases ho : ops[j]? with
      | none => rw [ho] at h3; cases h3
      | some o =>
        rw [ho] at h3
        have h3 : (o.after.any fun e => e.on == i && Region.binds .any e) = true := h3
        rw [Array.any_eq_true'] at h3
        obtain ⟨x, hx, h4⟩ := h3
        rw [Bool.and_eq_true] at h4
        have := hc j o x ho hx h4.2 (ih j (by omega) (by omega))
        rwa [eq_of_beq h4.1] at this
theorem wp_region_last {id : Nat} {a : Act} {w0 : World} (hm : P.follows .mixedOrders = true) (n : Nat) (hn : ops.size = n + 1) (D : Nat → Nat) (R : Nat → Value → World → Prop) (F0 : Act → Prop)
    (hup : ∀ i v w w', R i v w → Below w.heap.size w w' → R i v w')
    (hF0 : ∀ a i v, i < n → F0 a → F0 (a.put (some (D i)) v)) (hsz : ∀ a i, i < n → F0 a → D i < a.tmps.size)
    (hinj : ∀ i j, i < n → j < n → D i = D j → i = j)
    (hcov : covers ops n = true)
    (hduty : AllFrom (fun i o => (i < n → o.guard = none ∧ Duty P ops w0 D R F0 i o) ∧ (n ≤ i → o.guard = none ∧ (∀ e ∈ o.after, e.on < n) ∧ ∀ a w, F0 a → Below w0.heap.size w0 w → (∀ i, i < n → R i (T a (D i)) w) → o.wp P a w (Q .normal) Q)) 0 ops.toList)
    (h0 : F0 a) : (Code.region id ops true).wp P Q a w0 := by
  have hd : ∀ i o, ops[i]? = some o → i < n → o.guard = none ∧ Duty P ops w0 D R F0 i o := fun i o ho hi => by
    have := allFrom_at hduty i o (by simpa using ho)
    rw [Nat.zero_add] at this
    exact this.1 hi
  have hlast : ∀ o, ops[n]? = some o → o.guard = none ∧ (∀ e ∈ o.after, e.on < n) ∧ ∀ a w, F0 a → Below w0.heap.size w0 w → (∀ i, i < n → R i (T a (D i)) w) → o.wp P a w (Q .normal) Q := fun o ho => by
    have := allFrom_at hduty n o (by simpa using ho)
    rw [Nat.zero_add] at this
    exact this.2 (Nat.le_refl _)
  refine wp_region_inv hm (fun L a w => (∀ i o e, ops[i]? = some o → e ∈ o.after → Region.binds .any e = true → L i = true → L e.on = true) ∧ (L n = true → Q .normal a w) ∧ (L n = false → F0 a ∧ Below w0.heap.size w0 w ∧ ∀ i, i < n → L i = true → R i (T a (D i)) w)) ?wf ?step ?fin ?zero
  case wf =>
    intro i o e ho he _
    have hi := (Array.getElem?_eq_some_iff.1 ho).1
    by_cases hl : i < n
    · exact (hd i o ho hl).2.2.1 e he
    · have : i = n := by omega
      subst this
      exact (hlast o ho).2.1 e he
  case zero =>
    intro L hL
    refine ⟨fun i o e ho _ _ h => ?_, fun h => ?_, fun _ => ⟨h0, (Below.refl _ _).drew, fun i hi h => ?_⟩⟩
    · rw [hL i (Array.getElem?_eq_some_iff.1 ho).1] at h; cases h
    · rw [hL n (by omega)] at h; cases h
    · rw [hL i (by omega)] at h; cases h
  case fin =>
    intro L a w hL hI
    exact hI.2.1 (hL n (by omega))
  case step =>
    intro i o ho
    have hi := (Array.getElem?_eq_some_iff.1 ho).1
    have hclose : ∀ L : Nat → Bool, (∀ i o e, ops[i]? = some o → e ∈ o.after → Region.binds .any e = true → L i = true → L e.on = true) → (∀ e ∈ o.after, Region.binds .any e = true → L e.on = true) → ∀ j p e, ops[j]? = some p → e ∈ p.after → Region.binds .any e = true → more L i j = true → more L i e.on = true := fun L h1 h2 j p e hp he hb hj => by
      unfold more at hj ⊢
      by_cases hji : j = i
      · subst hji
        rw [ho] at hp
        cases hp
        simp [h2 e he hb]
      · rw [if_neg hji] at hj
        simp [h1 j p e hp he hb hj]
    by_cases hl : i < n
    · obtain ⟨hg, hdst, hlt, hst⟩ := hd i o ho hl
      refine ⟨hg, fun L a w hI hLi hE => ?_⟩
      have hLn : L n = false := by
        cases h : L n with
        | false => rfl
        | true => rw [covers_all hcov hI.1 h i (by omega)] at hLi; cases hLi
      obtain ⟨hF, hB, hR⟩ := hI.2.2 hLn
      have hw := (hst a w hF hB (fun e he hb => hR e.on (Nat.lt_trans (hlt e he) hl) (hE e he hb))).1 (wanted_free hg) Q
      refine Oper.wp_mono ?_ hw
      rintro a' w' ⟨v, rfl, hb, hr⟩
      have hne : n ≠ i := by omega
      have hmn : more L i n = L n := by unfold more; rw [if_neg hne]
      refine ⟨hclose L hI.1 hE, fun h => absurd (hmn.symm.trans h) (by rw [hLn]; simp), fun _ => ?_⟩
      rw [hdst]
      refine ⟨hF0 a i v hl hF, below_step hB hb, fun j hj hmj => ?_⟩
      by_cases hji : j = i
      · subst hji
        unfold T
        rw [put_same (hsz a j hl hF)]
        exact hr
      · unfold T
        rw [put_other (fun e => hji (hinj i j hl hj e).symm)]
        have : L j = true := by unfold more at hmj; rwa [if_neg hji] at hmj
        exact hup j _ _ _ (hR j hj this) hb
    · have : i = n := by omega
      subst this
      obtain ⟨hg, hlt, hst⟩ := hlast o ho
      refine ⟨hg, fun L a w hI hLi hE => ?_⟩
      obtain ⟨hF, hB, hR⟩ := hI.2.2 hLi
      have hall := covers_all hcov (L := more L i) (hclose L hI.1 hE) (by simp [more])
      have hall' : ∀ j, j < i → L j = true := fun j hj => by
        have := hall j (by omega)
        unfold more at this
        rwa [if_neg (by omega)] at this
      refine Oper.wp_mono ?_ (hst a w hF hB (fun j hj => hR j hj (hall' j hj)))
      intro a' w' hq
      exact ⟨hclose L hI.1 hE, fun _ => hq, fun h => by simp [more] at h⟩
variable {w0 : World} {D : Nat → Nat} {R : Nat → Value → World → Prop} {F0 : Act → Prop} {i : Nat} {o : Oper} {a : Act} {w : World} {r : Value → World → Prop}
attribute [local go_sem] Oper.semAt_some
theorem ob_nil {p : Nat} {ad : Addr} (ho : o.op = .nilCheck (.tmp p)) (hx : T a p = .pointer (some ad)) (hr : r (.pointer (some ad)) w) : o.wp Try.prog a w (Leaves r o a w) Q := by
  obtain ⟨dst, op, type, pos, after, guard⟩ := o
  simp only at ho
  subst ho
  refine ob_value (v := .pointer (some ad)) (w' := w) ?_ (Below.refl _ _) hr
  simp [execOp, Act.eval, hx, go_sem]
set_option maxRecDepth 10000 in
theorem ob_text {p B : Nat} (ho : o.op = .fieldAddr 85 (.tmp p) 0) (hx : T a p = .pointer (some ⟨B, 0, none⟩)) (hr : r (.pointer (some ⟨B, 0, none⟩)) w) : o.wp Try.prog a w (Leaves r o a w) Q := by
  obtain ⟨dst, op, type, pos, after, guard⟩ := o
  simp only at ho
  subst ho
  refine ob_value (v := .pointer (some ⟨B, 0, none⟩)) (w' := w) ?_ (Below.refl _ _) hr
  simp [execOp, Act.eval, hx, go_sem]
set_option maxRecDepth 10000 in
theorem ob_at {p B : Nat} (ho : o.op = .fieldAddr 85 (.tmp p) 1) (hx : T a p = .pointer (some ⟨B, 0, none⟩)) (hr : r (.pointer (some ⟨B, 1, none⟩)) w) : o.wp Try.prog a w (Leaves r o a w) Q := by
  obtain ⟨dst, op, type, pos, after, guard⟩ := o
  simp only at ho
  subst ho
  refine ob_value (v := .pointer (some ⟨B, 1, none⟩)) (w' := w) ?_ (Below.refl _ _) hr
  simp [execOp, Act.eval, hx, go_sem]
theorem ob_load9 {p : Nat} {ad : Addr} {v : ByteArray} (ho : o.op = .load 9 (.tmp p)) (hx : T a p = .pointer (some ad)) (hc : w.cell? ad = some (.string v)) (hr : r (.string v) w) : o.wp Try.prog a w (Leaves r o a w) Q := by
  obtain ⟨dst, op, type, pos, after, guard⟩ := o
  simp only at ho
  subst ho
  refine ob_value (v := .string v) (w' := w) ?_ (Below.refl _ _) hr
  simp [execOp, Act.eval, hx, go_sem, hc]
theorem ob_load3 {p : Nat} {ad : Addr} {v : Int} (ho : o.op = .load 3 (.tmp p)) (hx : T a p = .pointer (some ad)) (hc : w.cell? ad = some (.int .i64 v)) (hr : r (.int .i64 v) w) : o.wp Try.prog a w (Leaves r o a w) Q := by
  obtain ⟨dst, op, type, pos, after, guard⟩ := o
  simp only at ho
  subst ho
  refine ob_value (v := .int .i64 v) (w' := w) ?_ (Below.refl _ _) hr
  simp [execOp, Act.eval, hx, go_sem, hc]
theorem ob_index9 {p q : Nat} {s : ByteArray} {k : Nat} (ho : o.op = .index 9 (.tmp p) (.tmp q)) (hx : T a p = .string s) (hy : T a q = .int .i64 (k : Nat)) (hk : k < s.size) (hr : r (.int .u8 (s[k].toNat : Nat)) w) : o.wp Try.prog a w (Leaves r o a w) Q := by
  obtain ⟨dst, op, type, pos, after, guard⟩ := o
  simp only at ho
  subst ho
  have hk' : (k : Int) < (s.size : Int) := by omega
  refine ob_value (v := .int .u8 (s[k].toNat : Nat)) (w' := w) ?_ (Below.refl _ _) hr
  simp [execOp, Act.eval, hx, hy, go_sem, hk']
set_option maxRecDepth 10000 in
theorem ob_slice1b {p b : Nat} (ho : o.op = .buildSlice 118 1 #[(0, .tmp p)]) (hty : o.type = 118) (hp : T a p = .int .u8 (b : Nat)) (hr : ∀ g w', BytesAt w' (some ⟨g, 0, none⟩) [b] → r (.slice (some ⟨g, 0, none⟩) 1 1) w') : o.wp Try.prog a w (Leaves r o a w) Q := by
  obtain ⟨dst, op, type, pos, after, guard⟩ := o
  simp only at ho hty
  subst ho hty
  refine ob_value (w' := w.alloc (.cells ([b].map (fun b : Nat => Value.int .u8 (b : Nat))).toArray 5)) ?_ ((Below.refl _ _).alloc (Nat.le_refl _) _) (hr _ _ (bytesAt_new w [b] 5 (0, 0)))
  simp [execOp, Act.eval, hp, go_sem]
theorem enters66 : Enters 89 := fun args w => by simp [go_sem]
end
end Go.Proofs.Ytjmbimgofceanaa

