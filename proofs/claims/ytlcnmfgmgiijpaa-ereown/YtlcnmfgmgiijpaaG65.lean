/- All of ere's reader, its lists in blocks of their own. -/
import Derived.Test.YtlcnmfgmgiijpaaG64
import Derived.Test.YtlcnmfgmgiijpaaG17
import Derived.Test.YtlcnmfgmgiijpaaG21
import Derived.Test.YtlcnmfgmgiijpaaG23
namespace Go.Proofs.Ytlcnmfgmgiijpaa.Ow
open Go.RowKit

theorem all_ok : ∀ n, PatOK n ∧ AltOK n ∧ PieceOK n ∧ AtomOK n ∧ GroupOK n := by
  intro n
  induction n using Nat.strongRecOn with
  | ind n ih => exact ⟨pat_walk n (fun m h => (ih m h).2.1), alt_walk n (fun m h => (ih m h).2.2.1), piece_walk n (fun m h => (ih m h).2.2.2.1), atom_walk n (fun m h => (ih m h).2.2.2.2), group_walk n (fun m h => (ih m h).1)⟩
theorem pattern_any (B : Nat) (s : ByteArray) (w : World) (h : Pre w B s 0 0) : Calls Try.prog 39 #[.pointer (some ⟨B, 0, none⟩)] w (Reads w B s 0 (patOf s) (TreeV w.heap.size)) := (all_ok _).1 B 0 0 s w h (patOf_out s)
end Go.Proofs.Ytlcnmfgmgiijpaa.Ow

/- ere's whole, its lists in blocks of their own. -/
namespace Go.Proofs.Ytlcnmfgmgiijpaa.Ow
open Go.RowKit
attribute [local go_sem ↓] Go.wp_at_zero Go.wp_at_succ

set_option maxRecDepth 4000 in
set_option maxHeartbeats 4000000 in
theorem whole_walk (B : Nat) (s : ByteArray) (w : World) (pre : Pre w B s 0 0) (hnl : ∀ i, byt s i ≠ 10) : Calls Try.prog 33 #[.pointer (some ⟨B, 0, none⟩)] w (Reads w B s 0 (wholeOf s) (TreeV w.heap.size)) := by
  have hs := pre.hs
  have HNL : Hid (∀ i, byt s i ≠ 10) := hnl
  have HBW : Hid (B < w.heap.size) := pre.rd.lt
  have hal : Below w.heap.size w (w.alloc (.cells #[.int .i64 0, .int .u64 0, .int .u64 0, .int .u64 0, .int .u64 0, .slice none 0 0, .int .i64 0, .int .i64 0] 28)) := (Below.refl _ _).alloc (Nat.le_refl _) _
  have HN1 : Hid (NB (w.alloc (.cells #[.int .i64 0, .int .u64 0, .int .u64 0, .int .u64 0, .int .u64 0, .slice none 0 0, .int .i64 0, .int .i64 0] 28)) w.heap.size zeroNd) := nb_zero w
  have HP1 : Hid (Pre (w.alloc (.cells #[.int .i64 0, .int .u64 0, .int .u64 0, .int .u64 0, .int .u64 0, .slice none 0 0, .int .i64 0, .int .i64 0] 28)) B s 0 0) := ⟨pre.rd.later hal, pre.hi, pre.hs, pre.gm.later hal, pre.hB0, pre.hd⟩
  have HG1 : Hid (w.grownBy (w.alloc (.cells #[.int .i64 0, .int .u64 0, .int .u64 0, .int .u64 0, .int .u64 0, .slice none 0 0, .int .i64 0, .int .i64 0] 28)) (some B)) := grown_below (grown_refl _ _) hal
  obtain ⟨w1, hw1⟩ : ∃ w1, w1 = w.alloc (.cells #[.int .i64 0, .int .u64 0, .int .u64 0, .int .u64 0, .int .u64 0, .slice none 0 0, .int .i64 0, .int .i64 0] 28) := ⟨_, rfl⟩
  obtain ⟨R, hR⟩ : ∃ R, R = w.heap.size := ⟨_, rfl⟩
  rw [← hw1] at HP1 HG1 HN1
  rw [← hR] at HN1
  have HW1 : Hid (w1 = _) := hw1
  have HRR : Hid (R = _) := hR
  have HRB : Hid (R ≠ B) := by have := HBW.out; show _ ≠ _; omega
  clear hw1 hR hal pre hnl
  go_enter Try.func33, Try.ntmps33
  go_upto_region 1 with fail
  rw [← HW1.out, ← HRR.out]
  clear HW1
  go_wp2_with fail
  refine (pattern_any B s w1 HP1.out).mono ?_
  intro e w3 h3
  cases hc : patOf s with
  | out => rw [hc] at h3; exact h3.elim
  | bad a c =>
    have HX : Hid (wholeOf s = .bad a c) := by show _ = _; unfold wholeOf; rw [hc]
    rw [hc] at h3
    obtain ⟨rfl, hg3⟩ := h3
    have HG3 : Hid (w.grownBy w3 (some B)) := grown_trans HG1.out hg3
    clear hc hg3
    go_wp2
    refine ⟨rfl, ?_⟩
    unfold Reads
    rw [HX.out]
    exact ⟨rfl, HG3.out⟩
  | ok t j =>
    have HXX : Hid (wholeOf s = if j = s.size then (if 2048 < placesOf (up t) then .bad 0 48 else .ok t j) else .bad j 42) := by show _ = _; unfold wholeOf; rw [hc]
    have HGD : Hid (Good (j + 1) t) := (read_good s HNL.out _).1 _ _ _ _ hc
    rw [hc] at h3
    obtain ⟨hj, v, rfl, ⟨x, rfl, hx⟩, hr3, hg3⟩ := h3
    have hn3 : NB w3 R zeroNd := HN1.out.grown hg3 (by have := HRB.out; simp; exact this)
    have hgw3 : w.grownBy w3 (some B) := grown_trans HG1.out hg3
    have hz2 : w.heap.size + 1 ≤ w1.heap.size := by have := HN1.out.lt; have := HRR.out; omega
    have hal4 : Below w3.heap.size w3 (w3.alloc (.cells #[.int .i64 x.k, .int .u64 (Oct.word x.s 0 : Nat), .int .u64 (Oct.word x.s 1 : Nat), .int .u64 (Oct.word x.s 2 : Nat), .int .u64 (Oct.word x.s 3 : Nat), .slice x.a x.n x.c, .int .i64 x.mn, .int .i64 x.mx] 28)) := (Below.refl _ _).alloc (Nat.le_refl _) _
    have HX4 : Hid (NodeAt (fun b => w.heap.size + 1 ≤ b ∧ b < w3.heap.size) (w3.alloc (.cells #[.int .i64 x.k, .int .u64 (Oct.word x.s 0 : Nat), .int .u64 (Oct.word x.s 1 : Nat), .int .u64 (Oct.word x.s 2 : Nat), .int .u64 (Oct.word x.s 3 : Nat), .slice x.a x.n x.c, .int .i64 x.mn, .int .i64 x.mx] 28)) t x) := hx.keep (fun b hb hlt => ⟨by omega, hlt⟩) (fun b _ hlt => hal4.block b hlt)
    have HN4 : Hid (NB (w3.alloc (.cells #[.int .i64 x.k, .int .u64 (Oct.word x.s 0 : Nat), .int .u64 (Oct.word x.s 1 : Nat), .int .u64 (Oct.word x.s 2 : Nat), .int .u64 (Oct.word x.s 3 : Nat), .slice x.a x.n x.c, .int .i64 x.mn, .int .i64 x.mx] 28)) R zeroNd) := hn3.later hal4
    have HR4 : Hid (RB (w3.alloc (.cells #[.int .i64 x.k, .int .u64 (Oct.word x.s 0 : Nat), .int .u64 (Oct.word x.s 1 : Nat), .int .u64 (Oct.word x.s 2 : Nat), .int .u64 (Oct.word x.s 3 : Nat), .slice x.a x.n x.c, .int .i64 x.mn, .int .i64 x.mx] 28)) B s j 0) := hr3.later hal4
    have HG4 : Hid (w.grownBy (w3.alloc (.cells #[.int .i64 x.k, .int .u64 (Oct.word x.s 0 : Nat), .int .u64 (Oct.word x.s 1 : Nat), .int .u64 (Oct.word x.s 2 : Nat), .int .u64 (Oct.word x.s 3 : Nat), .slice x.a x.n x.c, .int .i64 x.mn, .int .i64 x.mx] 28)) (some B)) := grown_below hgw3 hal4
    have HY4 : Hid (NB (w3.alloc (.cells #[.int .i64 x.k, .int .u64 (Oct.word x.s 0 : Nat), .int .u64 (Oct.word x.s 1 : Nat), .int .u64 (Oct.word x.s 2 : Nat), .int .u64 (Oct.word x.s 3 : Nat), .slice x.a x.n x.c, .int .i64 x.mn, .int .i64 x.mx] 28)) w3.heap.size x) := nb_new w3 x
    obtain ⟨Y, hY⟩ : ∃ Y, Y = w3.heap.size := ⟨_, rfl⟩
    obtain ⟨w4, hw4⟩ : ∃ w4, w4 = w3.alloc (.cells #[.int .i64 x.k, .int .u64 (Oct.word x.s 0 : Nat), .int .u64 (Oct.word x.s 1 : Nat), .int .u64 (Oct.word x.s 2 : Nat), .int .u64 (Oct.word x.s 3 : Nat), .slice x.a x.n x.c, .int .i64 x.mn, .int .i64 x.mx] 28) := ⟨_, rfl⟩
    have HYB : Hid (Y ≠ B ∧ Y ≠ R) := ⟨by have := hr3.lt; omega, by have := hn3.lt; omega⟩
    rw [← hw4, ← hY] at HX4 HY4
    rw [← hw4] at HN4 HR4 HG4
    have HW4 : Hid (w4 = _) := hw4
    have HYY : Hid (Y = _) := hY
    clear hc hr3 hg3 hx hn3 hgw3 hz2 hal4 hw4 hY HN1 HG1 HP1
    unfold Nd.val
    go_upto_region 2 with fail
    rw [← HW4.out, ← HYY.out]
    clear HW4 HYY
    go_wp2_with fail
    refine (ended_any B j 0 s w4 HR4.out).mono ?_
    rintro e w5 ⟨rfl, k5⟩
    have HXX5 : Hid (NodeAt (fun b => w.heap.size + 1 ≤ b ∧ b < Y) w5 t x) := HX4.out.later k5
    have HN5 : Hid (NB w5 R zeroNd) := HN4.out.later k5
    have HR5 : Hid (RB w5 B s j 0) := HR4.out.later k5
    have HG5 : Hid (w.grownBy w5 (some B)) := grown_below HG4.out k5
    have HY5 : Hid (NB w5 Y x) := HY4.out.later k5
    clear k5 HX4 HN4 HR4 HG4 HY4
    by_cases hend : j = s.size
    · have HX6 : Hid (wholeOf s = if 2048 < placesOf (up t) then .bad 0 48 else .ok t j) := by show _ = _; rw [HXX.out, if_pos hend]
      rw [decide_eq_true hend]
      clear hend HXX
      obtain ⟨b0, b1, b2, b3, b4, b5, b6, b7⟩ := HY5.out.cells
      have HPL : Hid (∀ u, Below w5.heap.size w5 u → Calls Try.prog 14 #[x.val] u fun e w' => e = .returned (.int .i64 (placesOf (up t) : Nat)) ∧ Below u.heap.size u w') := fun u hu => Places_any u ((HXX5.out.later hu).plain.inAt (N := j + 1) (by omega) (by omega) HGD.out)
      unfold Nd.val at HPL
      have hpl := placesOf_le (up t)
      obtain ⟨q, hq⟩ : ∃ q, q = placesOf (up t) := ⟨_, rfl⟩
      rw [← hq] at HPL HX6 hpl
      clear hq
      go_wp2_with fail
      refine (HPL.out _ (Below.refl _ _)).mono ?_
      rintro e w6 ⟨rfl, k6⟩
      have HX7 : Hid (NodeAt (fun b => w.heap.size + 1 ≤ b ∧ b < Y) w6 t x) := HXX5.out.later k6
      have HN7 : Hid (NB w6 R zeroNd) := HN5.out.later k6
      have HR7 : Hid (RB w6 B s j 0) := HR5.out.later k6
      have HG7 : Hid (w.grownBy w6 (some B)) := grown_below HG5.out k6
      have HY7 : Hid (NB w6 Y x) := HY5.out.later k6
      clear k6 b0 b1 b2 b3 b4 b5 b6 b7 HXX5 HN5 HR5 HG5 HY5 HPL
      by_cases hq : 2048 < q
      · have HX : Hid (wholeOf s = .bad 0 48) := by show _ = _; rw [HX6.out, if_pos hq]
        go_wp2_with fail
        refine (giveUp_any 0 48 _).mono ?_
        rintro e u1 ⟨rfl, k1⟩
        go_wp2
        refine ⟨rfl, ?_⟩
        unfold Reads
        rw [HX.out]
        exact ⟨rfl, grown_below HG7.out k1⟩
      · have HX : Hid (wholeOf s = .ok t j) := by show _ = _; rw [HX6.out, if_neg hq]
        obtain ⟨b0, b1, b2, b3, b4, b5, b6, b7⟩ := HY7.out.cells
        obtain ⟨z0, z1, z2, z3, z4, z5, z6, z7⟩ := HN7.out.cells
        have y0 := HN7.out.frozen 0
        have y1 := HN7.out.frozen 1
        have y2 := HN7.out.frozen 2
        have y3 := HN7.out.frozen 3
        have y4 := HN7.out.frozen 4
        have y5 := HN7.out.frozen 5
        have y6 := HN7.out.frozen 6
        have y7 := HN7.out.frozen 7
        go_wp2
        refine post_node Try.f33 2 rfl rfl rfl (HN7.out.put8 x) ?_
        unfold Reads
        rw [HX.out]
        have hRR := HRR.out
        have hBW := HBW.out
        exact ⟨hj, _, rfl, ⟨_, rfl, HX7.out.keep (fun b hb _ => by omega) (fun b hb _ => heap_put8 _ R _ b (by omega))⟩, put8_rb HR7.out HRB.out _, put8_grown HG7.out (by omega) _⟩
    · have HX : Hid (wholeOf s = .bad j 42) := by show _ = _; rw [HXX.out, if_neg hend]
      rw [decide_eq_false hend]
      clear hend HXX
      obtain ⟨c0, c1, c2⟩ := HR5.out.cells
      go_wp2_with fail
      refine (giveUp_any j 42 _).mono ?_
      rintro e u1 ⟨rfl, k1⟩
      go_wp2
      refine ⟨rfl, ?_⟩
      unfold Reads
      rw [HX.out]
      exact ⟨rfl, grown_below HG5.out k1⟩
end Go.Proofs.Ytlcnmfgmgiijpaa.Ow

/- ere's read, its lists in blocks of their own. -/
namespace Go.Proofs.Ytlcnmfgmgiijpaa.Ow
open Go.RowKit
attribute [local go_sem ↓] Go.wp_at_zero Go.wp_at_succ

/-- what read answers -/
def ReadPost (w : World) (s : ByteArray) : Ending → World → Prop := fun e w' => Below w.heap.size w w' ∧ match wholeOf s with
  | .ok t _ => ∃ x : Nd, e = .returned (.tuple #[x.val, .int .i64 0, .int .i64 0]) ∧ NodeAt (fun b => w.heap.size ≤ b) w' t x
  | .bad i c => e = .returned (.tuple #[zeroNd.val, .int .i64 (i : Nat), .int .i64 (c : Nat)])
  | .out => False
set_option maxRecDepth 4000 in
set_option maxHeartbeats 4000000 in
theorem read_any (s : ByteArray) (w : World) (hs : s.size ≤ 1024) (hnl : ∀ i, byt s i ≠ 10) (gm : GM w) : Calls Try.prog 24 #[.string s] w (ReadPost w s) := by
  obtain ⟨w1, hw1⟩ : ∃ w1, w1 = w.alloc (.cells #[.int .i64 0, .int .u64 0, .int .u64 0, .int .u64 0, .int .u64 0, .slice none 0 0, .int .i64 0, .int .i64 0] 28) := ⟨_, rfl⟩
  obtain ⟨w2, hw2⟩ : ∃ w2, w2 = w1.alloc (.cells #[.int .i64 0] 3) := ⟨_, rfl⟩
  obtain ⟨w3, hw3⟩ : ∃ w3, w3 = w2.alloc (.cells #[.int .i64 0] 29) := ⟨_, rfl⟩
  obtain ⟨w4, hw4⟩ : ∃ w4, w4 = w3.alloc (.cells #[.string s, .int .i64 0, .int .i64 0] 64) := ⟨_, rfl⟩
  have z1 : w1.heap.size = w.heap.size + 1 := by rw [hw1]; simp
  have z2 : w2.heap.size = w.heap.size + 2 := by rw [hw2]; simp [z1]
  have z3 : w3.heap.size = w.heap.size + 3 := by rw [hw3]; simp [z2]
  have k1 : Below w.heap.size w w1 := by rw [hw1]; exact (Below.refl _ _).alloc (Nat.le_refl _) _
  have k2 : Below w1.heap.size w1 w2 := by rw [hw2]; exact (Below.refl _ _).alloc (Nat.le_refl _) _
  have k3 : Below w2.heap.size w2 w3 := by rw [hw3]; exact (Below.refl _ _).alloc (Nat.le_refl _) _
  have k4 : Below w3.heap.size w3 w4 := by rw [hw4]; exact (Below.refl _ _).alloc (Nat.le_refl _) _
  have HT : Hid (NB w4 w.heap.size zeroNd) := by
    have h : NB w1 w.heap.size zeroNd := by rw [hw1]; exact nb_zero w
    exact ((h.later k2).later k3).later k4
  have HP : Hid (IB w4 (w.heap.size + 1) 3 0) := by
    have h : IB w2 w1.heap.size 3 0 := by rw [hw2]; exact ib_new w1 3 0
    rw [z1] at h
    exact (h.later k3).later k4
  have HE : Hid (IB w4 (w.heap.size + 2) 29 0) := by
    have h : IB w3 w2.heap.size 29 0 := by rw [hw3]; exact ib_new w2 29 0
    rw [z2] at h
    exact h.later k4
  have HR : Hid (RB w4 (w.heap.size + 3) s 0 0) := by
    have h : RB w4 w3.heap.size s 0 0 := by rw [hw4]; exact rb_new w3 s
    rw [z3] at h
    exact h
  have HB : Hid (Below w.heap.size w w4) := below_step (below_step (below_step k1 k2) k3) k4
  have HG : Hid (GM w4) := (((gm.later k1).later k2).later k3).later k4
  have HNL : Hid (∀ i, byt s i ≠ 10) := hnl
  have HW1 : Hid (w.alloc (.cells #[.int .i64 0, .int .u64 0, .int .u64 0, .int .u64 0, .int .u64 0, .slice none 0 0, .int .i64 0, .int .i64 0] 28) = w1) := hw1.symm
  have HW2 : Hid (w1.alloc (.cells #[.int .i64 0] 3) = w2) := hw2.symm
  have HW3 : Hid (w2.alloc (.cells #[.int .i64 0] 29) = w3) := hw3.symm
  have HW4 : Hid (w3.alloc (.cells #[.string s, .int .i64 0, .int .i64 0] 64) = w4) := hw4.symm
  clear hw1 hw2 hw3 hw4 z1 z2 z3 k1 k2 k3 k4 hnl gm
  have hmf : ∀ (fn : Fn) (first cap : Array Value) (w : World), (Instr.makeFunc fn first cap).run Try.prog w = .ok (.func fn first cap) w := fun _ _ _ _ => rfl
  go_enter_defers Try.func24, Try.ntmps24
  go_upto_region 3 with fail
  rw [HW1.out, HW2.out, HW3.out, HW4.out]
  clear HW1 HW2 HW3 HW4 hmf
  have HN : Hid (w.heap.size = w.heap.size) := by show _ = _; rfl
  obtain ⟨B, hB⟩ : ∃ B, w.heap.size + 1 + 1 + 1 = B := ⟨_, rfl⟩
  obtain ⟨E, hE⟩ : ∃ E, w.heap.size + 1 + 1 = E := ⟨_, rfl⟩
  obtain ⟨P, hP⟩ : ∃ P, w.heap.size + 1 = P := ⟨_, rfl⟩
  obtain ⟨TB, hTB⟩ : ∃ TB, w.heap.size = TB := ⟨_, rfl⟩
  rw [hB, hE, hP]
  have HT' : Hid (NB w4 TB zeroNd) := by have := HT.out; rw [hTB] at this; exact this
  have HP' : Hid (IB w4 P 3 0) := by have := HP.out; rw [hP] at this; exact this
  have HE' : Hid (IB w4 E 29 0) := by have := HE.out; rw [show w.heap.size + 2 = E by omega] at this; exact this
  have HR' : Hid (RB w4 B s 0 0) := by have := HR.out; rw [show w.heap.size + 3 = B by omega] at this; exact this
  have HTP : Hid (TB ≠ P) := by show _ ≠ _; omega
  have HTE : Hid (TB ≠ E) := by show _ ≠ _; omega
  have HPE : Hid (P ≠ E) := by show _ ≠ _; omega
  have HTB : Hid (TB ≠ B) := by show _ ≠ _; omega
  have HPB : Hid (P ≠ B) := by show _ ≠ _; omega
  have HEB : Hid (E ≠ B) := by show _ ≠ _; omega
  have HLE : Hid (w.heap.size ≤ TB ∧ w.heap.size ≤ P ∧ w.heap.size ≤ E ∧ w.heap.size ≤ B ∧ B ≠ 0 ∧ E < B) := ⟨by omega, by omega, by omega, by omega, by omega, by omega⟩
  have HTW : Hid (w.heap.size = TB) := hTB
  rw [hTB]
  clear hB hE hP hTB HT HP HE HR HN
  go_wp2_with fail
  refine (whole_walk B s w4 ⟨HR'.out, by omega, hs, HG.out, HLE.out.2.2.2.2.1, by omega⟩ HNL.out).mono ?_
  intro r w5 h5
  cases hc : wholeOf s with
  | out => rw [hc] at h5; exact h5.elim
  | bad a c =>
    rw [hc] at h5
    obtain ⟨rfl, hg5⟩ := h5
    have hbw5 : Below w.heap.size w w5 := below_grown HB.out hg5 HLE.out.2.2.2.1
    have HB5 : Hid (Below w.heap.size w w5) := hbw5
    have HT5 : Hid (NB w5 TB zeroNd) := HT'.out.grown hg5 (by have := HTB.out; simp; exact this)
    have HP5 : Hid (IB w5 P 3 0) := HP'.out.grown hg5 (by have := HPB.out; simp; exact this)
    have HE5 : Hid (IB w5 E 29 0) := HE'.out.grown hg5 (by have := HEB.out; simp; exact this)
    have HC : Hid (wholeOf s = .bad a c) := hc
    clear hc hg5 hbw5
    go_wp2
    refine leaves_cons (f := 32) (args := #[.pointer (some ⟨TB, 0, none⟩), .pointer (some ⟨P, 0, none⟩), .pointer (some ⟨E, 0, none⟩)]) (by simp) (by simp [go_sem]) ?_
    refine (catch_panicking TB P E a c zeroNd 0 0 w5 HT5.out HP5.out HE5.out HTP.out HTE.out HPE.out w.heap.size HLE.out.1 HLE.out.2.1 HLE.out.2.2.1 HB5.out.size).mono ?_
    rintro e u' w6 ⟨rfl, rfl, q1, q2, q3, q4⟩
    have hbw : Below w.heap.size w w6 := ⟨q4.os.trans HB5.out.os, q4.tape.trans HB5.out.tape, q4.output.trans HB5.out.output, Nat.le_trans HB5.out.size q4.size, fun b hb => (q4.block b hb).trans (HB5.out.block b hb)⟩
    refine ⟨_, res24 rfl rfl rfl q1 q2 q3, hbw, ?_⟩
    rw [HC.out]
  | ok t j =>
    rw [hc] at h5
    obtain ⟨hj, v, rfl, ⟨x, rfl, hx⟩, hr5, hg5⟩ := h5
    have hbw5 : Below w.heap.size w w5 := below_grown HB.out hg5 HLE.out.2.2.2.1
    have HB5 : Hid (Below w.heap.size w w5) := hbw5
    have HT5 : Hid (NB w5 TB zeroNd) := HT'.out.grown hg5 (by have := HTB.out; simp; exact this)
    have HP5 : Hid (IB w5 P 3 0) := HP'.out.grown hg5 (by have := HPB.out; simp; exact this)
    have HE5 : Hid (IB w5 E 29 0) := HE'.out.grown hg5 (by have := HEB.out; simp; exact this)
    have HX5 : Hid (NodeAt (fun b => w4.heap.size ≤ b) w5 t x) := hx
    have HC : Hid (wholeOf s = .ok t j) := hc
    clear hc hg5 hbw5 hx hr5
    obtain ⟨z0, z1, z2, z3, z4, z5, z6, z7⟩ := HT5.out.cells
    have y0 := HT5.out.frozen 0
    have y1 := HT5.out.frozen 1
    have y2 := HT5.out.frozen 2
    have y3 := HT5.out.frozen 3
    have y4 := HT5.out.frozen 4
    have y5 := HT5.out.frozen 5
    have y6 := HT5.out.frozen 6
    have y7 := HT5.out.frozen 7
    have p0 := HP5.out.cell
    have p1 := HP5.out.frozen
    have e0 := HE5.out.cell
    have e1 := HE5.out.frozen
    have d1 := HTP.out
    have d2 := HTE.out
    have d3 := HPE.out
    unfold Nd.val
    go_wp2
    refine leaves_cons (f := 32) (args := #[.pointer (some ⟨TB, 0, none⟩), .pointer (some ⟨P, 0, none⟩), .pointer (some ⟨E, 0, none⟩)]) (by simp) (by simp [go_sem]) ?_
    refine (catch_idle ⟨TB, 0, none⟩ ⟨P, 0, none⟩ ⟨E, 0, none⟩ _).mono ?_
    rintro e u' w'' ⟨rfl, rfl, rfl⟩
    have hT6 : NB (((put8 w5 TB x).setCell ⟨P, 0, none⟩ (.int .i64 0)).setCell ⟨E, 0, none⟩ (.int .i64 0)) TB x := ((HT5.out.put8 x).set d1 _ _).set d2 _ _
    have hP6 : IB (((put8 w5 TB x).setCell ⟨P, 0, none⟩ (.int .i64 0)).setCell ⟨E, 0, none⟩ (.int .i64 0)) P 3 0 := ((HP5.out.put8 d1.symm x).put 0).other d3 _ _
    have hE6 : IB (((put8 w5 TB x).setCell ⟨P, 0, none⟩ (.int .i64 0)).setCell ⟨E, 0, none⟩ (.int .i64 0)) E 29 0 := ((HE5.out.put8 d2.symm x).other d3.symm _ _).put 0
    have hB6 : Below w.heap.size w (((put8 w5 TB x).setCell ⟨P, 0, none⟩ (.int .i64 0)).setCell ⟨E, 0, none⟩ (.int .i64 0)) := ((below_put8 HB5.out HLE.out.1 x).setCell (p := ⟨P, 0, none⟩) HLE.out.2.1 _).setCell (p := ⟨E, 0, none⟩) HLE.out.2.2.1 _
    refine ⟨_, res24 rfl rfl rfl hT6 hP6 hE6, hB6, ?_⟩
    rw [HC.out]
    have hEB := HLE.out.2.2.2.2.2
    have hz := HR'.out.lt
    have hb := HB.out.size
    have l1 := HP'.out.lt
    have l2 := HT'.out.lt
    refine ⟨x, rfl, HX5.out.keep (fun b hb _ => by omega) (fun b hb _ => ?_)⟩
    rw [Below.heap_setCell _ ⟨E, 0, none⟩ _ b (by show b ≠ E; omega), Below.heap_setCell _ ⟨P, 0, none⟩ _ b (by show b ≠ P; omega)]
    exact heap_put8 w5 TB x b (by omega)
end Go.Proofs.Ytlcnmfgmgiijpaa.Ow

/- ere.Parse, its lists in blocks of their own. -/
namespace Go.Proofs.Ytlcnmfgmgiijpaa.Ow
open Go.RowKit
attribute [local go_sem ↓] Go.wp_at_zero Go.wp_at_succ

def ParsePost (w : World) (s : ByteArray) : Ending → World → Prop := fun e w' => Below w.heap.size w w' ∧ match parseOf s with
  | .ok t _ => ∃ x : Nd, e = .returned (.tuple #[x.val, .int .i64 0, .int .i64 0]) ∧ NodeAt (fun b => w.heap.size ≤ b) w' t x
  | .bad i c => e = .returned (.tuple #[zeroNd.val, .int .i64 (i : Nat), .int .i64 (c : Nat)])
  | .out => False
set_option maxRecDepth 4000 in
set_option maxHeartbeats 4000000 in
theorem Parse_any (s : ByteArray) (w : World) (gm : GM w) : Calls Try.prog 9 #[.string s] w (ParsePost w s) := by
  have k1 : Below w.heap.size w (w.alloc (.cells #[.int .i64 0, .int .u64 0, .int .u64 0, .int .u64 0, .int .u64 0, .slice none 0 0, .int .i64 0, .int .i64 0] 28)) := (Below.refl _ _).alloc (Nat.le_refl _) _
  have HN1 : Hid (NB (w.alloc (.cells #[.int .i64 0, .int .u64 0, .int .u64 0, .int .u64 0, .int .u64 0, .slice none 0 0, .int .i64 0, .int .i64 0] 28)) w.heap.size zeroNd) := nb_zero w
  have HG1 : Hid (GM (w.alloc (.cells #[.int .i64 0, .int .u64 0, .int .u64 0, .int .u64 0, .int .u64 0, .slice none 0 0, .int .i64 0, .int .i64 0] 28))) := gm.later k1
  have HB1 : Hid (Below w.heap.size w (w.alloc (.cells #[.int .i64 0, .int .u64 0, .int .u64 0, .int .u64 0, .int .u64 0, .slice none 0 0, .int .i64 0, .int .i64 0] 28))) := k1
  obtain ⟨w1, hw1⟩ : ∃ w1, w1 = w.alloc (.cells #[.int .i64 0, .int .u64 0, .int .u64 0, .int .u64 0, .int .u64 0, .slice none 0 0, .int .i64 0, .int .i64 0] 28) := ⟨_, rfl⟩
  obtain ⟨R, hR⟩ : ∃ R, R = w.heap.size := ⟨_, rfl⟩
  rw [← hw1, ← hR] at HN1
  rw [← hw1] at HG1 HB1
  have HW1 : Hid (w.alloc (.cells #[.int .i64 0, .int .u64 0, .int .u64 0, .int .u64 0, .int .u64 0, .slice none 0 0, .int .i64 0, .int .i64 0] 28) = w1) := hw1.symm
  have HRR : Hid (w.heap.size = R) := hR.symm
  clear hw1 hR k1 gm
  obtain ⟨z0, z1, z2, z3, z4, z5, z6, z7⟩ := HN1.out.cells
  have y0 := HN1.out.frozen 0
  have y1 := HN1.out.frozen 1
  have y2 := HN1.out.frozen 2
  have y3 := HN1.out.frozen 3
  have y4 := HN1.out.frozen 4
  have y5 := HN1.out.frozen 5
  have y6 := HN1.out.frozen 6
  have y7 := HN1.out.frozen 7
  by_cases hlen : 1024 < s.size
  · have HX : Hid (parseOf s = .bad 1024 40) := by show _ = _; unfold parseOf; rw [if_pos hlen]
    have hlen' : (1024 : Int) < (s.size : Int) := by omega
    clear hlen
    go_enter Try.func9, Try.ntmps9
    go_upto_region 1 with fail
    rw [HW1.out, HRR.out]
    go_wp2
    refine post_parse (R := R) (x := zeroNd) rfl rfl rfl rfl ?_ ?_
    · show NB (put8z w1 R 0 none 0 0 0 0) R zeroNd
      rw [put8z_eq]
      exact HN1.out.put8 _
    · show ParsePost w s _ (put8z w1 R 0 none 0 0 0 0)
      rw [put8z_eq]
      refine ⟨below_put8 HB1.out (Nat.le_of_eq HRR.out) _, ?_⟩
      rw [HX.out]
      rfl
  · have hlen' : ¬ (1024 : Int) < (s.size : Int) := by omega
    have HIX : Hid (∀ v, Calls Try.prog 23 #[.string s, .int .u8 10] v fun e w' => e = .returned (.int .i64 (newlineAt s)) ∧ w' = v) := fun v => (Try.strings_IndexByte s 10 v).mono (fun _ _ h => ⟨by rw [h.1]; rfl, h.2⟩)
    have HS0 : Hid (s.size ≤ 1024) := by show _ ≤ _; omega
    have HPO : Hid (parseOf s = if 0 ≤ newlineAt s then .bad (newlineAt s).toNat 41 else wholeOf s) := by show _ = _; unfold parseOf; rw [if_neg hlen]
    have HNN : Hid (¬ 0 ≤ newlineAt s → ∀ i, byt s i ≠ 10) := no_newline
    obtain ⟨z, hz⟩ : ∃ z, z = newlineAt s := ⟨_, rfl⟩
    rw [← hz] at HIX HPO HNN
    clear hlen hz
    go_enter Try.func9, Try.ntmps9
    go_upto_region 1 with fail
    rw [HW1.out, HRR.out]
    go_wp2_with fail
    refine (HIX.out _).mono ?_
    rintro e w2 ⟨rfl, hw2⟩
    have hw2 := hw2.symm
    subst hw2
    by_cases h0 : 0 ≤ z
    · have HX : Hid (parseOf s = .bad z.toNat 41) := by show _ = _; rw [HPO.out, if_pos h0]
      go_wp2
      refine post_parse (R := R) (x := zeroNd) rfl rfl rfl rfl ?_ ?_
      · show NB (put8z _ R 0 none 0 0 0 0) R zeroNd
        rw [put8z_eq]
        exact HN1.out.put8 _
      · show ParsePost w s _ (put8z _ R 0 none 0 0 0 0)
        rw [put8z_eq]
        refine ⟨below_put8 HB1.out (Nat.le_of_eq HRR.out) _, ?_⟩
        rw [HX.out]
        show Ending.returned (.tuple #[zeroNd.val, .int .i64 z, .int .i64 41]) = _
        rw [show z = ((z.toNat : Nat) : Int) by omega]
        rfl
    · have HX : Hid (parseOf s = wholeOf s) := by show _ = _; rw [HPO.out, if_neg h0]
      have HNL : Hid (∀ i, byt s i ≠ 10) := HNN.out (by omega)
      go_wp2_with fail
      refine (read_any s _ HS0.out HNL.out HG1.out).mono ?_
      intro e w3 h3
      unfold ReadPost at h3
      obtain ⟨k3, h3⟩ := h3
      have HB3 : Hid (Below w.heap.size w w3) := below_step HB1.out k3
      have HN3 : Hid (NB w3 R zeroNd) := HN1.out.later k3
      have HZ : Hid (w.heap.size + 1 ≤ w1.heap.size) := by have := HN1.out.lt; have := HRR.out; show _ ≤ _; omega
      clear k3 z0 z1 z2 z3 z4 z5 z6 z7 y0 y1 y2 y3 y4 y5 y6 y7
      obtain ⟨z0, z1, z2, z3, z4, z5, z6, z7⟩ := HN3.out.cells
      have y0 := HN3.out.frozen 0
      have y1 := HN3.out.frozen 1
      have y2 := HN3.out.frozen 2
      have y3 := HN3.out.frozen 3
      have y4 := HN3.out.frozen 4
      have y5 := HN3.out.frozen 5
      have y6 := HN3.out.frozen 6
      have y7 := HN3.out.frozen 7
      cases hc : wholeOf s with
      | out => rw [hc] at h3; exact h3.elim
      | bad a c =>
        rw [hc] at h3 HX
        subst h3
        clear hc
        unfold Nd.val
        go_wp2
        refine post_parse (R := R) (x := zeroNd) rfl rfl rfl rfl (HN3.out.put8 zeroNd) ?_
        refine ⟨below_put8 HB3.out (Nat.le_of_eq HRR.out) zeroNd, ?_⟩
        rw [HX.out]
        rfl
      | ok t j =>
        rw [hc] at h3 HX
        obtain ⟨x, rfl, hx⟩ := h3
        have HXN : Hid (NodeAt (fun b => w.heap.size + 1 ≤ b) w3 t x) := hx.keep (fun b hb _ => Nat.le_trans HZ.out hb) (fun _ _ _ => rfl)
        clear hc hx
        unfold Nd.val
        go_wp2
        refine post_parse (R := R) (x := x) rfl rfl rfl rfl (HN3.out.put8 x) ?_
        refine ⟨below_put8 HB3.out (Nat.le_of_eq HRR.out) x, ?_⟩
        rw [HX.out]
        have hRR := HRR.out
        exact ⟨x, rfl, HXN.out.keep (fun b hb _ => by omega) (fun b hb _ => heap_put8 w3 R x b (by omega))⟩
end Go.Proofs.Ytlcnmfgmgiijpaa.Ow
