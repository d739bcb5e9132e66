/- ere's atom. -/
import Derived.Test.YtjmbimgofceanaaG17
namespace Go.Proofs.Ytjmbimgofceanaa
open Go.RowKit
attribute [local go_sem ↓] Go.wp_at_zero Go.wp_at_succ

set_option maxRecDepth 4000 in
set_option maxHeartbeats 8000000 in
theorem atom_walk (n : Nat) (H : ∀ m, m < n → GroupOK m) : AtomOK n := by
  intro B i d s w pre hlt hout
  obtain ⟨k, rfl⟩ : ∃ k, n = k + 1 := by
    cases n with
    | zero => exact absurd (by simp [atom]) hout
    | succ k => exact ⟨k, rfl⟩
  have HO : Hid (atom s (k + 1) d i ≠ .out) := hout
  have HP : Hid (∀ m, m < k + 1 → GroupOK m) := H
  have HPC : Hid (atom s (k + 1) d i = if byt s i ∈ [42, 43, 63, 123] then .bad i 44
    else if byt s i = 40 then group s k d i
    else if byt s i = 91 then
      match setOf s k i with
      | .ok a j => .ok (setT a) j
      | .bad a e => .bad a e
      | .out => .out
    else if byt s i = 46 then .ok (setT ordinary) (i + 1)
    else if byt s i = 92 then
      if i + 1 = s.size || !(escapable (byt s (i + 1))) then .bad i 46 else .ok (setT (Oct.has [byt s (i + 1)])) (i + 2)
    else .ok (setT (Oct.has [byt s i])) (i + 1)) := by show _ = _; rw [atom]; rfl
  have hi := pre.hi
  have hs := pre.hs
  have hd := pre.hd
  have HB0 : Hid (B ≠ 0) := pre.hB0
  have HBW : Hid (B < w.heap.size) := pre.rd.lt
  obtain ⟨w0, hw0⟩ : ∃ w0, w0 = w.alloc (.cells #[.int .i64 0, .int .u64 0, .int .u64 0, .int .u64 0, .int .u64 0, .slice none 0 0, .int .i64 0, .int .i64 0] 30) := ⟨_, rfl⟩
  obtain ⟨w1, hw1⟩ : ∃ w1, w1 = w0.alloc (.cells #[.int .u64 0, .int .u64 0, .int .u64 0, .int .u64 0] 27) := ⟨_, rfl⟩
  have z0 : w0.heap.size = w.heap.size + 1 := by rw [hw0]; simp
  have k0 : Below w.heap.size w w0 := by rw [hw0]; exact (Below.refl _ _).alloc (Nat.le_refl _) _
  have k1 : Below w0.heap.size w0 w1 := by rw [hw1]; exact (Below.refl _ _).alloc (Nat.le_refl _) _
  have HS1 : Hid (At w s B w.heap.size (w.heap.size + 1) d w1 i Oct.none) :=
    ⟨by have hb0 : NB w0 w.heap.size zeroNd := (by rw [hw0]; exact nb_zero w); exact hb0.later k1, by have hb1 : SB w1 w0.heap.size Oct.none := (by rw [hw1]; exact sb_zero w0); rw [z0] at hb1; exact hb1, (pre.rd.later k0).later k1, (pre.gm.later k0).later k1, grown_below (grown_below (grown_refl _ _) k0) k1, rfl, rfl, pre.rd.lt, pre.hB0⟩
  have HW1 : Hid (w0.alloc (.cells #[.int .u64 0, .int .u64 0, .int .u64 0, .int .u64 0] 27) = w1) := hw1.symm
  have HW0 : Hid (w.alloc (.cells #[.int .i64 0, .int .u64 0, .int .u64 0, .int .u64 0, .int .u64 0, .slice none 0 0, .int .i64 0, .int .i64 0] 30) = w0) := hw0.symm
  obtain ⟨R, hR⟩ : ∃ R, R = w.heap.size := ⟨_, rfl⟩
  obtain ⟨A, hA⟩ : ∃ A, A = w.heap.size + 1 := ⟨_, rfl⟩
  rw [← hA, ← hR] at HS1
  have HRR : Hid (R = w.heap.size) := hR
  have HAA : Hid (A = w.heap.size + 1) := hA
  clear hw0 hw1 z0 k0 k1 pre hout H hR hA
  obtain ⟨c0, c1, c2⟩ := HS1.out.rd.cells
  have hi3 : i ≤ 1024 := by omega
  have hlt' : (i : Int) < (s.size : Int) := by omega
  go_enter Try.func83, Try.ntmps83
  go_upto_region 2 with fail
  rw [HW0.out, HW1.out, ← HRR.out, show R + 1 = A by rw [HAA.out, HRR.out]]
  clear HW0 HW1
  go_quiet (fail)
  have HS2 : Hid (At w s B R A d (w1.drewN nq) i Oct.none) := HS1.out.later (below_drewN _ _ _)
  obtain ⟨w2, hw2⟩ : ∃ w2, w2 = w1.drewN nq := ⟨_, rfl⟩
  rw [← hw2] at HS2
  have HW2 : Hid (w2 = _) := hw2
  clear hw2 c0 c1 c2 HS1
  go_upto_region 3 with fail
  rw [← HW2.out]
  clear HW2
  by_cases h42 : s[i].toNat = 42
  · have g42 : ((s[i].toNat : Int) == 42) = true := by simp; omega
    have HX : Hid (atom s (k + 1) d i = .bad i 44) := by show _ = _; rw [HPC.out]; simp [byt_eq hlt, h42]
    clear h42
    obtain ⟨c0, c1, c2⟩ := HS2.out.rd.cells
    go_wp2_with fail
    refine (giveUp_any i 44 _).mono ?_
    rintro e u1 ⟨rfl, k1⟩
    go_wp2
    refine ⟨rfl, ?_⟩
    unfold Reads
    rw [HX.out]
    exact ⟨rfl, grown_below HS2.out.grown k1⟩
  · have g42 : ((s[i].toNat : Int) == 42) = false := by simp; omega
    by_cases h43 : s[i].toNat = 43
    · have g43 : ((s[i].toNat : Int) == 43) = true := by simp; omega
      have HX : Hid (atom s (k + 1) d i = .bad i 44) := by show _ = _; rw [HPC.out]; simp [byt_eq hlt, h43]
      clear h43
      obtain ⟨c0, c1, c2⟩ := HS2.out.rd.cells
      go_wp2_with fail
      refine (giveUp_any i 44 _).mono ?_
      rintro e u1 ⟨rfl, k1⟩
      go_wp2
      refine ⟨rfl, ?_⟩
      unfold Reads
      rw [HX.out]
      exact ⟨rfl, grown_below HS2.out.grown k1⟩
    · have g43 : ((s[i].toNat : Int) == 43) = false := by simp; omega
      by_cases h63 : s[i].toNat = 63
      · have g63 : ((s[i].toNat : Int) == 63) = true := by simp; omega
        have HX : Hid (atom s (k + 1) d i = .bad i 44) := by show _ = _; rw [HPC.out]; simp [byt_eq hlt, h63]
        clear h63
        obtain ⟨c0, c1, c2⟩ := HS2.out.rd.cells
        go_wp2_with fail
        refine (giveUp_any i 44 _).mono ?_
        rintro e u1 ⟨rfl, k1⟩
        go_wp2
        refine ⟨rfl, ?_⟩
        unfold Reads
        rw [HX.out]
        exact ⟨rfl, grown_below HS2.out.grown k1⟩
      · have g63 : ((s[i].toNat : Int) == 63) = false := by simp; omega
        by_cases h123 : s[i].toNat = 123
        · have g123 : ((s[i].toNat : Int) == 123) = true := by simp; omega
          have HX : Hid (atom s (k + 1) d i = .bad i 44) := by show _ = _; rw [HPC.out]; simp [byt_eq hlt, h123]
          clear h123
          obtain ⟨c0, c1, c2⟩ := HS2.out.rd.cells
          go_wp2_with fail
          refine (giveUp_any i 44 _).mono ?_
          rintro e u1 ⟨rfl, k1⟩
          go_wp2
          refine ⟨rfl, ?_⟩
          unfold Reads
          rw [HX.out]
          exact ⟨rfl, grown_below HS2.out.grown k1⟩
        · have g123 : ((s[i].toNat : Int) == 123) = false := by simp; omega
          by_cases h40 : s[i].toNat = 40
          · have g40 : ((s[i].toNat : Int) == 40) = true := by simp; omega
            have HX : Hid (atom s (k + 1) d i = group s k d i) := by show _ = _; rw [HPC.out]; simp [byt_eq hlt, h40]
            clear h42 h43 h63 h123 h40
            have hpo : group s k d i ≠ .out := fun e => HO.out (by rw [HX.out, e])
            go_wp2_with fail
            refine (HP.out k (by omega) B i d s w2 ⟨HS2.out.rd, by omega, hs, HS2.out.gm, HB0.out, hd⟩ hlt hpo).mono ?_
            intro e w3 h3
            clear hpo
            cases hc : group s k d i with
            | out => rw [hc] at h3; exact h3.elim
            | bad a c =>
              rw [hc] at h3 HX
              obtain ⟨rfl, hg3⟩ := h3
              have HG3 : Hid (w.grownBy w3 (some B)) := grown_trans HS2.out.grown hg3
              clear hc hg3
              go_wp2
              refine ⟨rfl, ?_⟩
              unfold Reads
              rw [HX.out]
              exact ⟨rfl, HG3.out⟩
            | ok t j =>
              rw [hc] at h3 HX
              obtain ⟨hj, v, rfl, ⟨x, rfl, hx⟩, hr3, hg3⟩ := h3
              have hz2 : w.heap.size + 1 ≤ w2.heap.size := by have := HS2.out.box.lt; have := HAA.out; omega
              have HX3 : Hid (NodeAt (fun b => w.heap.size + 1 ≤ b) w3 t x) := hx.keep (fun b hb _ => by omega) (fun _ _ _ => rfl)
              have HT : Hid (At w s B R A d w3 j Oct.none) := HS2.out.read hg3 hr3
              clear hc hg3 hr3 hx hz2
              obtain ⟨z0, z1, z2, z3, z4, z5, z6, z7⟩ := HT.out.res.cells
              have y0 := HT.out.res.frozen 0
              have y1 := HT.out.res.frozen 1
              have y2 := HT.out.res.frozen 2
              have y3 := HT.out.res.frozen 3
              have y4 := HT.out.res.frozen 4
              have y5 := HT.out.res.frozen 5
              have y6 := HT.out.res.frozen 6
              have y7 := HT.out.res.frozen 7
              unfold Nd.val
              go_wp2
              refine post_node Try.f83 2 rfl rfl rfl (HT.out.res.put8 x) ?_
              unfold Reads
              rw [HX.out]
              have hRR := HRR.out
              have hBW := HBW.out
              exact ⟨hj, _, rfl, ⟨_, rfl, HX3.out.keep (fun b hb _ => by omega) (fun b hb _ => heap_put8 _ R _ b (by omega))⟩, put8_rb HT.out.rd (by omega) _, put8_grown HT.out.grown (by omega) _⟩
          · have g40 : ((s[i].toNat : Int) == 40) = false := by simp; omega
            by_cases h91 : s[i].toNat = 91
            · have g91 : ((s[i].toNat : Int) == 91) = true := by simp; omega
              have HXX : Hid (atom s (k + 1) d i = match setOf s k i with
                | .ok a j => .ok (setT a) j
                | .bad a e => .bad a e
                | .out => .out) := by show _ = _; rw [HPC.out]; simp [byt_eq hlt, h91]
              clear h42 h43 h63 h123 h40 h91
              have hpo : setOf s k i ≠ .out := fun e => HO.out (by rw [HXX.out, e])
              go_wp2_with fail
              refine (set_walk B i d k s w2 HS2.out.rd hlt hs HS2.out.gm HB0.out hpo).mono ?_
              intro e w3 h3
              clear hpo
              cases hc : setOf s k i with
              | out => rw [hc] at h3; exact h3.elim
              | bad a c =>
                rw [hc] at h3 HXX
                obtain ⟨rfl, hg3⟩ := h3
                have HG3 : Hid (w.grownBy w3 (some B)) := grown_trans HS2.out.grown hg3
                clear hc hg3
                go_wp2
                refine ⟨rfl, ?_⟩
                unfold Reads
                rw [HXX.out]
                exact ⟨rfl, HG3.out⟩
              | ok x j =>
                rw [hc] at h3 HXX
                obtain ⟨hj, v, rfl, rfl, hr3, hg3⟩ := h3
                have HX : Hid (atom s (k + 1) d i = .ok (setT x) j) := HXX.out
                have HS3 : Hid (At w s B R A d w3 j Oct.none) := HS2.out.read hg3 hr3
                have HT : Hid (At w s B R A d (put4 w3 A x) j x) := HS3.out.put x
                clear hc hg3 hr3
                obtain ⟨b0, b1, b2, b3⟩ := HS3.out.box.cells
                have q0 := HS3.out.box.frozen 0
                have q1 := HS3.out.box.frozen 1
                have q2 := HS3.out.box.frozen 2
                have q3 := HS3.out.box.frozen 3
                unfold setV
                go_upto_region 19 with fail
                obtain ⟨w4, hw4⟩ : ∃ w4, w4 = put4 w3 A x := ⟨_, rfl⟩
                rw [← hw4] at HT
                show Code.wp _ _ _ _ (put4 w3 A x)
                rw [← hw4]
                clear hw4 b0 b1 b2 b3 q0 q1 q2 q3
                obtain ⟨b0, b1, b2, b3⟩ := HT.out.box.cells
                obtain ⟨z0, z1, z2, z3, z4, z5, z6, z7⟩ := HT.out.res.cells
                have y0 := HT.out.res.frozen 0
                have y1 := HT.out.res.frozen 1
                have y2 := HT.out.res.frozen 2
                have y3 := HT.out.res.frozen 3
                have y4 := HT.out.res.frozen 4
                have y5 := HT.out.res.frozen 5
                have y6 := HT.out.res.frozen 6
                have y7 := HT.out.res.frozen 7
                go_wp2
                refine post_node Try.f83 2 rfl rfl rfl (HT.out.res.put8 ⟨(2 : Nat), x, none, 0, 0, 0, 0⟩) ?_
                rw [HX.out]
                exact HT.out.fin (by omega)
            · have g91 : ((s[i].toNat : Int) == 91) = false := by simp; omega
              by_cases h46 : s[i].toNat = 46
              · have g46 : ((s[i].toNat : Int) == 46) = true := by simp; omega
                have HX : Hid (atom s (k + 1) d i = .ok (setT ordinary) (i + 1)) := by show _ = _; rw [HPC.out]; simp [byt_eq hlt, h46]
                clear h42 h43 h63 h123 h40 h91 h46
                go_wp2_with fail
                refine (ordinary_any w2).mono ?_
                rintro e w3 ⟨rfl, k3⟩
                have HS3 : Hid (At w s B R A d w3 i Oct.none) := HS2.out.later k3
                have HS4 : Hid (At w s B R A d (put4 w3 A ordinary) i ordinary) := HS3.out.put ordinary
                clear k3
                obtain ⟨b0, b1, b2, b3⟩ := HS3.out.box.cells
                have q0 := HS3.out.box.frozen 0
                have q1 := HS3.out.box.frozen 1
                have q2 := HS3.out.box.frozen 2
                have q3 := HS3.out.box.frozen 3
                unfold setV
                go_upto_region 15 with fail
                obtain ⟨w4, hw4⟩ : ∃ w4, w4 = put4 w3 A ordinary := ⟨_, rfl⟩
                rw [← hw4] at HS4
                show Code.wp _ _ _ _ (put4 w3 A ordinary)
                rw [← hw4]
                clear hw4 b0 b1 b2 b3 q0 q1 q2 q3
                obtain ⟨c0, c1, c2⟩ := HS4.out.rd.cells
                have f1 := HS4.out.rd.frozen 1
                have HR9 : RB (w4.setCell ⟨B, 1, none⟩ (.int .i64 ((i : Int) + 1))) B s (i + 1) d := HS4.out.rd.at (i + 1)
                have HT : Hid (At w s B R A d (w4.setCell ⟨B, 1, none⟩ (.int .i64 ((i : Int) + 1))) (i + 1) _) := HS4.out.read (grown_set _ _ _ _) HR9
                clear HR9
                go_upto_region 19 with fail
                obtain ⟨w9, hw9⟩ : ∃ w9, w9 = w4.setCell ⟨B, 1, none⟩ (.int .i64 ((i : Int) + 1)) := ⟨_, rfl⟩
                rw [← hw9] at HT ⊢
                clear hw9 c0 c1 c2 f1
                obtain ⟨b0, b1, b2, b3⟩ := HT.out.box.cells
                obtain ⟨z0, z1, z2, z3, z4, z5, z6, z7⟩ := HT.out.res.cells
                have y0 := HT.out.res.frozen 0
                have y1 := HT.out.res.frozen 1
                have y2 := HT.out.res.frozen 2
                have y3 := HT.out.res.frozen 3
                have y4 := HT.out.res.frozen 4
                have y5 := HT.out.res.frozen 5
                have y6 := HT.out.res.frozen 6
                have y7 := HT.out.res.frozen 7
                go_wp2
                refine post_node Try.f83 2 rfl rfl rfl (HT.out.res.put8 ⟨(2 : Nat), ordinary, none, 0, 0, 0, 0⟩) ?_
                rw [HX.out]
                exact HT.out.fin (by omega)
              · have g46 : ((s[i].toNat : Int) == 46) = false := by simp; omega
                by_cases h92 : s[i].toNat = 92
                · have g92 : ((s[i].toNat : Int) == 92) = true := by simp; omega
                  have HXX : Hid (atom s (k + 1) d i = if i + 1 = s.size || !(escapable (byt s (i + 1))) then .bad i 46 else .ok (setT (Oct.has [byt s (i + 1)])) (i + 2)) := by show _ = _; rw [HPC.out]; simp [byt_eq hlt, h92]
                  clear h42 h43 h63 h123 h40 h91 h46 h92
                  go_wp2_with fail
                  refine (escape_any B i d s w2 HS2.out.rd hlt hs).mono ?_
                  intro e w3 h3
                  unfold escape at h3
                  by_cases hb : (i + 1 = s.size || !(escapable (byt s (i + 1)))) = true
                  · rw [if_pos hb] at h3 HXX
                    obtain ⟨rfl, hg3⟩ := h3
                    have HG3 : Hid (w.grownBy w3 (some B)) := grown_trans HS2.out.grown hg3
                    clear hb hg3
                    go_wp2
                    refine ⟨rfl, ?_⟩
                    unfold Reads
                    rw [HXX.out]
                    exact ⟨rfl, HG3.out⟩
                  · rw [if_neg hb] at h3 HXX
                    obtain ⟨hj, v, rfl, rfl, hr3, hg3⟩ := h3
                    have HS3 : Hid (At w s B R A d w3 (i + 1) Oct.none) := HS2.out.read hg3 hr3
                    have hk0 : i + 1 < s.size := by
                      have h1 : ¬ (i + 1 = s.size) := fun e => hb (by simp [e])
                      omega
                    clear hb hg3 hr3 hj
                    obtain ⟨j, hj⟩ : ∃ j, j = i + 1 := ⟨_, rfl⟩
                    have HX : Hid (atom s (k + 1) d i = .ok (setT (Oct.has [byt s j])) (j + 1)) := by show _ = _; rw [HXX.out, hj]
                    rw [← hj] at HS3 hk0
                    have hj3 : j ≤ 1024 := by omega
                    clear hj HXX
                    go_upto_region 17 with fail
                    refine reg17 (w := w) (s := s) (B := B) (R := R) (A := A) (d := d) rfl rfl rfl HS3.out hk0 ?_
                    intro a' W' hfr hat
                    rw [fr17_lit hfr rfl]
                    have HA : Hid (At w s B R A d W' j (Oct.has [byt s j])) := hat
                    obtain ⟨v45, e45⟩ : ∃ v, v = T a' 45 := ⟨_, rfl⟩
                    obtain ⟨v46, e46⟩ : ∃ v, v = T a' 46 := ⟨_, rfl⟩
                    obtain ⟨v47, e47⟩ : ∃ v, v = T a' 47 := ⟨_, rfl⟩
                    obtain ⟨v48, e48⟩ : ∃ v, v = T a' 48 := ⟨_, rfl⟩
                    obtain ⟨v49, e49⟩ : ∃ v, v = T a' 49 := ⟨_, rfl⟩
                    obtain ⟨v50, e50⟩ : ∃ v, v = T a' 50 := ⟨_, rfl⟩
                    obtain ⟨v51, e51⟩ : ∃ v, v = T a' 51 := ⟨_, rfl⟩
                    obtain ⟨v52, e52⟩ : ∃ v, v = T a' 52 := ⟨_, rfl⟩
                    obtain ⟨v53, e53⟩ : ∃ v, v = T a' 53 := ⟨_, rfl⟩
                    obtain ⟨v54, e54⟩ : ∃ v, v = T a' 54 := ⟨_, rfl⟩
                    obtain ⟨v55, e55⟩ : ∃ v, v = T a' 55 := ⟨_, rfl⟩
                    rw [← e45, ← e46, ← e47, ← e48, ← e49, ← e50, ← e51, ← e52, ← e53, ← e54, ← e55]
                    clear e45 e46 e47 e48 e49 e50 e51 e52 e53 e54 e55 hfr hat
                    rename_i hK2
                    obtain ⟨c0, c1, c2⟩ := HA.out.rd.cells
                    have f1 := HA.out.rd.frozen 1
                    have HR9 : RB (W'.setCell ⟨B, 1, none⟩ (.int .i64 ((j : Int) + 1))) B s (j + 1) d := HA.out.rd.at (j + 1)
                    have HT : Hid (At w s B R A d (W'.setCell ⟨B, 1, none⟩ (.int .i64 ((j : Int) + 1))) (j + 1) _) := HA.out.read (grown_set _ _ _ _) HR9
                    clear HR9
                    go_upto_region 19 with fail
                    obtain ⟨w9, hw9⟩ : ∃ w9, w9 = W'.setCell ⟨B, 1, none⟩ (.int .i64 ((j : Int) + 1)) := ⟨_, rfl⟩
                    rw [← hw9] at HT ⊢
                    clear hw9 c0 c1 c2 f1
                    obtain ⟨b0, b1, b2, b3⟩ := HT.out.box.cells
                    obtain ⟨z0, z1, z2, z3, z4, z5, z6, z7⟩ := HT.out.res.cells
                    have y0 := HT.out.res.frozen 0
                    have y1 := HT.out.res.frozen 1
                    have y2 := HT.out.res.frozen 2
                    have y3 := HT.out.res.frozen 3
                    have y4 := HT.out.res.frozen 4
                    have y5 := HT.out.res.frozen 5
                    have y6 := HT.out.res.frozen 6
                    have y7 := HT.out.res.frozen 7
                    go_wp2
                    refine post_node Try.f83 2 rfl rfl rfl (HT.out.res.put8 ⟨(2 : Nat), Oct.has [byt s j], none, 0, 0, 0, 0⟩) ?_
                    rw [HX.out]
                    exact HT.out.fin (by omega)
                · have g92 : ((s[i].toNat : Int) == 92) = false := by simp; omega
                  have HX : Hid (atom s (k + 1) d i = .ok (setT (Oct.has [byt s i])) (i + 1)) := by show _ = _; rw [HPC.out]; simp [byt_eq hlt, h42, h43, h63, h123, h40, h91, h46, h92]
                  clear h42 h43 h63 h123 h40 h91 h46 h92
                  go_upto_region 17 with fail
                  refine reg17 (w := w) (s := s) (B := B) (R := R) (A := A) (d := d) rfl rfl rfl HS2.out hlt ?_
                  intro a' W' hfr hat
                  rw [fr17_lit hfr rfl]
                  have HA : Hid (At w s B R A d W' i (Oct.has [byt s i])) := hat
                  obtain ⟨v45, e45⟩ : ∃ v, v = T a' 45 := ⟨_, rfl⟩
                  obtain ⟨v46, e46⟩ : ∃ v, v = T a' 46 := ⟨_, rfl⟩
                  obtain ⟨v47, e47⟩ : ∃ v, v = T a' 47 := ⟨_, rfl⟩
                  obtain ⟨v48, e48⟩ : ∃ v, v = T a' 48 := ⟨_, rfl⟩
                  obtain ⟨v49, e49⟩ : ∃ v, v = T a' 49 := ⟨_, rfl⟩
                  obtain ⟨v50, e50⟩ : ∃ v, v = T a' 50 := ⟨_, rfl⟩
                  obtain ⟨v51, e51⟩ : ∃ v, v = T a' 51 := ⟨_, rfl⟩
                  obtain ⟨v52, e52⟩ : ∃ v, v = T a' 52 := ⟨_, rfl⟩
                  obtain ⟨v53, e53⟩ : ∃ v, v = T a' 53 := ⟨_, rfl⟩
                  obtain ⟨v54, e54⟩ : ∃ v, v = T a' 54 := ⟨_, rfl⟩
                  obtain ⟨v55, e55⟩ : ∃ v, v = T a' 55 := ⟨_, rfl⟩
                  rw [← e45, ← e46, ← e47, ← e48, ← e49, ← e50, ← e51, ← e52, ← e53, ← e54, ← e55]
                  clear e45 e46 e47 e48 e49 e50 e51 e52 e53 e54 e55 hfr hat
                  rename_i hK2
                  obtain ⟨c0, c1, c2⟩ := HA.out.rd.cells
                  have f1 := HA.out.rd.frozen 1
                  have HR9 : RB (W'.setCell ⟨B, 1, none⟩ (.int .i64 ((i : Int) + 1))) B s (i + 1) d := HA.out.rd.at (i + 1)
                  have HT : Hid (At w s B R A d (W'.setCell ⟨B, 1, none⟩ (.int .i64 ((i : Int) + 1))) (i + 1) _) := HA.out.read (grown_set _ _ _ _) HR9
                  clear HR9
                  go_upto_region 19 with fail
                  obtain ⟨w9, hw9⟩ : ∃ w9, w9 = W'.setCell ⟨B, 1, none⟩ (.int .i64 ((i : Int) + 1)) := ⟨_, rfl⟩
                  rw [← hw9] at HT ⊢
                  clear hw9 c0 c1 c2 f1
                  obtain ⟨b0, b1, b2, b3⟩ := HT.out.box.cells
                  obtain ⟨z0, z1, z2, z3, z4, z5, z6, z7⟩ := HT.out.res.cells
                  have y0 := HT.out.res.frozen 0
                  have y1 := HT.out.res.frozen 1
                  have y2 := HT.out.res.frozen 2
                  have y3 := HT.out.res.frozen 3
                  have y4 := HT.out.res.frozen 4
                  have y5 := HT.out.res.frozen 5
                  have y6 := HT.out.res.frozen 6
                  have y7 := HT.out.res.frozen 7
                  go_wp2
                  refine post_node Try.f83 2 rfl rfl rfl (HT.out.res.put8 ⟨(2 : Nat), Oct.has [byt s i], none, 0, 0, 0, 0⟩) ?_
                  rw [HX.out]
                  exact HT.out.fin (by omega)
end Go.Proofs.Ytjmbimgofceanaa
