/- The document's atom of layer 4. -/
import Derived.Test.YtlcnmfgmgiijpaaG49
import Derived.Test.YtlcnmfgmgiijpaaG48
import Derived.Test.YtlcnmfgmgiijpaaG44
import Derived.Test.YtlcnmfgmgiijpaaG17
namespace Go.Proofs.Ytlcnmfgmgiijpaa
open Go.RowKit
attribute [local go_sem ↓] Go.wp_at_zero Go.wp_at_succ

theorem ordinary_leaf (base : Nat) (w : World) (y : Oct.S) : NewT base w (setT y) ⟨(2 : Nat), y, none, 0, 0, 0, 0⟩ := NewT.leaf _ _ 2 y 0 0 none 0
theorem top_id {s : ByteArray} {d : Nat} (r : Rs Tr) (h : d ≠ 0) : top s d r = r := by
  unfold top
  cases r with
  | ok t j => simp only; rw [if_neg (fun e => h e.1)]
  | bad a e => rfl
  | out => rfl
theorem esc_ten {b : Nat} (h : escapable b = true) : b ≠ 10 := fun e => by subst e; simp [escapable] at h
set_option maxRecDepth 4000 in
set_option maxHeartbeats 8000000 in
theorem ratom_walk (n : Nat) (H : ∀ m, m < n → RPatOK m) : RAtomOK n := by
  intro b0 B i d s w pre hlt hnm hout
  obtain ⟨k, rfl⟩ : ∃ k, n = k + 1 := by
    cases n with
    | zero => exact absurd (by simp [atom]) hout
    | succ k => exact ⟨k, rfl⟩
  have HO : Hid (atom s (k + 1) d i ≠ .out) := hout
  have HP : Hid (∀ m, m < k + 1 → RPatOK m) := H
  have HNL : Hid (∀ k, k < s.size → byt s k ≠ 10) := pre.nl
  have HAT : Hid (atom s (k + 1) d i = if byt s i = 40 then group s k d i
    else if byt s i = 91 then (match setOf s k i with
      | .ok a j => .ok (setT a) j
      | .bad a e => .bad a e
      | .out => .out)
    else if byt s i = 46 then .ok (setT ordinary) (i + 1)
    else if byt s i = 92 then
      if i + 1 = s.size || !(escapable (byt s (i + 1))) then .bad i 46 else .ok (setT (Oct.has [byt s (i + 1)])) (i + 2)
    else .ok (setT (Oct.has [byt s i])) (i + 1)) := by show _ = _; rw [atom, if_neg hnm]; rfl
  have hs := pre.hs
  have hd := pre.hd
  have HB0 : Hid (b0 ≤ w.heap.size) := pre.hb
  have hal : Below w.heap.size w (w.alloc (.cells #[.int .i64 0, .int .u64 0, .int .u64 0, .int .u64 0, .int .u64 0, .slice none 0 0, .int .i64 0, .int .i64 0] 28)) := (Below.refl _ _).alloc (Nat.le_refl _) _
  have HS : Hid (Ps w s b0 B w.heap.size d (w.alloc (.cells #[.int .i64 0, .int .u64 0, .int .u64 0, .int .u64 0, .int .u64 0, .slice none 0 0, .int .i64 0, .int .i64 0] 28)) i (.slice none 0 0) [] 0 0) :=
    ⟨nb_zero w, pre.rd.later hal, Fr.of_below b0 B hal, nodesT_nil _ _, rfl⟩
  obtain ⟨w1, hw1⟩ : ∃ w1, w1 = w.alloc (.cells #[.int .i64 0, .int .u64 0, .int .u64 0, .int .u64 0, .int .u64 0, .slice none 0 0, .int .i64 0, .int .i64 0] 28) := ⟨_, rfl⟩
  obtain ⟨R, hR⟩ : ∃ R, R = w.heap.size := ⟨_, rfl⟩
  rw [← hw1, ← hR] at HS
  have HW1 : Hid (w1 = _) := hw1
  have HRR : Hid (R = _) := hR
  obtain ⟨c, hc⟩ : ∃ c, c = byt s i := ⟨_, rfl⟩
  have hc256 : c < 256 := by rw [hc]; exact byt_lt s i
  have HC10 : Hid (c ≠ 10) := by rw [hc]; exact pre.nl i hlt
  rw [← hc] at HAT ⊢
  clear hw1 hR hal pre hout H hc hnm
  have hi3 : i ≤ 1024 := by omega
  obtain ⟨oo, cc, c0, c1, c2, c3, c4⟩ := HS.out.rd.cells
  have f1 := HS.out.rd.frozen 1
  have HS1 : Hid (Ps w s b0 B R d (w1.setCell ⟨B, 1, none⟩ (.int .i64 ((i : Int) + 1))) (i + 1) (.slice none 0 0) [] 0 0) := HS.out.read (Fr.set _ _ _ _ _) (HS.out.rd.at (i + 1))
  go_enter Try.func49, Try.ntmps49
  go_upto_region 1 with fail
  rw [← HW1.out, ← HRR.out]
  clear HW1
  go_upto_region 3 with fail
  obtain ⟨w2, hw2⟩ : ∃ w2, w2 = w1.setCell ⟨B, 1, none⟩ (.int .i64 ((i : Int) + 1)) := ⟨_, rfl⟩
  rw [← hw2] at HS1 ⊢
  clear hw2 c0 c1 c2 c3 c4 f1 HS
  by_cases h46 : c = 46
  · have HX : Hid (atom s (k + 1) d i = .ok (setT ordinary) (i + 1)) := by show _ = _; rw [HAT.out, if_neg (by omega), if_neg (by omega), if_pos h46]
    have g46 : ((c : Int) == 46) = true := by simp <;> omega
    clear h46 HAT
    go_wp2_with fail
    refine (rnot_zero _).mono ?_
    rintro e u3 ⟨rfl, hb3⟩
    have HS3 : Hid (Ps w s b0 B R d u3 (i + 1) (.slice none 0 0) [] 0 0) := HS1.out.later hb3
    clear hb3
    obtain ⟨y, hy⟩ : ∃ y, y = ordinary := ⟨_, rfl⟩
    rw [← hy] at HX ⊢
    clear hy
    unfold setV
    go_wp2_with fail
    refine (rset_any y _).mono ?_
    rintro e u9 ⟨rfl, hb9⟩
    have HS9 : Hid (Ps w s b0 B R d u9 (i + 1) (.slice none 0 0) [] 0 0) := HS3.out.later hb9
    clear hb9
    unfold Nd.val
    obtain ⟨z0, z1, z2, z3, z4, z5, z6, z7⟩ := HS9.out.res.cells
    have y0 := HS9.out.res.frozen 0
    have y1 := HS9.out.res.frozen 1
    have y2 := HS9.out.res.frozen 2
    have y3 := HS9.out.res.frozen 3
    have y4 := HS9.out.res.frozen 4
    have y5 := HS9.out.res.frozen 5
    have y6 := HS9.out.res.frozen 6
    have y7 := HS9.out.res.frozen 7
    go_wp2
    show bodyPost _ _ _ _ _ (put8 _ R ⟨(2 : Nat), y, none, 0, 0, 0, 0⟩)
    exact post_node Try.f49 4 rfl rfl rfl (HS9.out.res.put8 ⟨(2 : Nat), y, none, 0, 0, 0, 0⟩) (HS9.out.fin HX.out (by omega) rfl (ordinary_leaf _ _ y))
  have g46 : ((c : Int) == 46) = false := by simp <;> omega
  by_cases h92 : c = 92
  · have HXE : Hid (atom s (k + 1) d i = if i + 1 = s.size || !(escapable (byt s (i + 1))) then .bad i 46 else .ok (setT (Oct.has [byt s (i + 1)])) (i + 2)) := by show _ = _; rw [HAT.out, if_neg (by omega), if_neg (by omega), if_neg h46, if_pos h92]
    have g92 : ((c : Int) == 92) = true := by simp <;> omega
    clear h46 h92 HAT
    obtain ⟨oo, cc, c0, c1, c2, c3, c4⟩ := HS1.out.rd.cells
    obtain ⟨i1, hi1⟩ : ∃ i1, i1 = i + 1 := ⟨_, rfl⟩
    rw [← hi1] at c1 HXE
    have hi1m : i1 ≤ 1025 := by omega
    have HI1 : Hid (i1 = i + 1) := hi1
    clear hi1
    have HMO : Hid (∀ nq, Calls Try.prog 44 #[.pointer (some ⟨B, 0, none⟩), .int .i64 (i1 : Nat)] (w2.drewN nq) fun x w' => x = .returned (.bool (decide (i1 < s.size))) ∧ w' = w2.drewN nq) := fun nq => rmore_any b0 B (i + 1) d 0 0 i1 s _ (HS1.out.rd.later (below_drewN _ _ _))
    by_cases hl1 : i1 < s.size
    · have hl1' : (i1 : Int) < (s.size : Int) := by omega
      rw [decide_eq_true hl1] at HMO
      obtain ⟨b, hb⟩ : ∃ b, b = s[i1].toNat := ⟨_, rfl⟩
      have hbb : byt s i1 = b := by rw [hb]; exact byt_eq hl1
      have hb256 : b < 256 := by rw [hb]; exact UInt8.toNat_lt _
      rw [hbb, show decide (i1 = s.size) = false by simp; omega] at HXE
      have HMK : Hid (∀ nq, Calls Try.prog 54 #[.int .u8 (s[i1].toNat : Nat)] (w2.drewN nq) fun x w' => x = .returned (.bool (escapable b)) ∧ w' = w2.drewN nq) := fun nq => by rw [← hb]; exact rmarked_any b _
      cases hes : escapable b with
      | false =>
        rw [hes] at HMK HXE
        have HX : Hid (atom s (k + 1) d i = .bad i 46) := HXE.out
        clear HXE hb hbb
        go_upto_region 7 with fail
        go_quiet ((first | (go_at_call 44; exact Calls.quiet_of_same (HMO.out _)) | (go_at_call 54; exact Calls.quiet_of_same (HMK.out _))))
        have HS3 : Hid (Ps w s b0 B R d (w2.drewN nq) (i + 1) (.slice none 0 0) [] 0 0) := HS1.out.later (below_drewN _ _ _)
        obtain ⟨w3, hw3⟩ : ∃ w3, w3 = w2.drewN nq := ⟨_, rfl⟩
        have HW3 : Hid (w3 = _) := hw3
        rw [← hw3] at HS3
        clear hw3
        go_upto_region 8 with fail
        rw [← HW3.out]
        clear HW3
        go_wp2_with fail
        refine (rfault_lit b0 B (i + 1) d 46 i _ rfl s _ HS3.out.rd).mono ?_
        rintro e u6 ⟨rfl, hr6, hf6⟩
        have HS6 : Hid (Ps w s b0 B R d u6 (i + 1) (.slice none 0 0) [] 46 i) := HS3.out.read hf6 hr6
        clear hr6 hf6 c0 c1 c2 c3 c4
        unfold zeroNd Nd.val
        obtain ⟨z0, z1, z2, z3, z4, z5, z6, z7⟩ := HS6.out.res.cells
        have y0 := HS6.out.res.frozen 0
        have y1 := HS6.out.res.frozen 1
        have y2 := HS6.out.res.frozen 2
        have y3 := HS6.out.res.frozen 3
        have y4 := HS6.out.res.frozen 4
        have y5 := HS6.out.res.frozen 5
        have y6 := HS6.out.res.frozen 6
        have y7 := HS6.out.res.frozen 7
        go_wp2
        show bodyPost _ _ _ _ _ (put8 _ R zeroNd)
        exact post_node Try.f49 4 rfl rfl rfl (HS6.out.res.put8 zeroNd) (HS6.out.finB HX.out (by decide) (newT_zero _ _))
      | true =>
        rw [hes] at HMK HXE
        have HX : Hid (atom s (k + 1) d i = .ok (setT (Oct.has [b])) (i + 2)) := HXE.out
        have HB10 : Hid (b ≠ 10) := esc_ten hes
        clear HXE hbb hes
        go_upto_region 7 with fail
        go_quiet ((first | (go_at_call 44; exact Calls.quiet_of_same (HMO.out _)) | (go_at_call 54; exact Calls.quiet_of_same (HMK.out _))))
        have HS3 : Hid (Ps w s b0 B R d (w2.drewN nq) (i + 1) (.slice none 0 0) [] 0 0) := HS1.out.later (below_drewN _ _ _)
        obtain ⟨w3, hw3⟩ : ∃ w3, w3 = w2.drewN nq := ⟨_, rfl⟩
        have HW3 : Hid (w3 = _) := hw3
        rw [← hw3] at HS3
        clear hw3 c0 c1 c2 c3 c4
        go_upto_region 9 with fail
        rw [← HW3.out]
        clear HW3
        obtain ⟨oo, cc, c0, c1, c2, c3, c4⟩ := HS3.out.rd.cells
        rw [← HI1.out] at c1
        have f1 := HS3.out.rd.frozen 1
        have HS4 : Hid (Ps w s b0 B R d (w3.setCell ⟨B, 1, none⟩ (.int .i64 ((i1 : Int) + 1))) (i + 2) (.slice none 0 0) [] 0 0) := by rw [HI1.out]; exact HS3.out.read (Fr.set _ _ _ _ _) (HS3.out.rd.at (i + 2))
        go_upto_region 10 with fail
        obtain ⟨w4, hw4⟩ : ∃ w4, w4 = w3.setCell ⟨B, 1, none⟩ (.int .i64 ((i1 : Int) + 1)) := ⟨_, rfl⟩
        rw [← hw4] at HS4 ⊢
        clear hw4 c0 c1 c2 c3 c4 f1
        obtain ⟨oo, cc, c0, c1, c2, c3, c4⟩ := HS4.out.rd.cells
        obtain ⟨i2, hi2⟩ : ∃ i2, i2 = i + 2 := ⟨_, rfl⟩
        rw [← hi2] at c1
        have e1 : (i2 : Int) - 1 = (i1 : Nat) := by have := HI1.out; omega
        have hi2l : i + 2 ≤ s.size := by have := HI1.out; omega
        have hi2m : i2 ≤ 1026 := by omega
        have hi2n : 1 ≤ i2 := by omega
        have hw1 : IntKind.i64.wrap (i1 : Int) = (i1 : Nat) := by rw [IntKind.wrap_i64]; omega
        clear hi2
        obtain ⟨y, hy⟩ : ∃ y, y = Oct.has [b] := ⟨_, rfl⟩
        rw [← hy] at HX
        have HWZ : Hid (∀ u, Calls Try.prog 55 #[.agg #[.int .u64 0, .int .u64 0, .int .u64 0, .int .u64 0], .int .u8 (s[i1].toNat : Nat)] u fun e w' => e = .returned (setV y) ∧ Below u.heap.size u w') := fun u => by rw [hy, ← hb]; exact rwith_zero b u hb256 HB10.out
        clear hy hb
        go_region_with (first | (go_at_call 55; refine (HWZ.out _).mono ?_; rintro e u7 ⟨rfl, hb7⟩; have HS7 : Hid (Ps w s b0 B R d u7 (i + 2) (.slice none 0 0) [] 0 0) := ((HS4.out.later (Below.refl _ _).drew).later hb7); unfold setV) | (go_at_call 52; refine (rset_any y _).mono ?_; rintro e u8 ⟨rfl, hb8⟩; have HS8 : Hid (Ps w s b0 B R d u8 (i + 2) (.slice none 0 0) [] 0 0) := (HS7.out.later hb8); obtain ⟨z0, z1, z2, z3, z4, z5, z6, z7⟩ := HS8.out.res.cells; have y0 := (HS8.out.res.frozen 0); have y1 := (HS8.out.res.frozen 1); have y2 := (HS8.out.res.frozen 2); have y3 := (HS8.out.res.frozen 3); have y4 := (HS8.out.res.frozen 4); have y5 := (HS8.out.res.frozen 5); have y6 := (HS8.out.res.frozen 6); have y7 := (HS8.out.res.frozen 7); unfold Nd.val))
        all_goals
          go_wp2
          show bodyPost _ _ _ _ _ (put8 _ R ⟨(2 : Nat), y, none, 0, 0, 0, 0⟩)
          exact post_node Try.f49 4 rfl rfl rfl (HS8.out.res.put8 ⟨(2 : Nat), y, none, 0, 0, 0, 0⟩) (HS8.out.fin HX.out (by omega) rfl (ordinary_leaf _ _ y))
    · have hl1' : ¬ (i1 : Int) < (s.size : Int) := by omega
      rw [decide_eq_false hl1] at HMO
      have HX : Hid (atom s (k + 1) d i = .bad i 46) := by show _ = _; rw [HXE.out, show decide (i1 = s.size) = true by simp; have := HI1.out; omega]; rfl
      clear HXE
      go_upto_region 7 with fail
      go_quiet ((go_at_call 44; exact Calls.quiet_of_same (HMO.out _)))
      have HS3 : Hid (Ps w s b0 B R d (w2.drewN nq) (i + 1) (.slice none 0 0) [] 0 0) := HS1.out.later (below_drewN _ _ _)
      obtain ⟨w3, hw3⟩ : ∃ w3, w3 = w2.drewN nq := ⟨_, rfl⟩
      have HW3 : Hid (w3 = _) := hw3
      rw [← hw3] at HS3
      clear hw3
      go_upto_region 8 with fail
      rw [← HW3.out]
      clear HW3
      go_wp2_with fail
      refine (rfault_lit b0 B (i + 1) d 46 i _ rfl s _ HS3.out.rd).mono ?_
      rintro e u6 ⟨rfl, hr6, hf6⟩
      have HS6 : Hid (Ps w s b0 B R d u6 (i + 1) (.slice none 0 0) [] 46 i) := HS3.out.read hf6 hr6
      clear hr6 hf6 c0 c1 c2 c3 c4
      unfold zeroNd Nd.val
      obtain ⟨z0, z1, z2, z3, z4, z5, z6, z7⟩ := HS6.out.res.cells
      have y0 := HS6.out.res.frozen 0
      have y1 := HS6.out.res.frozen 1
      have y2 := HS6.out.res.frozen 2
      have y3 := HS6.out.res.frozen 3
      have y4 := HS6.out.res.frozen 4
      have y5 := HS6.out.res.frozen 5
      have y6 := HS6.out.res.frozen 6
      have y7 := HS6.out.res.frozen 7
      go_wp2
      show bodyPost _ _ _ _ _ (put8 _ R zeroNd)
      exact post_node Try.f49 4 rfl rfl rfl (HS6.out.res.put8 zeroNd) (HS6.out.finB HX.out (by decide) (newT_zero _ _))
  have g92 : ((c : Int) == 92) = false := by simp <;> omega
  by_cases h91 : c = 91
  · have HX : Hid (atom s (k + 1) d i = (match setOf s k i with
      | .ok a j => .ok (setT a) j
      | .bad a e => .bad a e
      | .out => .out)) := by show _ = _; rw [HAT.out, if_neg (by omega), if_pos h91]
    have g91 : ((c : Int) == 91) = true := by simp <;> omega
    have hso : setOf s k i ≠ .out := fun e => HO.out (by rw [HX.out, e])
    clear h46 h92 h91 HAT
    go_wp2_with fail
    refine (ritems_walk b0 B i d k s _ HS1.out.rd hlt hs hso).mono ?_
    intro e w3 h3
    have h3 : RefT w2.heap.size w2 b0 B s d (atom s (k + 1) d i) e w3 := by rw [HX.out]; exact h3
    cases hat : atom s (k + 1) d i with
    | out => exact absurd hat HO.out
    | bad a c' =>
      rw [hat] at h3
      have HATE : Hid (atom s (k + 1) d i = .bad a c') := hat
      obtain ⟨hc0, t, x, j, d', rfl, hx, hr3, hf3⟩ := h3
      have HS3 : Hid (Ps w s b0 B R d' w3 j (.slice none 0 0) [] c' a) := HS1.out.read hf3 hr3
      have HX3 : Hid (NewT (w.heap.size + 1) w3 t x) := hx.less HS1.out.size
      clear hat hx hr3 hf3
      unfold Nd.val
      obtain ⟨z0, z1, z2, z3, z4, z5, z6, z7⟩ := HS3.out.res.cells
      have y0 := HS3.out.res.frozen 0
      have y1 := HS3.out.res.frozen 1
      have y2 := HS3.out.res.frozen 2
      have y3 := HS3.out.res.frozen 3
      have y4 := HS3.out.res.frozen 4
      have y5 := HS3.out.res.frozen 5
      have y6 := HS3.out.res.frozen 6
      have y7 := HS3.out.res.frozen 7
      go_wp2
      exact post_node Try.f49 4 rfl rfl rfl (HS3.out.res.put8 x) (HS3.out.finB HATE.out hc0 HX3.out)
    | ok t j =>
      rw [hat] at h3
      have HATE : Hid (atom s (k + 1) d i = .ok t j) := hat
      obtain ⟨hj, x, rfl, hx, hr3, hf3⟩ := h3
      have HS3 : Hid (Ps w s b0 B R d w3 j (.slice none 0 0) [] 0 0) := HS1.out.read hf3 hr3
      have HX3 : Hid (NewT (w.heap.size + 1) w3 t x) := hx.less HS1.out.size
      clear hat hx hr3 hf3
      unfold Nd.val
      obtain ⟨z0, z1, z2, z3, z4, z5, z6, z7⟩ := HS3.out.res.cells
      have y0 := HS3.out.res.frozen 0
      have y1 := HS3.out.res.frozen 1
      have y2 := HS3.out.res.frozen 2
      have y3 := HS3.out.res.frozen 3
      have y4 := HS3.out.res.frozen 4
      have y5 := HS3.out.res.frozen 5
      have y6 := HS3.out.res.frozen 6
      have y7 := HS3.out.res.frozen 7
      go_wp2
      exact post_node Try.f49 4 rfl rfl rfl (HS3.out.res.put8 x) (HS3.out.fin HATE.out hj rfl HX3.out)
  have g91 : ((c : Int) == 91) = false := by simp <;> omega
  by_cases h40 : c = 40
  · have HXG : Hid (atom s (k + 1) d i = group s k d i) := by show _ = _; rw [HAT.out, if_pos h40]
    have g40 : ((c : Int) == 40) = true := by simp <;> omega
    clear h46 h92 h91 h40 HAT
    obtain ⟨k, rfl⟩ : ∃ k', k = k' + 1 := by
      cases k with
      | zero => exact absurd (HXG.out.trans (by simp [group])) HO.out
      | succ k => exact ⟨k, rfl⟩
    obtain ⟨oo, cc, c0, c1, c2, c3, c4⟩ := HS1.out.rd.cells
    by_cases hd64 : d = 64
    · have HX : Hid (atom s (k + 1 + 1) d i = .bad i 47) := by show _ = _; rw [HXG.out, group, if_pos hd64]
      have q0 : ((d : Int) == 64) = true := by simp <;> omega
      clear hd64 HXG
      go_wp2_with fail
      refine (rfault_lit b0 B (i + 1) d 47 i _ rfl s _ HS1.out.rd).mono ?_
      rintro e u6 ⟨rfl, hr6, hf6⟩
      have HS6 : Hid (Ps w s b0 B R d u6 (i + 1) (.slice none 0 0) [] 47 i) := HS1.out.read hf6 hr6
      clear hr6 hf6 c0 c1 c2 c3 c4
      unfold zeroNd Nd.val
      obtain ⟨z0, z1, z2, z3, z4, z5, z6, z7⟩ := HS6.out.res.cells
      have y0 := HS6.out.res.frozen 0
      have y1 := HS6.out.res.frozen 1
      have y2 := HS6.out.res.frozen 2
      have y3 := HS6.out.res.frozen 3
      have y4 := HS6.out.res.frozen 4
      have y5 := HS6.out.res.frozen 5
      have y6 := HS6.out.res.frozen 6
      have y7 := HS6.out.res.frozen 7
      go_wp2
      show bodyPost _ _ _ _ _ (put8 _ R zeroNd)
      exact post_node Try.f49 4 rfl rfl rfl (HS6.out.res.put8 zeroNd) (HS6.out.finB HX.out (by decide) (newT_zero _ _))
    · have HX : Hid (atom s (k + 1 + 1) d i = match pat s k (d + 1) (i + 1) with
        | .ok t j => if j = s.size then .bad i 42 else .ok t (j + 1)
        | .bad a e => .bad a e
        | .out => .out) := by show _ = _; rw [HXG.out, group, if_neg hd64]; rfl
      have q0 : ((d : Int) == 64) = false := by simp <;> omega
      have hd2 : d + 1 ≤ 64 := by omega
      clear hd64 HXG
      have hpo : pat s k (d + 1) (i + 1) ≠ .out := fun e => HO.out (by rw [HX.out, e])
      have HPO : Hid (pat s k (d + 1) (i + 1) ≠ .out) := hpo
      clear hpo
      obtain ⟨o1, cp, g, cap', u2, k1, k2, k3, k4, k5, k6, k7⟩ := open_append HS1.out.rd (by have := HB0.out; have := HS1.out.fr.size; omega) hd (i : Int) 55
      have HK3 : Hid ((Builtin.append_ #[55, 55] 55 #[.slice o1 d cp, .slice (some ⟨w2.heap.size, 0, none⟩) 1 1]).run Try.prog (w2.alloc (.cells #[.int .i64 (i : Int)] 3)) = .ok (.slice (some ⟨g, 0, none⟩) (d + 1) cap') u2) := k3
      have HS2 : Hid (Ps w s b0 B R (d + 1) (u2.setCell ⟨B, 2, none⟩ (.slice (some ⟨g, 0, none⟩) (d + 1) cap')) (i + 1) (.slice none 0 0) [] 0 0) := HS1.out.read k7 k6
      clear k3 k6 k7 c0 c1 c2 c3 c4
      go_upto_region 17 with (at_builtin; go_must (refine wpList_append_run rfl _ _ rfl rfl rfl HK3.out ?_))
      obtain ⟨w3, hw3⟩ : ∃ w3, w3 = u2.setCell ⟨B, 2, none⟩ (.slice (some ⟨g, 0, none⟩) (d + 1) cap') := ⟨_, rfl⟩
      rw [← hw3] at HS2 ⊢
      clear hw3 k1 k2 k4 k5 HK3
      go_wp2_with fail
      refine (HP.out k (by omega) b0 B (i + 1) (d + 1) s w3 ⟨HS2.out.rd, by omega, hs, hd2, by have := HB0.out; have := HS2.out.fr.size; omega, HNL.out⟩ HPO.out).mono ?_
      intro e w4 h4
      rw [top_id _ (by omega)] at h4
      cases hpt : pat s k (d + 1) (i + 1) with
      | out => exact absurd hpt HPO.out
      | bad a c' =>
        rw [hpt] at h4 HX
        obtain ⟨hc0, t, x, j, d', rfl, hx, hr3, hf3⟩ := h4
        have HS4 : Hid (Ps w s b0 B R d' w4 j (.slice none 0 0) [] c' a) := HS2.out.read hf3 hr3
        have HX4 : Hid (NewT (w.heap.size + 1) w4 t x) := hx.less HS2.out.size
        obtain ⟨hp5, hb5⟩ := HS4.out.box x
        have HS5 : Hid (Ps w s b0 B R d' _ j (.slice none 0 0) [] c' a) := hp5
        have HB5 : Hid (NB _ w4.heap.size x) := hb5
        have HX5 : Hid (NewT (w.heap.size + 1) _ t x) := HX4.out.later ((Below.refl _ w4).alloc (Nat.le_refl _) (.cells #[.int .i64 x.k, .int .u64 (Oct.word x.s 0 : Nat), .int .u64 (Oct.word x.s 1 : Nat), .int .u64 (Oct.word x.s 2 : Nat), .int .u64 (Oct.word x.s 3 : Nat), .slice x.a x.n x.c, .int .i64 x.mn, .int .i64 x.mx] 28))
        clear hpt hx hr3 hf3 hp5 hb5
        unfold Nd.val
        go_upto_region 18 with fail
        obtain ⟨w5, hw5⟩ : ∃ w5, w5 = w4.alloc (.cells #[.int .i64 x.k, .int .u64 (Oct.word x.s 0 : Nat), .int .u64 (Oct.word x.s 1 : Nat), .int .u64 (Oct.word x.s 2 : Nat), .int .u64 (Oct.word x.s 3 : Nat), .slice x.a x.n x.c, .int .i64 x.mn, .int .i64 x.mx] 28) := ⟨_, rfl⟩
        obtain ⟨G, hG⟩ : ∃ G, G = w4.heap.size := ⟨_, rfl⟩
        rw [← hw5] at HS5 HB5 HX5 ⊢
        rw [← hG] at HB5 ⊢
        clear hw5 hG
        obtain ⟨oo, cc, c0, c1, c2, c3, c4⟩ := HS5.out.rd.cells
        obtain ⟨p0, p1, p2, p3, p4, p5, p6, p7⟩ := HB5.out.cells
        have q2 : ((c' : Int) == 0) = false := by simp <;> omega
        have q3 : ((c' : Int) != 0) = true := by simp <;> omega
        obtain ⟨z0, z1, z2, z3, z4, z5, z6, z7⟩ := HS5.out.res.cells
        have y0 := HS5.out.res.frozen 0
        have y1 := HS5.out.res.frozen 1
        have y2 := HS5.out.res.frozen 2
        have y3 := HS5.out.res.frozen 3
        have y4 := HS5.out.res.frozen 4
        have y5 := HS5.out.res.frozen 5
        have y6 := HS5.out.res.frozen 6
        have y7 := HS5.out.res.frozen 7
        go_wp2
        exact post_node Try.f49 4 rfl rfl rfl (HS5.out.res.put8 x) (HS5.out.finB HX.out hc0 HX5.out)
      | ok t j =>
        have hst := pat_stop hpt
        rw [hpt] at h4 HX
        obtain ⟨hj, x, rfl, hx, hr3, hf3⟩ := h4
        have HS4 : Hid (Ps w s b0 B R (d + 1) w4 j (.slice none 0 0) [] 0 0) := HS2.out.read hf3 hr3
        have HX4 : Hid (NewT (w.heap.size + 1) w4 t x) := hx.less HS2.out.size
        obtain ⟨hp5, hb5⟩ := HS4.out.box x
        have HS5 : Hid (Ps w s b0 B R (d + 1) _ j (.slice none 0 0) [] 0 0) := hp5
        have HB5 : Hid (NB _ w4.heap.size x) := hb5
        have HX5 : Hid (NewT (w.heap.size + 1) _ t x) := HX4.out.later ((Below.refl _ w4).alloc (Nat.le_refl _) (.cells #[.int .i64 x.k, .int .u64 (Oct.word x.s 0 : Nat), .int .u64 (Oct.word x.s 1 : Nat), .int .u64 (Oct.word x.s 2 : Nat), .int .u64 (Oct.word x.s 3 : Nat), .slice x.a x.n x.c, .int .i64 x.mn, .int .i64 x.mx] 28))
        clear hpt hx hr3 hf3 hp5 hb5
        unfold Nd.val
        go_upto_region 18 with fail
        obtain ⟨w5, hw5⟩ : ∃ w5, w5 = w4.alloc (.cells #[.int .i64 x.k, .int .u64 (Oct.word x.s 0 : Nat), .int .u64 (Oct.word x.s 1 : Nat), .int .u64 (Oct.word x.s 2 : Nat), .int .u64 (Oct.word x.s 3 : Nat), .slice x.a x.n x.c, .int .i64 x.mn, .int .i64 x.mx] 28) := ⟨_, rfl⟩
        obtain ⟨G, hG⟩ : ∃ G, G = w4.heap.size := ⟨_, rfl⟩
        rw [← hw5] at HS5 HB5 HX5 ⊢
        rw [← hG] at HB5 ⊢
        clear hw5 hG
        obtain ⟨oo, cc, c0, c1, c2, c3, c4⟩ := HS5.out.rd.cells
        obtain ⟨p0, p1, p2, p3, p4, p5, p6, p7⟩ := HB5.out.cells
        go_wp2_with fail
        refine (ris_any b0 B j (d + 1) 0 0 j 41 s _ HS5.out.rd).mono ?_
        rintro e ux ⟨rfl, hz⟩
        subst hz
        by_cases hjl : j < s.size
        · have h41 : sees s j 41 = true := by
            rcases hst with h | h
            · exact absurd hjl h
            · exact h
          rw [h41]
          have HX2 : Hid (atom s (k + 1 + 1) d i = .ok t (j + 1)) := by show _ = _; rw [HX.out, if_neg (by omega)]
          have hj3 : j ≤ 1024 := by omega
          clear HX hst h41
          have f1 := HS5.out.rd.frozen 1
          have HS6 : Hid (Ps w s b0 B R (d + 1) (ux.setCell ⟨B, 1, none⟩ (.int .i64 ((j : Int) + 1))) (j + 1) (.slice none 0 0) [] 0 0) := HS5.out.read (Fr.set _ _ _ _ _) (HS5.out.rd.at (j + 1))
          have HB6 : Hid (NB (ux.setCell ⟨B, 1, none⟩ (.int .i64 ((j : Int) + 1))) G x) := HB5.out.fr HS5.out.rd (Fr.set _ _ _ _ _)
          have HX6 : Hid (NewT (w.heap.size + 1) (ux.setCell ⟨B, 1, none⟩ (.int .i64 ((j : Int) + 1))) t x) := HX5.out.fr HS5.out.rd (Fr.set _ _ _ _ _)
          go_upto_region 23 with fail
          obtain ⟨u6, hu6⟩ : ∃ u6, u6 = ux.setCell ⟨B, 1, none⟩ (.int .i64 ((j : Int) + 1)) := ⟨_, rfl⟩
          rw [← hu6] at HS6 HB6 HX6 ⊢
          clear hu6 c0 c1 c2 c3 c4 p0 p1 p2 p3 p4 p5 p6 p7 f1
          obtain ⟨gg, cq, e2, e3, e4, e5⟩ := open_pop HS6.out.rd
          have f2 := HS6.out.rd.frozen 2
          have HE5 : Hid (∀ u' : World, (∀ k : Nat, u'.heap[k]? = u6.heap[k]?) → RR (u'.setCell ⟨B, 2, none⟩ (.slice (some ⟨gg, 0, none⟩) d cq)) b0 B s (j + 1) d 0 0) := e5
          have e3' : (d : Int) ≤ (cq : Int) := by omega
          simp only [maxLen] at e4
          obtain ⟨D1, hD1⟩ : ∃ D1, D1 = d + 1 := ⟨_, rfl⟩
          rw [← hD1] at e2
          have e6 : (D1 : Int) - 1 = (d : Nat) := by omega
          have e7 : D1 ≤ 65 := by omega
          have e8 : 1 ≤ D1 := by omega
          have hw1 : IntKind.i64.wrap (d : Int) = (d : Nat) := by rw [IntKind.wrap_i64]; omega
          have e9 : (D1 : Int) ≤ (cq : Int) := by omega
          clear e5 hD1
          go_region_with (fail)
          all_goals
            have hF7 : Fr b0 B u6 (u6.setCell ⟨B, 2, none⟩ (.slice (some ⟨gg, 0, none⟩) d cq)).drew := (Fr.set b0 B u6 2 _).later (Below.refl _ _).drew
            have HS7 : Hid (Ps w s b0 B R d (u6.setCell ⟨B, 2, none⟩ (.slice (some ⟨gg, 0, none⟩) d cq)).drew (j + 1) (.slice none 0 0) [] 0 0) := HS6.out.read hF7 ((HE5.out u6 (fun _ => rfl)).later (Below.refl _ _).drew)
            have HB7 : Hid (NB (u6.setCell ⟨B, 2, none⟩ (.slice (some ⟨gg, 0, none⟩) d cq)).drew G x) := HB6.out.fr HS6.out.rd hF7
            have HX7 : Hid (NewT (w.heap.size + 1) (u6.setCell ⟨B, 2, none⟩ (.slice (some ⟨gg, 0, none⟩) d cq)).drew t x) := HX6.out.fr HS6.out.rd hF7
            obtain ⟨u7, hu7⟩ : ∃ u7, u7 = (u6.setCell ⟨B, 2, none⟩ (.slice (some ⟨gg, 0, none⟩) d cq)).drew := ⟨_, rfl⟩
            rw [← hu7] at HS7 HB7 HX7 ⊢
            clear hu7 hF7 e2 f2
            obtain ⟨p0, p1, p2, p3, p4, p5, p6, p7⟩ := HB7.out.cells
            obtain ⟨z0, z1, z2, z3, z4, z5, z6, z7⟩ := HS7.out.res.cells
            have y0 := HS7.out.res.frozen 0
            have y1 := HS7.out.res.frozen 1
            have y2 := HS7.out.res.frozen 2
            have y3 := HS7.out.res.frozen 3
            have y4 := HS7.out.res.frozen 4
            have y5 := HS7.out.res.frozen 5
            have y6 := HS7.out.res.frozen 6
            have y7 := HS7.out.res.frozen 7
            go_wp2
            exact post_node Try.f49 4 rfl rfl rfl (HS7.out.res.put8 x) (HS7.out.fin HX2.out (by omega) rfl HX7.out)
        · have h41 : sees s j 41 = false := sees_end hjl
          rw [h41]
          have HX2 : Hid (atom s (k + 1 + 1) d i = .bad i 42) := by show _ = _; rw [HX.out, if_pos (by omega)]
          clear HX hst h41
          go_wp2_with fail
          refine (rfault_lit b0 B j (d + 1) 42 i _ rfl s _ HS5.out.rd).mono ?_
          rintro e u6 ⟨rfl, hr6, hf6⟩
          have HS6 : Hid (Ps w s b0 B R (d + 1) u6 j (.slice none 0 0) [] 42 i) := HS5.out.read hf6 hr6
          clear hr6 hf6 c0 c1 c2 c3 c4
          unfold zeroNd Nd.val
          obtain ⟨z0, z1, z2, z3, z4, z5, z6, z7⟩ := HS6.out.res.cells
          have y0 := HS6.out.res.frozen 0
          have y1 := HS6.out.res.frozen 1
          have y2 := HS6.out.res.frozen 2
          have y3 := HS6.out.res.frozen 3
          have y4 := HS6.out.res.frozen 4
          have y5 := HS6.out.res.frozen 5
          have y6 := HS6.out.res.frozen 6
          have y7 := HS6.out.res.frozen 7
          go_wp2
          show bodyPost _ _ _ _ _ (put8 _ R zeroNd)
          exact post_node Try.f49 4 rfl rfl rfl (HS6.out.res.put8 zeroNd) (HS6.out.finB HX2.out (by decide) (newT_zero _ _))
  · have HX : Hid (atom s (k + 1) d i = .ok (setT (Oct.has [c])) (i + 1)) := by show _ = _; rw [HAT.out, if_neg h40, if_neg h91, if_neg h46, if_neg h92]
    have g40 : ((c : Int) == 40) = false := by simp <;> omega
    clear h46 h92 h91 h40 HAT
    go_wp2_with fail
    refine (rwith_zero c _ hc256 HC10.out).mono ?_
    rintro e u3 ⟨rfl, hb3⟩
    have HS3 : Hid (Ps w s b0 B R d u3 (i + 1) (.slice none 0 0) [] 0 0) := HS1.out.later hb3
    clear hb3
    obtain ⟨y, hy⟩ : ∃ y, y = Oct.has [c] := ⟨_, rfl⟩
    rw [← hy] at HX ⊢
    clear hy
    unfold setV
    go_wp2_with fail
    refine (rset_any y _).mono ?_
    rintro e u9 ⟨rfl, hb9⟩
    have HS9 : Hid (Ps w s b0 B R d u9 (i + 1) (.slice none 0 0) [] 0 0) := HS3.out.later hb9
    clear hb9
    unfold Nd.val
    obtain ⟨z0, z1, z2, z3, z4, z5, z6, z7⟩ := HS9.out.res.cells
    have y0 := HS9.out.res.frozen 0
    have y1 := HS9.out.res.frozen 1
    have y2 := HS9.out.res.frozen 2
    have y3 := HS9.out.res.frozen 3
    have y4 := HS9.out.res.frozen 4
    have y5 := HS9.out.res.frozen 5
    have y6 := HS9.out.res.frozen 6
    have y7 := HS9.out.res.frozen 7
    go_wp2
    show bodyPost _ _ _ _ _ (put8 _ R ⟨(2 : Nat), y, none, 0, 0, 0, 0⟩)
    exact post_node Try.f49 4 rfl rfl rfl (HS9.out.res.put8 ⟨(2 : Nat), y, none, 0, 0, 0, 0⟩) (HS9.out.fin HX.out (by omega) rfl (ordinary_leaf _ _ y))
end Go.Proofs.Ytlcnmfgmgiijpaa

/- All of the document's reader of layer 4. -/
namespace Go.Proofs.Ytlcnmfgmgiijpaa
open Go.RowKit

theorem all_rok : ∀ n, RPatOK n ∧ RAltOK n ∧ RPieceOK n ∧ RAtomOK n := by
  intro n
  induction n using Nat.strongRecOn with
  | ind n ih => exact ⟨rpat_walk n (fun m h => (ih m h).2.1), ralt_walk n (fun m h => (ih m h).2.2.1), rpiece_walk n (fun m h => (ih m h).2.2.2), ratom_walk n (fun m h => (ih m h).1)⟩
theorem rpattern_any (b0 B : Nat) (s : ByteArray) (w : World) (h : PreR w b0 B s 0 0) : Calls Try.prog 27 #[.pointer (some ⟨B, 0, none⟩)] w (RefT w.heap.size w b0 B s 0 (top s 0 (patOf s))) := (all_rok _).1 b0 B 0 0 s w h (patOf_out s)
end Go.Proofs.Ytlcnmfgmgiijpaa
