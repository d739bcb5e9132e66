/- ere's item. -/
import Derived.Test.YtjmbimgofceanaaG08
namespace Go.Proofs.Ytjmbimgofceanaa
open Go.RowKit
attribute [local go_sem ↓] Go.wp_at_zero Go.wp_at_succ

theorem byt_list (r : ByteArray) (k : Nat) : byt r k = (r.data.toList.getD k 0).toNat := by
  unfold byt
  by_cases h : k < r.size
  · rw [dif_pos h]
    have h' : k < r.data.toList.length := by simpa using h
    rw [List.getD_eq_getElem?_getD, List.getElem?_eq_getElem h']
    simp
    rfl
  · rw [dif_neg h]
    have h' : r.data.toList.length ≤ k := by
      have : r.data.toList.length = r.size := by simp
      omega
    rw [List.getD_eq_getElem?_getD, List.getElem?_eq_none h']
    simp
theorem prefix2 (r : ByteArray) : Lib.hasPrefix r.data.toList [91, 58] = (decide (1 < r.size) && decide (byt r 0 = 91) && decide (byt r 1 = 58)) := by
  rw [byt_list, byt_list]
  have hl : r.size = r.data.toList.length := by simp
  rw [hl]
  generalize r.data.toList = l
  rw [Bool.eq_iff_iff]
  cases l with
  | nil => simp [Lib.hasPrefix]
  | cons a l =>
    cases l with
    | nil => simp [Lib.hasPrefix]
    | cons b l =>
      simp [Lib.hasPrefix, ← UInt8.toNat_inj]
      constructor
      · rintro ⟨h1, h2⟩; exact ⟨h1.symm, h2.symm⟩
      · rintro ⟨h1, h2⟩; exact ⟨h1.symm, h2.symm⟩
theorem rest_prefix (s : ByteArray) (i : Nat) : Lib.hasPrefix (rest s i).data.toList [91, 58] = (decide (i + 1 < s.size) && decide (byt s i = 91) && decide (byt s (i + 1) = 58)) := by
  rw [prefix2, rest_size, rest_byt, rest_byt]
  have : decide (1 < s.size - i) = decide (i + 1 < s.size) := by rw [Bool.eq_iff_iff]; simp; omega
  rw [this]
  rfl
set_option maxHeartbeats 2000000 in
theorem item_walk (B o i d : Nat) (s : ByteArray) (w : World) (h : RB w B s i d) (hi : i ≤ s.size) (hs : s.size ≤ 1024) (hm : GM w) : Calls Try.prog 91 #[.pointer (some ⟨B, 0, none⟩), .int .i64 (o : Nat)] w (Reads w B s d (item s o i) SetV) := by
  have HZ0 : Hid (SB (w.alloc (.cells #[.int .u64 0, .int .u64 0, .int .u64 0, .int .u64 0] 27)) w.heap.size Oct.none) := sb_zero w
  have HR1 : Hid (RB (w.alloc (.cells #[.int .u64 0, .int .u64 0, .int .u64 0, .int .u64 0] 27)) B s i d) := h.later ((Below.refl _ _).alloc (Nat.le_refl _) _)
  have HM1 : Hid (GM (w.alloc (.cells #[.int .u64 0, .int .u64 0, .int .u64 0, .int .u64 0] 27))) := hm.later ((Below.refl _ _).alloc (Nat.le_refl _) _)
  have HBR : Hid (w.heap.size ≠ B) := by have := h.lt; show _ ≠ _; omega
  obtain ⟨w1, hw1⟩ : ∃ w1, w1 = w.alloc (.cells #[.int .u64 0, .int .u64 0, .int .u64 0, .int .u64 0] 27) := ⟨_, rfl⟩
  have HG1 : Hid (w.grownBy w1 (some B)) := by rw [hw1]; exact grown_alloc _ _ _
  rw [← hw1] at HR1 HZ0 HM1
  have HW1 : Hid (w1 = _) := hw1
  clear hw1 h
  obtain ⟨R, hR⟩ : ∃ R, R = w.heap.size := ⟨_, rfl⟩
  rw [← hR] at HZ0 HBR
  have HRR : Hid (R = _) := hR
  clear hR
  obtain ⟨c0, c1, c2⟩ := HR1.out.cells
  have hi2 : (i : Int) ≤ (s.size : Int) := by omega
  go_enter Try.func91, Try.ntmps91
  go_upto_region 1 with fail
  rw [← HW1.out, ← HRR.out]
  clear HW1
  go_quiet (fail)
  have HR2 : Hid (RB (w1.drewN nq) B s i d) := HR1.out.later (below_drewN _ _ _)
  have HZ2 : Hid (SB (w1.drewN nq) R Oct.none) := HZ0.out.later (below_drewN _ _ _)
  have HM2 : Hid (GM (w1.drewN nq)) := HM1.out.later (below_drewN _ _ _)
  have HG2 : Hid (w.grownBy (w1.drewN nq) (some B)) := grown_below HG1.out (below_drewN _ _ _)
  obtain ⟨w2, hw2⟩ : ∃ w2, w2 = w1.drewN nq := ⟨_, rfl⟩
  rw [← hw2] at HR2 HZ2 HG2 HM2
  have HW2 : Hid (w2 = _) := hw2
  clear hw2 c0 c1 c2 HR1 HZ0 HG1 HM1 hm
  go_upto_region 2 with fail
  rw [← HW2.out]
  clear HW2
  obtain ⟨c0, c1, c2⟩ := HR2.out.cells
  by_cases hend : i = s.size
  · have HX : Hid (item s o i = .bad o 43) := by show _ = _; simp [item, hend]
    go_wp2_with fail
    refine (giveUp_any o 43 _).mono ?_
    rintro e w3 ⟨rfl, k3⟩
    go_wp2
    refine ⟨rfl, ?_⟩
    unfold Reads
    rw [← hend, HX.out]
    exact ⟨rfl, grown_below HG2.out k3⟩
  · have HX0 : Hid (item s o i = if decide (i + 1 < s.size) && decide (byt s i = 91) && decide (byt s (i + 1) = 58) then class_ s o i else if special s i then .bad i 43 else if decide (i + 2 < s.size) && decide (byt s (i + 1) = 45) && decide (byt s (i + 2) ≠ 93) then span_ s i else .ok (Oct.has [byt s i]) (i + 1)) := by show _ = _; unfold item; rw [if_neg hend]
    have hlt : i < s.size := by omega
    have HPF : Hid (∀ v, Calls Try.prog 96 #[.string (s.extract i s.size), .string ⟨#[91, 58]⟩] v fun e w' => e = .returned (.bool (decide (i + 1 < s.size) && decide (byt s i = 91) && decide (byt s (i + 1) = 58))) ∧ w' = v) := fun v => (Try.strings_HasPrefix (rest s i) ⟨#[91, 58]⟩ v).mono (fun _ _ h => ⟨by rw [h.1]; exact ret_bool (rest_prefix s i), h.2⟩)
    have HSP : Hid (∀ v, Calls Try.prog 98 #[.string (s.extract i s.size)] v fun e w' => e = .returned (.bool (special s i)) ∧ w' = v) := fun v => (special_any (rest s i) v).mono (fun _ _ h => ⟨by rw [h.1, special_rest], h.2⟩)
    have HRS : Hid ((s.extract i s.size).size = s.size - i) := rest_size s i
    have HRB : Hid (∀ k, byt (s.extract i s.size) k = byt s (i + k)) := rest_byt s i
    have hne : ¬ (s.extract i s.size).size = 0 := by rw [HRS.out]; omega
    obtain ⟨r, hr⟩ : ∃ r, r = s.extract i s.size := ⟨_, rfl⟩
    rw [← hr] at HPF HSP HRS HRB hne ⊢
    clear hr
    have hemp : r.toList.isEmpty = false := by
      cases h : r.toList.isEmpty with
      | false => rfl
      | true =>
        have h2 : (r.toList == []) = true := by rw [List.isEmpty_iff] at h; rw [h]; rfl
        have := name_of h2
        rw [this] at hne
        exact absurd rfl hne
    go_wp2_with fail
    refine (HPF.out _).mono ?_
    rintro e w' ⟨rfl, hw'⟩
    have hw' := hw'.symm
    subst hw'
    obtain ⟨pb, hpb⟩ : ∃ pb, pb = (decide (i + 1 < s.size) && decide (byt s i = 91) && decide (byt s (i + 1) = 58)) := ⟨_, rfl⟩
    have HPL : Hid (pb = true → i + 2 ≤ s.size) := fun h => by rw [hpb] at h; simp at h; omega
    rw [← hpb] at HX0 ⊢
    clear hpb HPF
    cases hpv : pb with
    | true =>
      have HPB : Hid (pb = true) := hpv
      have hi22 := HPL.out hpv
      have HXX : Hid (item s o i = class_ s o i) := by show _ = _; rw [HX0.out, hpv]; rfl
      clear hpv
      go_wp2_with fail
      refine (class_walk B o i d s _ HR2.out hi22 hs HM2.out).mono ?_
      intro e w3 h3
      have HX : Hid (item s o i = class_ s o i) := HXX
      cases hc : class_ s o i with
      | out => rw [hc] at h3; exact h3.elim
      | bad a c =>
        rw [hc] at h3
        obtain ⟨rfl, hg3⟩ := h3
        rw [hc] at HX
        have HG3 : Hid (w.grownBy w3 (some B)) := grown_trans HG2.out hg3
        clear hc hg3 HXX
        go_wp2
        refine ⟨rfl, ?_⟩
        unfold Reads
        rw [HX.out]
        exact ⟨rfl, HG3.out⟩
      | ok x j =>
        rw [hc] at h3
        obtain ⟨hj, v, rfl, rfl, hr3, hg3⟩ := h3
        rw [hc] at HX
        have HR3 : Hid (RB w3 B s j d) := hr3
        have HZ3 : Hid (SB w3 R Oct.none) := (hg3.block R HZ2.out.lt (by have := HBR.out; simp; exact this)).trans HZ2.out
        have HG3 : Hid (w.grownBy w3 (some B)) := grown_trans HG2.out hg3
        clear hc hg3 hr3 HXX
        obtain ⟨z0, z1, z2, z3⟩ := HZ3.out.cells
        have y0 := HZ3.out.frozen 0
        have y1 := HZ3.out.frozen 1
        have y2 := HZ3.out.frozen 2
        have y3 := HZ3.out.frozen 3
        unfold setV
        go_wp2
        refine post_set Try.f91 4 rfl rfl rfl (HZ3.out.put4 x) ?_
        unfold Reads
        rw [HX.out]
        exact ⟨hj, _, rfl, rfl, (rb_put4 HR3.out HBR.out _), grown_put4 HG3.out (by rw [HRR.out]; exact Nat.le_refl _) _⟩
    | false =>
      have HPB : Hid (pb = false) := hpv
      clear hpv
      go_wp2_with fail
      refine (HSP.out _).mono ?_
      rintro e w' ⟨rfl, hw'⟩
      have hw' := hw'.symm
      subst hw'
      cases hsv : special s i with
      | true =>
        have HX : Hid (item s o i = .bad i 43) := by show _ = _; rw [HX0.out, HPB.out, hsv]; rfl
        clear hsv
        go_wp2_with fail
        refine (giveUp_any i 43 _).mono ?_
        rintro e w3 ⟨rfl, k3⟩
        go_wp2
        refine ⟨rfl, ?_⟩
        unfold Reads
        rw [HX.out]
        exact ⟨rfl, grown_below HG2.out k3⟩
      | false =>
        have HSB : Hid (special s i = false) := hsv
        clear hsv
        by_cases h2 : i + 2 < s.size
        · have hr2 : 2 < r.size := by rw [HRS.out]; omega
          have hr1 : 1 < r.size := by omega
          have hr2' : (2 : Int) < (r.size : Int) := by omega
          have hr1' : (1 : Int) < (r.size : Int) := by omega
          have HB1 : Hid (byt s (i + 1) = r[1].toNat) := by show _ = _; rw [← HRB.out 1]; exact byt_eq hr1
          have HB2 : Hid (byt s (i + 2) = r[2].toNat) := by show _ = _; rw [← HRB.out 2]; exact byt_eq hr2
          by_cases h45 : r[1].toNat = 45
          · by_cases h93 : r[2].toNat = 93
            · have HTB : Hid ((decide (i + 2 < s.size) && decide (byt s (i + 1) = 45) && decide (byt s (i + 2) ≠ 93)) = false) := by show _ = _; rw [HB1.out, HB2.out]; simp [h93]
              have g1 : ((r[1].toNat : Int) == 45) = true := by simp; omega
              have g2 : ((r[2].toNat : Int) != 93) = false := by simp; omega
              have g3 : ((r[2].toNat : Int) == 93) = true := by simp; omega
              clear h45 h93
              have HXX : Hid (item s o i = .ok (Oct.has [byt s i]) (i + 1)) := by show _ = _; rw [HX0.out, HPB.out, HSB.out]; simp only [Bool.false_eq_true, if_false]; rw [if_neg (by rw [HTB.out]; simp)]
              have hi3 : i ≤ 1024 := by omega
              have hr0 : 0 < r.size := by rw [HRS.out]; omega
              have hr0' : (0 : Int) < (r.size : Int) := by omega
              have HB0 : Hid (byt s i = r[0].toNat) := by show _ = _; have := HRB.out 0; rw [Nat.add_zero] at this; rw [← this]; exact byt_eq hr0
              have f1 := HR2.out.frozen 1
              have HR3 : Hid (RB (w2.setCell ⟨B, 1, none⟩ (.int .i64 ((i : Int) + 1))) B s (i + 1) d) := HR2.out.at (i + 1)
              have HZ3 : Hid (SB (w2.setCell ⟨B, 1, none⟩ (.int .i64 ((i : Int) + 1))) R Oct.none) := HZ2.out.other HBR.out _ _
              have HG3 : Hid (w.grownBy (w2.setCell ⟨B, 1, none⟩ (.int .i64 ((i : Int) + 1))) (some B)) := grown_trans HG2.out (grown_set _ _ _ _)
              go_upto_region 11 with fail
              obtain ⟨w3, hw3⟩ : ∃ w3, w3 = w2.setCell ⟨B, 1, none⟩ (.int .i64 ((i : Int) + 1)) := ⟨_, rfl⟩
              rw [← hw3] at HR3 HZ3 HG3 ⊢
              clear hw3 c0 c1 c2 f1
              obtain ⟨b, hb⟩ : ∃ b, b = r[0].toNat := ⟨_, rfl⟩
              have hb256 : b < 256 := by rw [hb]; exact UInt8.toNat_lt _
              have HBB : Hid (b = r[0].toNat) := hb
              go_wp2_with fail
              refine (of_any _ 1 1 [r[0].toNat] _ rfl (by simp [maxLen]) (bytesAt_new w3 [r[0].toNat] 5 (0, 0)) (by intro b hb; simp at hb; rw [hb]; exact UInt8.toNat_lt _)).mono ?_
              rintro e w4 ⟨rfl, k4⟩
              have hal : Below w3.heap.size w3 (w3.alloc (.cells ([r[0].toNat].map (fun b : Nat => Value.int .u8 (b : Nat))).toArray 5)) := (Below.refl _ _).alloc (Nat.le_refl _) _
              have HR4 : Hid (RB w4 B s (i + 1) d) := (HR3.out.later hal).later k4
              have HZ4 : Hid (SB w4 R Oct.none) := (HZ3.out.later hal).later k4
              have HG4 : Hid (w.grownBy w4 (some B)) := grown_below (grown_below HG3.out hal) k4
              clear k4 hal
              obtain ⟨z0, z1, z2, z3⟩ := HZ4.out.cells
              have y0 := HZ4.out.frozen 0
              have y1 := HZ4.out.frozen 1
              have y2 := HZ4.out.frozen 2
              have y3 := HZ4.out.frozen 3
              unfold setV
              go_wp2
              refine post_set Try.f91 4 rfl rfl rfl (HZ4.out.put4 (Oct.has [r[0].toNat])) ?_
              unfold Reads
              rw [HXX.out, HB0.out]
              exact ⟨by omega, _, rfl, rfl, (rb_put4 HR4.out HBR.out _), grown_put4 HG4.out (by rw [HRR.out]; exact Nat.le_refl _) _⟩
            · have HTB : Hid ((decide (i + 2 < s.size) && decide (byt s (i + 1) = 45) && decide (byt s (i + 2) ≠ 93)) = true) := by show _ = _; rw [HB1.out, HB2.out]; simp [h2, h45, h93]
              have HXX : Hid (item s o i = span_ s i) := by show _ = _; rw [HX0.out, HPB.out, HSB.out]; simp only [Bool.false_eq_true, if_false]; rw [if_pos HTB.out]
              have g1 : ((r[1].toNat : Int) == 45) = true := by simp; omega
              have g2 : ((r[2].toNat : Int) != 93) = true := by simp; omega
              have g3 : ((r[2].toNat : Int) == 93) = false := by simp; omega
              clear h45 h93
              go_wp2_with fail
              refine (span_walk B i d s _ HR2.out h2 hs).mono ?_
              intro e w3 h3
              have HX : Hid (item s o i = span_ s i) := HXX
              cases hc : span_ s i with
              | out => rw [hc] at h3; exact h3.elim
              | bad a c =>
                rw [hc] at h3
                obtain ⟨rfl, hg3⟩ := h3
                rw [hc] at HX
                have HG3 : Hid (w.grownBy w3 (some B)) := grown_trans HG2.out hg3
                clear hc hg3 HXX
                go_wp2
                refine ⟨rfl, ?_⟩
                unfold Reads
                rw [HX.out]
                exact ⟨rfl, HG3.out⟩
              | ok x j =>
                rw [hc] at h3
                obtain ⟨hj, v, rfl, rfl, hr3, hg3⟩ := h3
                rw [hc] at HX
                have HR3 : Hid (RB w3 B s j d) := hr3
                have HZ3 : Hid (SB w3 R Oct.none) := (hg3.block R HZ2.out.lt (by have := HBR.out; simp; exact this)).trans HZ2.out
                have HG3 : Hid (w.grownBy w3 (some B)) := grown_trans HG2.out hg3
                clear hc hg3 hr3 HXX
                obtain ⟨z0, z1, z2, z3⟩ := HZ3.out.cells
                have y0 := HZ3.out.frozen 0
                have y1 := HZ3.out.frozen 1
                have y2 := HZ3.out.frozen 2
                have y3 := HZ3.out.frozen 3
                unfold setV
                go_wp2
                refine post_set Try.f91 4 rfl rfl rfl (HZ3.out.put4 x) ?_
                unfold Reads
                rw [HX.out]
                exact ⟨hj, _, rfl, rfl, (rb_put4 HR3.out HBR.out _), grown_put4 HG3.out (by rw [HRR.out]; exact Nat.le_refl _) _⟩
          · have HTB : Hid ((decide (i + 2 < s.size) && decide (byt s (i + 1) = 45) && decide (byt s (i + 2) ≠ 93)) = false) := by show _ = _; rw [HB1.out]; simp [h45]
            have g1 : ((r[1].toNat : Int) == 45) = false := by simp; omega
            clear h45
            have HXX : Hid (item s o i = .ok (Oct.has [byt s i]) (i + 1)) := by show _ = _; rw [HX0.out, HPB.out, HSB.out]; simp only [Bool.false_eq_true, if_false]; rw [if_neg (by rw [HTB.out]; simp)]
            have hi3 : i ≤ 1024 := by omega
            have hr0 : 0 < r.size := by rw [HRS.out]; omega
            have hr0' : (0 : Int) < (r.size : Int) := by omega
            have HB0 : Hid (byt s i = r[0].toNat) := by show _ = _; have := HRB.out 0; rw [Nat.add_zero] at this; rw [← this]; exact byt_eq hr0
            have f1 := HR2.out.frozen 1
            have HR3 : Hid (RB (w2.setCell ⟨B, 1, none⟩ (.int .i64 ((i : Int) + 1))) B s (i + 1) d) := HR2.out.at (i + 1)
            have HZ3 : Hid (SB (w2.setCell ⟨B, 1, none⟩ (.int .i64 ((i : Int) + 1))) R Oct.none) := HZ2.out.other HBR.out _ _
            have HG3 : Hid (w.grownBy (w2.setCell ⟨B, 1, none⟩ (.int .i64 ((i : Int) + 1))) (some B)) := grown_trans HG2.out (grown_set _ _ _ _)
            go_upto_region 11 with fail
            obtain ⟨w3, hw3⟩ : ∃ w3, w3 = w2.setCell ⟨B, 1, none⟩ (.int .i64 ((i : Int) + 1)) := ⟨_, rfl⟩
            rw [← hw3] at HR3 HZ3 HG3 ⊢
            clear hw3 c0 c1 c2 f1
            obtain ⟨b, hb⟩ : ∃ b, b = r[0].toNat := ⟨_, rfl⟩
            have hb256 : b < 256 := by rw [hb]; exact UInt8.toNat_lt _
            have HBB : Hid (b = r[0].toNat) := hb
            go_wp2_with fail
            refine (of_any _ 1 1 [r[0].toNat] _ rfl (by simp [maxLen]) (bytesAt_new w3 [r[0].toNat] 5 (0, 0)) (by intro b hb; simp at hb; rw [hb]; exact UInt8.toNat_lt _)).mono ?_
            rintro e w4 ⟨rfl, k4⟩
            have hal : Below w3.heap.size w3 (w3.alloc (.cells ([r[0].toNat].map (fun b : Nat => Value.int .u8 (b : Nat))).toArray 5)) := (Below.refl _ _).alloc (Nat.le_refl _) _
            have HR4 : Hid (RB w4 B s (i + 1) d) := (HR3.out.later hal).later k4
            have HZ4 : Hid (SB w4 R Oct.none) := (HZ3.out.later hal).later k4
            have HG4 : Hid (w.grownBy w4 (some B)) := grown_below (grown_below HG3.out hal) k4
            clear k4 hal
            obtain ⟨z0, z1, z2, z3⟩ := HZ4.out.cells
            have y0 := HZ4.out.frozen 0
            have y1 := HZ4.out.frozen 1
            have y2 := HZ4.out.frozen 2
            have y3 := HZ4.out.frozen 3
            unfold setV
            go_wp2
            refine post_set Try.f91 4 rfl rfl rfl (HZ4.out.put4 (Oct.has [r[0].toNat])) ?_
            unfold Reads
            rw [HXX.out, HB0.out]
            exact ⟨by omega, _, rfl, rfl, (rb_put4 HR4.out HBR.out _), grown_put4 HG4.out (by rw [HRR.out]; exact Nat.le_refl _) _⟩
        · have HTB : Hid ((decide (i + 2 < s.size) && decide (byt s (i + 1) = 45) && decide (byt s (i + 2) ≠ 93)) = false) := by show _ = _; simp [h2]
          have hr2' : (r.size : Int) ≤ 2 := by rw [HRS.out]; omega
          have HXX : Hid (item s o i = .ok (Oct.has [byt s i]) (i + 1)) := by show _ = _; rw [HX0.out, HPB.out, HSB.out]; simp only [Bool.false_eq_true, if_false]; rw [if_neg (by rw [HTB.out]; simp)]
          have hi3 : i ≤ 1024 := by omega
          have hr0 : 0 < r.size := by rw [HRS.out]; omega
          have hr0' : (0 : Int) < (r.size : Int) := by omega
          have HB0 : Hid (byt s i = r[0].toNat) := by show _ = _; have := HRB.out 0; rw [Nat.add_zero] at this; rw [← this]; exact byt_eq hr0
          have f1 := HR2.out.frozen 1
          have HR3 : Hid (RB (w2.setCell ⟨B, 1, none⟩ (.int .i64 ((i : Int) + 1))) B s (i + 1) d) := HR2.out.at (i + 1)
          have HZ3 : Hid (SB (w2.setCell ⟨B, 1, none⟩ (.int .i64 ((i : Int) + 1))) R Oct.none) := HZ2.out.other HBR.out _ _
          have HG3 : Hid (w.grownBy (w2.setCell ⟨B, 1, none⟩ (.int .i64 ((i : Int) + 1))) (some B)) := grown_trans HG2.out (grown_set _ _ _ _)
          go_upto_region 11 with fail
          obtain ⟨w3, hw3⟩ : ∃ w3, w3 = w2.setCell ⟨B, 1, none⟩ (.int .i64 ((i : Int) + 1)) := ⟨_, rfl⟩
          rw [← hw3] at HR3 HZ3 HG3 ⊢
          clear hw3 c0 c1 c2 f1
          obtain ⟨b, hb⟩ : ∃ b, b = r[0].toNat := ⟨_, rfl⟩
          have hb256 : b < 256 := by rw [hb]; exact UInt8.toNat_lt _
          have HBB : Hid (b = r[0].toNat) := hb
          go_wp2_with fail
          refine (of_any _ 1 1 [r[0].toNat] _ rfl (by simp [maxLen]) (bytesAt_new w3 [r[0].toNat] 5 (0, 0)) (by intro b hb; simp at hb; rw [hb]; exact UInt8.toNat_lt _)).mono ?_
          rintro e w4 ⟨rfl, k4⟩
          have hal : Below w3.heap.size w3 (w3.alloc (.cells ([r[0].toNat].map (fun b : Nat => Value.int .u8 (b : Nat))).toArray 5)) := (Below.refl _ _).alloc (Nat.le_refl _) _
          have HR4 : Hid (RB w4 B s (i + 1) d) := (HR3.out.later hal).later k4
          have HZ4 : Hid (SB w4 R Oct.none) := (HZ3.out.later hal).later k4
          have HG4 : Hid (w.grownBy w4 (some B)) := grown_below (grown_below HG3.out hal) k4
          clear k4 hal
          obtain ⟨z0, z1, z2, z3⟩ := HZ4.out.cells
          have y0 := HZ4.out.frozen 0
          have y1 := HZ4.out.frozen 1
          have y2 := HZ4.out.frozen 2
          have y3 := HZ4.out.frozen 3
          unfold setV
          go_wp2
          refine post_set Try.f91 4 rfl rfl rfl (HZ4.out.put4 (Oct.has [r[0].toNat])) ?_
          unfold Reads
          rw [HXX.out, HB0.out]
          exact ⟨by omega, _, rfl, rfl, (rb_put4 HR4.out HBR.out _), grown_put4 HG4.out (by rw [HRR.out]; exact Nat.le_refl _) _⟩
end Go.Proofs.Ytjmbimgofceanaa
