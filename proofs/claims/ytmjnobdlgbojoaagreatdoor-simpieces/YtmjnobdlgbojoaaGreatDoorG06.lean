
import Derived.Test.YtmjnobdlgbojoaaGreatDoorG05
import Derived.Test.YtmjnobdlgbojoaaGreatDoorG01
namespace Go.Proofs.YtmjnobdlgbojoaaGreatDoor
open Go.RowKit
attribute [local go_sem ↓] Go.wp_at_zero Go.wp_at_succ
theorem byt_list (r : ByteArray) (k : Nat) : byt r k = (r.data.toList.getD k 0).toNat := by
  unfold byt
  by_cases h : k < r.size
  · rw [dif_pos h]
    have h' : k < r.data.toList.length := by simpa using h
    rw [List.getD_eq_getElem?_getD, List.getElem?_eq_getElem h']
    simp
    rfl
  · rw [dif_neg h]
    have h' : r.data.toList.length ≤ k := by
      have : r.data.toList.length = r.size := by simp
      omega
    rw [List.getD_eq_getElem?_getD, List.getElem?_eq_none h']
    simp
theorem prefix2 (r : ByteArray) : Lib.hasPrefix r.data.toList [91, 58] = (decide (1 < r.size) && decide (byt r 0 = 91) && decide (byt r 1 = 58)) := by
  rw [byt_list, byt_list]
  have hl : r.size = r.data.toList.length := by simp
  rw [hl]
  generalize r.data.toList = l
  rw [Bool.eq_iff_iff]
  cases l with
  | nil => simp [Lib.hasPrefix]
  | cons a l =>
    cases l with
    | nil => simp [Lib.hasPrefix]
    | cons b l =>
      simp [Lib.hasPrefix, ← UInt8.toNat_inj]
      constructor
      · rintro ⟨h1, h2⟩; exact ⟨h1.symm, h2.symm⟩
      · rintro ⟨h1, h2⟩; exact ⟨h1.symm, h2.symm⟩
theorem rest_prefix (s : ByteArray) (i : Nat) : Lib.hasPrefix (rest s i).data.toList [91, 58] = (decide (i + 1 < s.size) && decide (byt s i = 91) && decide (byt s (i + 1) = 58)) := by
  rw [prefix2, rest_size, rest_byt, rest_byt]
  have : decide (1 < s.size - i) = decide (i + 1 < s.size) := by rw [Bool.eq_iff_iff]; simp; omega
  rw [this]
  rfl
set_option maxHeartbeats 2000000 in
theorem item_walk (B o i d : Nat) (s : ByteArray) (w : World) (h : RB w B s i d) (hi : i ≤ s.size) (hs : s.size ≤ 1024) (hm : GM w) : Calls Tryz.prog 94 #[.pointer (some ⟨B, 0, none⟩), .int .i64 (o : Nat)] w (Reads w B s d (item s o i) SetV) := by
  have HZ0 : Hid (SB (w.alloc (.cells #[.int .u64 0, .int .u64 0, .int .u64 0, .int .u64 0] 28)) w.heap.size Oct.none) := sb_zero w
  have HR1 : Hid (RB (w.alloc (.cells #[.int .u64 0, .int .u64 0, .int .u64 0, .int .u64 0] 28)) B s i d) := h.later ((Below.refl _ _).alloc (Nat.le_refl _) _)
  have HM1 : Hid (GM (w.alloc (.cells #[.int .u64 0, .int .u64 0, .int .u64 0, .int .u64 0] 28))) := hm.later ((Below.refl _ _).alloc (Nat.le_refl _) _)
  have HBR : Hid (w.heap.size ≠ B) := by have := h.lt; show _ ≠ _; omega
  obtain ⟨w1, hw1⟩ : ∃ w1, w1 = w.alloc (.cells #[.int .u64 0, .int .u64 0, .int .u64 0, .int .u64 0] 28) := ⟨_, rfl⟩
  have HG1 : Hid (w.grownBy w1 (some B)) := by rw [hw1]; exact grown_alloc _ _ _
  rw [← hw1] at HR1 HZ0 HM1
  have HW1 : Hid (w1 = _) := hw1
  clear hw1 h
  obtain ⟨R, hR⟩ : ∃ R, R = w.heap.size := ⟨_, rfl⟩
  rw [← hR] at HZ0 HBR
  have HRR : Hid (R = _) := hR
  clear hR
  obtain ⟨c0, c1, c2⟩ := HR1.out.cells
  have hi2 : (i : Int) ≤ (s.size : Int) := by omega
  go_enter Tryz.func94, Tryz.ntmps94
  go_upto_region 1 with fail
  rw [← HW1.out, ← HRR.out]
  clear HW1
  go_quiet (fail)
  have HR2 : Hid (RB (w1.drewN nq) B s i d) := HR1.out.later (below_drewN _ _ _)
  have HZ2 : Hid (SB (w1.drewN nq) R Oct.none) := HZ0.out.later (below_drewN _ _ _)
  have HM2 : Hid (GM (w1.drewN nq)) := HM1.out.later (below_drewN _ _ _)
  have HG2 : Hid (w.grownBy (w1.drewN nq) (some B)) := grown_below HG1.out (below_drewN _ _ _)
  obtain ⟨w2, hw2⟩ : ∃ w2, w2 = w1.drewN nq := ⟨_, rfl⟩
  rw [← hw2] at HR2 HZ2 HG2 HM2
  have HW2 : Hid (w2 = _) := hw2
  clear hw2 c0 c1 c2 HR1 HZ0 HG1 HM1 hm
  go_upto_region 2 with fail
  rw [← HW2.out]
  clear HW2
  obtain ⟨c0, c1, c2⟩ := HR2.out.cells
  by_cases hend : i = s.size
  · have HX : Hid (item s o i = .bad o 43) := by show _ = _; simp [item, hend]
    go_wp2_with fail
    refine (giveUp_any o 43 _).mono ?_
    rintro e w3 ⟨rfl, k3⟩
    go_wp2
    refine ⟨rfl, ?_⟩
    unfold Reads
    rw [← hend, HX.out]
    exact ⟨rfl, grown_below HG2.out k3⟩
  · have HX0 : Hid (item s o i = if decide (i + 1 < s.size) && decide (byt s i = 91) && decide (byt s (i + 1) = 58) then class_ s o i else if special s i then .bad i 43 else if decide (i + 2 < s.size) && decide (byt s (i + 1) = 45) && decide (byt s (i + 2) ≠ 93) then span_ s i else .ok (Oct.has [byt s i]) (i + 1)) := by show _ = _; unfold item; rw [if_neg hend]
    have hlt : i < s.size := by omega
    have HPF : Hid (∀ v, Calls Tryz.prog 99 #[.string (s.extract i s.size), .string ⟨#[91, 58]⟩] v fun e w' => e = .returned (.bool (decide (i + 1 < s.size) && decide (byt s i = 91) && decide (byt s (i + 1) = 58))) ∧ w' = v) := fun v => (Tryz.strings_HasPrefix (rest s i) ⟨#[91, 58]⟩ v).mono (fun _ _ h => ⟨by rw [h.1]; exact ret_bool (rest_prefix s i), h.2⟩)
    have HSP : Hid (∀ v, Calls Tryz.prog 101 #[.string (s.extract i s.size)] v fun e w' => e = .returned (.bool (special s i)) ∧ w' = v) := fun v => (special_any (rest s i) v).mono (fun _ _ h => ⟨by rw [h.1, special_rest], h.2⟩)
    have HRS : Hid ((s.extract i s.size).size = s.size - i) := rest_size s i
    have HRB : Hid (∀ k, byt (s.extract i s.size) k = byt s (i + k)) := rest_byt s i
    have hne : ¬ (s.extract i s.size).size = 0 := by rw [HRS.out]; omega
    obtain ⟨r, hr⟩ : ∃ r, r = s.extract i s.size := ⟨_, rfl⟩
    rw [← hr] at HPF HSP HRS HRB hne ⊢
    clear hr
    have hemp : r.toList.isEmpty = false := by
      cases h : r.toList.isEmpty with
      | false => rfl
      | true =>
        have h2 : (r.toList == []) = true := by rw [List.isEmpty_iff] at h; rw [h]; rfl
        have := name_of h2
        rw [this] at hne
        exact absurd rfl hne
    go_wp2_with fail
    refine (HPF.out _).mono ?_
    rintro e w' ⟨rfl, hw'⟩
    have hw' := hw'.symm
    subst hw'
    obtain ⟨pb, hpb⟩ : ∃ pb, pb = (decide (i + 1 < s.size) && decide (byt s i = 91) && decide (byt s (i + 1) = 58)) := ⟨_, rfl⟩
    have HPL : Hid (pb = true → i + 2 ≤ s.size) := fun h => by rw [hpb] at h; simp at h; omega
    rw [← hpb] at HX0 ⊢
    clear hpb HPF
    cases hpv : pb with
    | true =>
      have HPB : Hid (pb = true) := hpv
      have hi22 := HPL.out hpv
      have HXX : Hid (item s o i = class_ s o i) := by show _ = _; rw [HX0.out, hpv]; rfl
      clear hpv
      go_wp2_with fail
      refine (class_walk B o i d s _ HR2.out hi22 hs HM2.out).mono ?_
      intro e w3 h3
      have HX : Hid (item s o i = class_ s o i) := HXX
      cases hc : class_ s o i with
      | out => rw [hc] at h3; exact h3.elim
      | bad a c =>
        rw [hc] at h3
        obtain ⟨rfl, hg3⟩ := h3
        rw [hc] at HX
        have HG3 : Hid (w.grownBy w3 (some B)) := grown_trans HG2.out hg3
        clear hc hg3 HXX
        go_wp2
        refine ⟨rfl, ?_⟩
        unfold Reads
        rw [HX.out]
        exact ⟨rfl, HG3.out⟩
      | ok x j =>
        rw [hc] at h3
        obtain ⟨hj, v, rfl, rfl, hr3, hg3⟩ := h3
        rw [hc] at HX
        have HR3 : Hid (RB w3 B s j d) := hr3
        have HZ3 : Hid (SB w3 R Oct.none) := (hg3.block R HZ2.out.lt (by have := HBR.out; simp; exact this)).trans HZ2.out
        have HG3 : Hid (w.grownBy w3 (some B)) := grown_trans HG2.out hg3
        clear hc hg3 hr3 HXX
        obtain ⟨z0, z1, z2, z3⟩ := HZ3.out.cells
        have y0 := HZ3.out.frozen 0
        have y1 := HZ3.out.frozen 1
        have y2 := HZ3.out.frozen 2
        have y3 := HZ3.out.frozen 3
        unfold setV
        go_wp2
        refine post_set Tryz.f94 4 rfl rfl rfl (HZ3.out.put4 x) ?_
        unfold Reads
        rw [HX.out]
        exact ⟨hj, _, rfl, rfl, (rb_put4 HR3.out HBR.out _), grown_put4 HG3.out (by rw [HRR.out]; exact Nat.le_refl _) _⟩
    | false =>
      have HPB : Hid (pb = false) := hpv
      clear hpv
      go_wp2_with fail
      refine (HSP.out _).mono ?_
      rintro e w' ⟨rfl, hw'⟩
      have hw' := hw'.symm
      subst hw'
      cases hsv : special s i with
      | true =>
        have HX : Hid (item s o i = .bad i 43) := by show _ = _; rw [HX0.out, HPB.out, hsv]; rfl
        clear hsv
        go_wp2_with fail
        refine (giveUp_any i 43 _).mono ?_
        rintro e w3 ⟨rfl, k3⟩
        go_wp2
        refine ⟨rfl, ?_⟩
        unfold Reads
        rw [HX.out]
        exact ⟨rfl, grown_below HG2.out k3⟩
      | false =>
        have HSB : Hid (special s i = false) := hsv
        clear hsv
        by_cases h2 : i + 2 < s.size
        · have hr2 : 2 < r.size := by rw [HRS.out]; omega
          have hr1 : 1 < r.size := by omega
          have hr2' : (2 : Int) < (r.size : Int) := by omega
          have hr1' : (1 : Int) < (r.size : Int) := by omega
          have HB1 : Hid (byt s (i + 1) = r[1].toNat) := by show _ = _; rw [← HRB.out 1]; exact byt_eq hr1
          have HB2 : Hid (byt s (i + 2) = r[2].toNat) := by show _ = _; rw [← HRB.out 2]; exact byt_eq hr2
          by_cases h45 : r[1].toNat = 45
          · by_cases h93 : r[2].toNat = 93
            · have HTB : Hid ((decide (i + 2 < s.size) && decide (byt s (i + 1) = 45) && decide (byt s (i + 2) ≠ 93)) = false) := by show _ = _; rw [HB1.out, HB2.out]; simp [h93]
              have g1 : ((r[1].toNat : Int) == 45) = true := by simp; omega
              have g2 : ((r[2].toNat : Int) != 93) = false := by simp; omega
              have g3 : ((r[2].toNat : Int) == 93) = true := by simp; omega
              clear h45 h93
              have HXX : Hid (item s o i = .ok (Oct.has [byt s i]) (i + 1)) := by show _ = _; rw [HX0.out, HPB.out, HSB.out]; simp only [Bool.false_eq_true, if_false]; rw [if_neg (by rw [HTB.out]; simp)]
              have hi3 : i ≤ 1024 := by omega
              have hr0 : 0 < r.size := by rw [HRS.out]; omega
              have hr0' : (0 : Int) < (r.size : Int) := by omega
              have HB0 : Hid (byt s i = r[0].toNat) := by show _ = _; have := HRB.out 0; rw [Nat.add_zero] at this; rw [← this]; exact byt_eq hr0
              have f1 := HR2.out.frozen 1
              have HR3 : Hid (RB (w2.setCell ⟨B, 1, none⟩ (.int .i64 ((i : Int) + 1))) B s (i + 1) d) := HR2.out.at (i + 1)
              have HZ3 : Hid (SB (w2.setCell ⟨B, 1, none⟩ (.int .i64 ((i : Int) + 1))) R Oct.none) := HZ2.out.other HBR.out _ _
              have HG3 : Hid (w.grownBy (w2.setCell ⟨B, 1, none⟩ (.int .i64 ((i : Int) + 1))) (some B)) := grown_trans HG2.out (grown_set _ _ _ _)
              go_upto_region 11 with fail
              obtain ⟨w3, hw3⟩ : ∃ w3, w3 = w2.setCell ⟨B, 1, none⟩ (.int .i64 ((i : Int) + 1)) := ⟨_, rfl⟩
              rw [← hw3] at HR3 HZ3 HG3 ⊢
              clear hw3 c0 c1 c2 f1
              obtain ⟨b, hb⟩ : ∃ b, b = r[0].toNat := ⟨_, rfl⟩
              have hb256 : b < 256 := by rw [hb]; exact UInt8.toNat_lt _
              have HBB : Hid (b = r[0].toNat) := hb
              go_wp2_with fail
              refine (of_any _ 1 1 [r[0].toNat] _ rfl (by simp [maxLen]) (bytesAt_new w3 [r[0].toNat] 5 (0, 0)) (by intro b hb; simp at hb; rw [hb]; exact UInt8.toNat_lt _)).mono ?_
              rintro e w4 ⟨rfl, k4⟩
              have hal : Below w3.heap.size w3 (w3.alloc (.cells ([r[0].toNat].map (fun b : Nat => Value.int .u8 (b : Nat))).toArray 5)) := (Below.refl _ _).alloc (Nat.le_refl _) _
              have HR4 : Hid (RB w4 B s (i + 1) d) := (HR3.out.later hal).later k4
              have HZ4 : Hid (SB w4 R Oct.none) := (HZ3.out.later hal).later k4
              have HG4 : Hid (w.grownBy w4 (some B)) := grown_below (grown_below HG3.out hal) k4
              clear k4 hal
              obtain ⟨z0, z1, z2, z3⟩ := HZ4.out.cells
              have y0 := HZ4.out.frozen 0
              have y1 := HZ4.out.frozen 1
              have y2 := HZ4.out.frozen 2
              have y3 := HZ4.out.frozen 3
              unfold setV
              go_wp2
              refine post_set Tryz.f94 4 rfl rfl rfl (HZ4.out.put4 (Oct.has [r[0].toNat])) ?_
              unfold Reads
              rw [HXX.out, HB0.out]
              exact ⟨by omega, _, rfl, rfl, (rb_put4 HR4.out HBR.out _), grown_put4 HG4.out (by rw [HRR.out]; exact Nat.le_refl _) _⟩
            · have HTB : Hid ((decide (i + 2 < s.size) && decide (byt s (i + 1) = 45) && decide (byt s (i + 2) ≠ 93)) = true) := by show _ = _; rw [HB1.out, HB2.out]; simp [h2, h45, h93]
              have HXX : Hid (item s o i = span_ s i) := by show _ = _; rw [HX0.out, HPB.out, HSB.out]; simp only [Bool.false_eq_true, if_false]; rw [if_pos HTB.out]
              have g1 : ((r[1].toNat : Int) == 45) = true := by simp; omega
              have g2 : ((r[2].toNat : Int) != 93) = true := by simp; omega
              have g3 : ((r[2].toNat : Int) == 93) = false := by simp; omega
              clear h45 h93
              go_wp2_with fail
              refine (span_walk B i d s _ HR2.out h2 hs).mono ?_
              intro e w3 h3
              have HX : Hid (item s o i = span_ s i) := HXX
              cases hc : span_ s i with
              | out => rw [hc] at h3; exact h3.elim
              | bad a c =>
                rw [hc] at h3
                obtain ⟨rfl, hg3⟩ := h3
                rw [hc] at HX
                have HG3 : Hid (w.grownBy w3 (some B)) := grown_trans HG2.out hg3
                clear hc hg3 HXX
                go_wp2
                refine ⟨rfl, ?_⟩
                unfold Reads
                rw [HX.out]
                exact ⟨rfl, HG3.out⟩
              | ok x j =>
                rw [hc] at h3
                obtain ⟨hj, v, rfl, rfl, hr3, hg3⟩ := h3
                rw [hc] at HX
                have HR3 : Hid (RB w3 B s j d) := hr3
                have HZ3 : Hid (SB w3 R Oct.none) := (hg3.block R HZ2.out.lt (by have := HBR.out; simp; exact this)).trans HZ2.out
                have HG3 : Hid (w.grownBy w3 (some B)) := grown_trans HG2.out hg3
                clear hc hg3 hr3 HXX
                obtain ⟨z0, z1, z2, z3⟩ := HZ3.out.cells
                have y0 := HZ3.out.frozen 0
                have y1 := HZ3.out.frozen 1
                have y2 := HZ3.out.frozen 2
                have y3 := HZ3.out.frozen 3
                unfold setV
                go_wp2
                refine post_set Tryz.f94 4 rfl rfl rfl (HZ3.out.put4 x) ?_
                unfold Reads
                rw [HX.out]
                exact ⟨hj, _, rfl, rfl, (rb_put4 HR3.out HBR.out _), grown_put4 HG3.out (by rw [HRR.out]; exact Nat.le_refl _) _⟩
          · have HTB : Hid ((decide (i + 2 < s.size) && decide (byt s (i + 1) = 45) && decide (byt s (i + 2) ≠ 93)) = false) := by show _ = _; rw [HB1.out]; simp [h45]
            have g1 : ((r[1].toNat : Int) == 45) = false := by simp; omega
            clear h45
            have HXX : Hid (item s o i = .ok (Oct.has [byt s i]) (i + 1)) := by show _ = _; rw [HX0.out, HPB.out, HSB.out]; simp only [Bool.false_eq_true, if_false]; rw [if_neg (by rw [HTB.out]; simp)]
            have hi3 : i ≤ 1024 := by omega
            have hr0 : 0 < r.size := by rw [HRS.out]; omega
            have hr0' : (0 : Int) < (r.size : Int) := by omega
            have HB0 : Hid (byt s i = r[0].toNat) := by show _ = _; have := HRB.out 0; rw [Nat.add_zero] at this; rw [← this]; exact byt_eq hr0
            have f1 := HR2.out.frozen 1
            have HR3 : Hid (RB (w2.setCell ⟨B, 1, none⟩ (.int .i64 ((i : Int) + 1))) B s (i + 1) d) := HR2.out.at (i + 1)
            have HZ3 : Hid (SB (w2.setCell ⟨B, 1, none⟩ (.int .i64 ((i : Int) + 1))) R Oct.none) := HZ2.out.other HBR.out _ _
            have HG3 : Hid (w.grownBy (w2.setCell ⟨B, 1, none⟩ (.int .i64 ((i : Int) + 1))) (some B)) := grown_trans HG2.out (grown_set _ _ _ _)
            go_upto_region 11 with fail
            obtain ⟨w3, hw3⟩ : ∃ w3, w3 = w2.setCell ⟨B, 1, none⟩ (.int .i64 ((i : Int) + 1)) := ⟨_, rfl⟩
            rw [← hw3] at HR3 HZ3 HG3 ⊢
            clear hw3 c0 c1 c2 f1
            obtain ⟨b, hb⟩ : ∃ b, b = r[0].toNat := ⟨_, rfl⟩
            have hb256 : b < 256 := by rw [hb]; exact UInt8.toNat_lt _
            have HBB : Hid (b = r[0].toNat) := hb
            go_wp2_with fail
            refine (of_any _ 1 1 [r[0].toNat] _ rfl (by simp [maxLen]) (bytesAt_new w3 [r[0].toNat] 5 (0, 0)) (by intro b hb; simp at hb; rw [hb]; exact UInt8.toNat_lt _)).mono ?_
            rintro e w4 ⟨rfl, k4⟩
            have hal : Below w3.heap.size w3 (w3.alloc (.cells ([r[0].toNat].map (fun b : Nat => Value.int .u8 (b : Nat))).toArray 5)) := (Below.refl _ _).alloc (Nat.le_refl _) _
            have HR4 : Hid (RB w4 B s (i + 1) d) := (HR3.out.later hal).later k4
            have HZ4 : Hid (SB w4 R Oct.none) := (HZ3.out.later hal).later k4
            have HG4 : Hid (w.grownBy w4 (some B)) := grown_below (grown_below HG3.out hal) k4
            clear k4 hal
            obtain ⟨z0, z1, z2, z3⟩ := HZ4.out.cells
            have y0 := HZ4.out.frozen 0
            have y1 := HZ4.out.frozen 1
            have y2 := HZ4.out.frozen 2
            have y3 := HZ4.out.frozen 3
            unfold setV
            go_wp2
            refine post_set Tryz.f94 4 rfl rfl rfl (HZ4.out.put4 (Oct.has [r[0].toNat])) ?_
            unfold Reads
            rw [HXX.out, HB0.out]
            exact ⟨by omega, _, rfl, rfl, (rb_put4 HR4.out HBR.out _), grown_put4 HG4.out (by rw [HRR.out]; exact Nat.le_refl _) _⟩
        · have HTB : Hid ((decide (i + 2 < s.size) && decide (byt s (i + 1) = 45) && decide (byt s (i + 2) ≠ 93)) = false) := by show _ = _; simp [h2]
          have hr2' : (r.size : Int) ≤ 2 := by rw [HRS.out]; omega
          have HXX : Hid (item s o i = .ok (Oct.has [byt s i]) (i + 1)) := by show _ = _; rw [HX0.out, HPB.out, HSB.out]; simp only [Bool.false_eq_true, if_false]; rw [if_neg (by rw [HTB.out]; simp)]
          have hi3 : i ≤ 1024 := by omega
          have hr0 : 0 < r.size := by rw [HRS.out]; omega
          have hr0' : (0 : Int) < (r.size : Int) := by omega
          have HB0 : Hid (byt s i = r[0].toNat) := by show _ = _; have := HRB.out 0; rw [Nat.add_zero] at this; rw [← this]; exact byt_eq hr0
          have f1 := HR2.out.frozen 1
          have HR3 : Hid (RB (w2.setCell ⟨B, 1, none⟩ (.int .i64 ((i : Int) + 1))) B s (i + 1) d) := HR2.out.at (i + 1)
          have HZ3 : Hid (SB (w2.setCell ⟨B, 1, none⟩ (.int .i64 ((i : Int) + 1))) R Oct.none) := HZ2.out.other HBR.out _ _
          have HG3 : Hid (w.grownBy (w2.setCell ⟨B, 1, none⟩ (.int .i64 ((i : Int) + 1))) (some B)) := grown_trans HG2.out (grown_set _ _ _ _)
          go_upto_region 11 with fail
          obtain ⟨w3, hw3⟩ : ∃ w3, w3 = w2.setCell ⟨B, 1, none⟩ (.int .i64 ((i : Int) + 1)) := ⟨_, rfl⟩
          rw [← hw3] at HR3 HZ3 HG3 ⊢
          clear hw3 c0 c1 c2 f1
          obtain ⟨b, hb⟩ : ∃ b, b = r[0].toNat := ⟨_, rfl⟩
          have hb256 : b < 256 := by rw [hb]; exact UInt8.toNat_lt _
          have HBB : Hid (b = r[0].toNat) := hb
          go_wp2_with fail
          refine (of_any _ 1 1 [r[0].toNat] _ rfl (by simp [maxLen]) (bytesAt_new w3 [r[0].toNat] 5 (0, 0)) (by intro b hb; simp at hb; rw [hb]; exact UInt8.toNat_lt _)).mono ?_
          rintro e w4 ⟨rfl, k4⟩
          have hal : Below w3.heap.size w3 (w3.alloc (.cells ([r[0].toNat].map (fun b : Nat => Value.int .u8 (b : Nat))).toArray 5)) := (Below.refl _ _).alloc (Nat.le_refl _) _
          have HR4 : Hid (RB w4 B s (i + 1) d) := (HR3.out.later hal).later k4
          have HZ4 : Hid (SB w4 R Oct.none) := (HZ3.out.later hal).later k4
          have HG4 : Hid (w.grownBy w4 (some B)) := grown_below (grown_below HG3.out hal) k4
          clear k4 hal
          obtain ⟨z0, z1, z2, z3⟩ := HZ4.out.cells
          have y0 := HZ4.out.frozen 0
          have y1 := HZ4.out.frozen 1
          have y2 := HZ4.out.frozen 2
          have y3 := HZ4.out.frozen 3
          unfold setV
          go_wp2
          refine post_set Tryz.f94 4 rfl rfl rfl (HZ4.out.put4 (Oct.has [r[0].toNat])) ?_
          unfold Reads
          rw [HXX.out, HB0.out]
          exact ⟨by omega, _, rfl, rfl, (rb_put4 HR4.out HBR.out _), grown_put4 HG4.out (by rw [HRR.out]; exact Nat.le_refl _) _⟩
end Go.Proofs.YtmjnobdlgbojoaaGreatDoor


namespace Go.Proofs.YtmjnobdlgbojoaaGreatDoor
open Go Go.RowKit
structure Sx (w : World) (s : ByteArray) (B Y R d : Nat) (u : World) (i : Nat) (A : Oct.S) : Prop where
  all : SB u Y A
  res : SB u R Oct.none
  rd : RB u B s i d
  gm : GM u
  grown : w.grownBy u (some B)
  hY : w.heap.size ≤ Y
  hR : w.heap.size ≤ R
  hYR : R ≠ Y
  hB : B < w.heap.size
  hB0 : 2 ≤ B
section
variable {w : World} {s : ByteArray} {B Y R d : Nat} {u u' : World} {i : Nat} {A : Oct.S}
theorem Sx.later (h : Sx w s B Y R d u i A) (hb : Below u.heap.size u u') : Sx w s B Y R d u' i A :=
  ⟨h.all.later hb, h.res.later hb, h.rd.later hb, h.gm.later hb, grown_below h.grown hb, h.hY, h.hR, h.hYR, h.hB, h.hB0⟩
theorem Sx.read (h : Sx w s B Y R d u i A) {j : Nat} (hg : u.grownBy u' (some B)) (hr : RB u' B s j d) : Sx w s B Y R d u' j A := by
  have h1 := h.hY
  have h2 := h.hR
  have h3 := h.hB
  exact ⟨(hg.block Y h.all.lt (by simp; omega)).trans h.all, (hg.block R h.res.lt (by simp; omega)).trans h.res, hr, h.gm.grown hg h.hB0, grown_trans h.grown hg, h1, h2, h.hYR, h3, h.hB0⟩
theorem gm_other {u : World} {Y : Nat} (h : GM u) (hY : 2 ≤ Y) (j : Nat) (v : Value) : GM (u.setCell ⟨Y, j, none⟩ v) := by
  obtain ⟨m, hm⟩ := h
  refine ⟨m, ?_⟩
  rw [World.cell?_of_block (w := u) (Below.heap_setCell u ⟨Y, j, none⟩ v 1 (fun e => by have e2 : 1 = Y := e; omega))]
  exact hm
theorem Sx.put (h : Sx w s B Y R d u i A) (t : Oct.S) : Sx w s B Y R d (put4 u Y t) i t := by
  have h1 := h.hY
  have h2 := h.hB
  have hY0 : 2 ≤ Y := by have := h.hB0; omega
  exact ⟨h.all.put4 t, h.res.put4_other h.hYR t, rb_put4 h.rd (by omega) t, gm_other (gm_other (gm_other (gm_other h.gm hY0 _ _) hY0 _ _) hY0 _ _) hY0 _ _, grown_put4 h.grown h1 t, h1, h.hR, h.hYR, h2, h.hB0⟩
end
theorem item_le {s : ByteArray} {o i j : Nat} {x : Oct.S} (hi : i ≤ s.size) (h : item s o i = .ok x j) : j ≤ s.size ∧ i < j := by
  unfold item at h
  split at h
  · cases h
  · rename_i hne
    split at h
    · rename_i hp
      simp at hp
      unfold class_ at h
      split at h
      · rename_i hc
        split at h
        · cases h
          have := class_room (s := s) (i := i) (by omega) hc
          omega
        · cases h
      · cases h
    · split at h
      · cases h
      · split at h
        · rename_i hp
          simp at hp
          unfold span_ at h
          split at h
          · cases h
          · cases h
            omega
        · cases h
          omega
def Fr8 (act a : Act) : Prop := a.tmps.size = 52 ∧ a.defers = act.defers ∧ ∀ k, k < 33 ∨ 39 ≤ k → a.tmps[k]? = act.tmps[k]?
theorem Fr8.put {act a : Act} (h : Fr8 act a) {k : Nat} (hd : 33 ≤ k) (hd2 : k < 39) (v : Value) : Fr8 act (a.put (some k) v) := by
  refine ⟨by simpa [Act.put] using h.1, by simpa [Act.put] using h.2.1, fun j hj => ?_⟩
  rw [← h.2.2 j hj]
  simp only [Act.put]
  exact Array.getElem?_setIfInBounds_ne (by omega)
theorem fr8_T {act a : Act} (h : Fr8 act a) {k : Nat} (hk : k < 33 ∨ 39 ≤ k) : T a k = T act k := by unfold T; rw [h.2.2 k hk]
theorem T_put {a : Act} {d : Nat} {v : Value} (h : d < a.tmps.size) : T (a.put (some d) v) d = v := put_same h
theorem T_put' {a : Act} {d e : Nat} {v : Value} (h : d ≠ e) : T (a.put (some d) v) e = T a e := put_other h
theorem enters69 : Enters 94 := fun args w => by simp [go_sem]
theorem ob_plain {o : Oper} {a : Act} {w w' : World} {K : Act → World → Prop} {Q : Exit → Act → World → Prop} {v : Value} (h : (execOp a.eval o).run Tryz.prog w = .ok (.value v) w') (hK : K (a.put o.dst v) w') : o.wp Tryz.prog a w K Q := by
  unfold Oper.wp
  rw [h]
  exact hK
theorem ob_skip {o : Oper} {a : Act} {w w' : World} {K : Act → World → Prop} {Q : Exit → Act → World → Prop} (h : (execOp a.eval o).run Tryz.prog w = .ok .skip w') (hK : K (a.put o.dst undef) w') : o.wp Tryz.prog a w K Q := by
  unfold Oper.wp
  rw [h]
  exact hK
theorem ob_call2any {o : Oper} {a : Act} {w : World} {K : Act → World → Prop} {Q : Exit → Act → World → Prop} {p q f : Nat} {ts : Array TypeId} (ho : o.op = .call { callee := .value (.func f), args := #[.tmp p, .tmp q], argTypes := ts }) (hf : Enters f) {v u : Value} (hx : T a p = v) (hy : T a q = u)
    (hc : Calls Tryz.prog f #[v, u] w fun e w' => (∃ r, e = .returned r ∧ K (a.put o.dst r) w') ∨ (∃ ch, e = .panicked ch ∧ Q (.panic ch) a w')) : o.wp Tryz.prog a w K Q := by
  have h : (execOp a.eval o).run Tryz.prog w = .ok (.enter f #[v, u]) w := by
    obtain ⟨dst, op, type, pos, after, guard⟩ := o
    simp only at ho
    subst ho
    simp [Act.eval, hx, hy, go_sem]
    exact hf _ _
  unfold Oper.wp
  rw [h]
  refine hc.mono ?_
  rintro e w' (⟨r, rfl, hK⟩ | ⟨ch, rfl, hQ⟩)
  · exact hK
  · exact hQ
structure Inv8 (w : World) (s : ByteArray) (B Y R d : Nat) (i j o : Nat) (A x : Oct.S) (act : Act) (L : Nat → Bool) (a : Act) (u : World) : Prop where
  fr : Fr8 act a
  o3 : L 3 = true → L 1 = true ∧ L 2 = true
  o4 : L 4 = true → L 0 = true ∧ L 3 = true
  o5 : L 5 = true → L 4 = true
  o6 : L 6 = true → L 5 = true
  v0 : L 0 = true → T a 33 = setV A
  v1 : L 1 = true → T a 34 = .pointer (some ⟨B, 0, none⟩)
  v2 : L 2 = true → T a 35 = .int .i64 (o : Nat)
  v3 : L 3 = true → T a 36 = setV x
  v4 : L 4 = true → ∃ g, T a 37 = .slice (some ⟨g, 0, none⟩) 2 2 ∧ (L 5 = false → SL u g [A, x])
  v5 : L 5 = true → T a 38 = setV (Oct.join A x)
  s0 : L 3 = false → Sx w s B Y R d u i A
  s3 : L 3 = true → L 6 = false → Sx w s B Y R d u j A
  s6 : L 6 = true → Sx w s B Y R d u j (Oct.join A x)
set_option maxRecDepth 100000 in
theorem reg8_ok {act : Act} {w : World} {s : ByteArray} {B Y R d : Nat} {W : World} {i j o : Nat} {A x : Oct.S} {Q : Exit → Act → World → Prop} (hT0 : T act 0 = .pointer (some ⟨B, 0, none⟩)) (hT3 : T act 3 = .int .i64 (o : Nat)) (hT5 : T act 5 = .pointer (some ⟨Y, 0, none⟩)) (hsz : act.tmps.size = 52)
    (hS : Sx w s B Y R d W i A) (hi : i ≤ s.size) (hs : s.size ≤ 1024) (hit : item s o i = .ok x j)
    (K : ∀ a' W', Fr8 act a' → j ≤ s.size → Sx w s B Y R d W' j (Oct.join A x) → Q .normal a' W') : (Code.region 8 (opsOf Tryz.f89 8) true).wp Tryz.prog Q act W := by
  have hj : j ≤ s.size := (item_le hi hit).1
  refine wp_region_inv (by kernel_rfl) (Inv8 w s B Y R d i j o A x act) ?wf ?step ?fin ?zero
  case zero =>
    intro L hL
    have h0 := hL 0 (by decide)
    have h1 := hL 1 (by decide)
    have h2 := hL 2 (by decide)
    have h3 := hL 3 (by decide)
    have h4 := hL 4 (by decide)
    have h5 := hL 5 (by decide)
    have h6 := hL 6 (by decide)
    exact ⟨⟨hsz, rfl, fun _ _ => rfl⟩, by simp [h3], by simp [h4], by simp [h5], by simp [h6], by simp [h0], by simp [h1], by simp [h2], by simp [h3], by simp [h4], by simp [h5], fun _ => hS.later (Below.refl _ _).drew, by simp [h3], by simp [h6]⟩
  case fin =>
    intro L a u hL hI
    exact K a u hI.fr hj (hI.s6 (hL 6 (by decide)))
  case wf =>
    have h : AllFrom (fun i o => ∀ e ∈ o.after, e.on < i) 0 (opsOf Tryz.f89 8).toList := by
      refine ⟨by simp, by simp, by simp, by simp, by simp, by simp, by simp, trivial⟩
    intro i o e ho he _
    have := allFrom_at h i o (by simpa using ho) e he
    omega
  case step =>
    have h : AllFrom (fun k p => p.guard = none ∧ ∀ L a u, Inv8 w s B Y R d i j o A x act L a u → L k = false → (∀ e ∈ p.after, Region.binds .any e = true → L e.on = true) → p.wp Tryz.prog a u (fun a' w' => Inv8 w s B Y R d i j o A x act (more L k) a' w') Q) 0 (opsOf Tryz.f89 8).toList := by
      refine ⟨⟨rfl, fun L a u hI hi hE => ?s0⟩, ⟨rfl, fun L a u hI hi hE => ?s1⟩, ⟨rfl, fun L a u hI hi hE => ?s2⟩, ⟨rfl, fun L a u hI hi hE => ?s3⟩, ⟨rfl, fun L a u hI hi hE => ?s4⟩, ⟨rfl, fun L a u hI hi hE => ?s5⟩, ⟨rfl, fun L a u hI hi hE => ?s6⟩, trivial⟩
      case s0 =>
        have hi : L 0 = false := hi
        have hsz' : a.tmps.size = 52 := hI.fr.1
        have h4 : L 4 = false := by
          cases h : L 4 with
          | false => rfl
          | true => have h2 := hI.o4 h; rw [hi] at h2; cases h2.1
        have h5 : L 5 = false := by
          cases h : L 5 with
          | false => rfl
          | true => have h2 := hI.o5 h; rw [h4] at h2; cases h2
        have h6 : L 6 = false := by
          cases h : L 6 with
          | false => rfl
          | true => have h2 := hI.o6 h; rw [h5] at h2; cases h2
        have hall : SB u Y A := by
          cases h : L 3 with
          | false => exact (hI.s0 h).all
          | true => exact (hI.s3 h h6).all
        refine Oper.wp_mono ?_ (ob_load4 (r := fun v _ => v = setV A) rfl ((fr8_T hI.fr (by omega)).trans hT5) hall rfl)
        rintro a' w' ⟨v, rfl, hbel, rfl⟩
        exact ⟨hI.fr.put (by decide) (by decide) _, fun h => by have h2 := hI.o3 (by simpa [more] using h); exact ⟨by simp [more, h2.1], by simp [more, h2.2]⟩, fun h => by have h2 := hI.o4 (by simpa [more] using h); exact ⟨by simp [more], by simp [more, h2.2]⟩, fun h => by have h2 := hI.o5 (by simpa [more] using h); simp [more, h2], fun h => by have h2 := hI.o6 (by simpa [more] using h); simp [more, h2], fun _ => T_put (by omega), fun h => (T_put' (by decide)).trans (hI.v1 (by simpa [more] using h)), fun h => (T_put' (by decide)).trans (hI.v2 (by simpa [more] using h)), fun h => (T_put' (by decide)).trans (hI.v3 (by simpa [more] using h)), fun h => by simp [more, h4] at h, fun h => by simp [more, h5] at h, fun h => (hI.s0 (by simpa [more] using h)).later hbel, fun h _ => (hI.s3 (by simpa [more] using h) h6).later hbel, fun h => by simp [more, h6] at h⟩
      case s1 =>
        have hi : L 1 = false := hi
        have hsz' : a.tmps.size = 52 := hI.fr.1
        have h3 : L 3 = false := by
          cases h : L 3 with
          | false => rfl
          | true => have h2 := hI.o3 h; rw [hi] at h2; cases h2.1
        have h4 : L 4 = false := by
          cases h : L 4 with
          | false => rfl
          | true => have h2 := hI.o4 h; rw [h3] at h2; cases h2.2
        have h5 : L 5 = false := by
          cases h : L 5 with
          | false => rfl
          | true => have h2 := hI.o5 h; rw [h4] at h2; cases h2
        have h6 : L 6 = false := by
          cases h : L 6 with
          | false => rfl
          | true => have h2 := hI.o6 h; rw [h5] at h2; cases h2
        refine Oper.wp_mono ?_ (ob_move (r := fun v _ => v = .pointer (some ⟨B, 0, none⟩)) rfl ((fr8_T hI.fr (by omega)).trans hT0) rfl)
        rintro a' w' ⟨v, rfl, hbel, rfl⟩
        exact ⟨hI.fr.put (by decide) (by decide) _, fun h => by have h2 := hI.o3 (by simpa [more] using h); exact ⟨by simp [more], by simp [more, h2.2]⟩, fun h => by have h2 := hI.o4 (by simpa [more] using h); exact ⟨by simp [more, h2.1], by simp [more, h2.2]⟩, fun h => by have h2 := hI.o5 (by simpa [more] using h); simp [more, h2], fun h => by have h2 := hI.o6 (by simpa [more] using h); simp [more, h2], fun h => (T_put' (by decide)).trans (hI.v0 (by simpa [more] using h)), fun _ => T_put (by omega), fun h => (T_put' (by decide)).trans (hI.v2 (by simpa [more] using h)), fun h => (T_put' (by decide)).trans (hI.v3 (by simpa [more] using h)), fun h => by simp [more, h4] at h, fun h => by simp [more, h5] at h, fun _ => (hI.s0 h3).later hbel, fun h => by simp [more, h3] at h, fun h => by simp [more, h6] at h⟩
      case s2 =>
        have hi : L 2 = false := hi
        have hsz' : a.tmps.size = 52 := hI.fr.1
        have h3 : L 3 = false := by
          cases h : L 3 with
          | false => rfl
          | true => have h2 := hI.o3 h; rw [hi] at h2; cases h2.2
        have h4 : L 4 = false := by
          cases h : L 4 with
          | false => rfl
          | true => have h2 := hI.o4 h; rw [h3] at h2; cases h2.2
        have h5 : L 5 = false := by
          cases h : L 5 with
          | false => rfl
          | true => have h2 := hI.o5 h; rw [h4] at h2; cases h2
        have h6 : L 6 = false := by
          cases h : L 6 with
          | false => rfl
          | true => have h2 := hI.o6 h; rw [h5] at h2; cases h2
        refine Oper.wp_mono ?_ (ob_move (r := fun v _ => v = .int .i64 (o : Nat)) rfl ((fr8_T hI.fr (by omega)).trans hT3) rfl)
        rintro a' w' ⟨v, rfl, hbel, rfl⟩
        exact ⟨hI.fr.put (by decide) (by decide) _, fun h => by have h2 := hI.o3 (by simpa [more] using h); exact ⟨by simp [more, h2.1], by simp [more]⟩, fun h => by have h2 := hI.o4 (by simpa [more] using h); exact ⟨by simp [more, h2.1], by simp [more, h2.2]⟩, fun h => by have h2 := hI.o5 (by simpa [more] using h); simp [more, h2], fun h => by have h2 := hI.o6 (by simpa [more] using h); simp [more, h2], fun h => (T_put' (by decide)).trans (hI.v0 (by simpa [more] using h)), fun h => (T_put' (by decide)).trans (hI.v1 (by simpa [more] using h)), fun _ => T_put (by omega), fun h => (T_put' (by decide)).trans (hI.v3 (by simpa [more] using h)), fun h => by simp [more, h4] at h, fun h => by simp [more, h5] at h, fun _ => (hI.s0 h3).later hbel, fun h => by simp [more, h3] at h, fun h => by simp [more, h6] at h⟩
      case s3 =>
        have hi : L 3 = false := hi
        have hsz' : a.tmps.size = 52 := hI.fr.1
        have h3 : L 3 = false := hi
        have h4 : L 4 = false := by
          cases h : L 4 with
          | false => rfl
          | true => have h2 := hI.o4 h; rw [h3] at h2; cases h2.2
        have h5 : L 5 = false := by
          cases h : L 5 with
          | false => rfl
          | true => have h2 := hI.o5 h; rw [h4] at h2; cases h2
        have h6 : L 6 = false := by
          cases h : L 6 with
          | false => rfl
          | true => have h2 := hI.o6 h; rw [h5] at h2; cases h2
        have hx1 := hI.v1 (hE ⟨1, .data⟩ (by simp) rfl)
        have hx2 := hI.v2 (hE ⟨2, .data⟩ (by simp) rfl)
        have hS0 := hI.s0 h3
        refine ob_call2any rfl enters69 hx1 hx2 ((item_walk B o i d s u hS0.rd (by assumption) hs hS0.gm).mono ?_)
        intro e w' hr
        rw [hit] at hr
        obtain ⟨_, v, rfl, rfl, hrb, hg⟩ := hr
        refine .inl ⟨_, rfl, ?_⟩
        exact ⟨hI.fr.put (by decide) (by decide) _, fun _ => ⟨by simpa [more] using hE ⟨1, .data⟩ (by simp) rfl, by simpa [more] using hE ⟨2, .data⟩ (by simp) rfl⟩, fun h => by have h2 := hI.o4 (by simpa [more] using h); exact ⟨by simp [more, h2.1], by simp [more]⟩, fun h => by have h2 := hI.o5 (by simpa [more] using h); simp [more, h2], fun h => by have h2 := hI.o6 (by simpa [more] using h); simp [more, h2], fun h => (T_put' (by decide)).trans (hI.v0 (by simpa [more] using h)), fun h => (T_put' (by decide)).trans (hI.v1 (by simpa [more] using h)), fun h => (T_put' (by decide)).trans (hI.v2 (by simpa [more] using h)), fun _ => T_put (by omega), fun h => by simp [more, h4] at h, fun h => by simp [more, h5] at h, fun h => by simp [more] at h, fun _ _ => hS0.read hg hrb, fun h => by simp [more, h6] at h⟩
      case s4 =>
        have hi : L 4 = false := hi
        have hsz' : a.tmps.size = 52 := hI.fr.1
        have h4 : L 4 = false := hi
        have h5 : L 5 = false := by
          cases h : L 5 with
          | false => rfl
          | true => have h2 := hI.o5 h; rw [h4] at h2; cases h2
        have h6 : L 6 = false := by
          cases h : L 6 with
          | false => rfl
          | true => have h2 := hI.o6 h; rw [h5] at h2; cases h2
        have e3 : L 3 = true := hE ⟨3, .data⟩ (by simp) rfl
        have e0 : L 0 = true := hE ⟨0, .data⟩ (by simp) rfl
        refine Oper.wp_mono ?_ (ob_slice2 (r := fun v u' => ∃ g, v = .slice (some ⟨g, 0, none⟩) 2 2 ∧ SL u' g [A, x]) rfl rfl (hI.v0 e0) (hI.v3 e3) (fun g w' h => ⟨g, rfl, h⟩))
        rintro a' w' ⟨v, rfl, hbel, g, rfl, hsl⟩
        exact ⟨hI.fr.put (by decide) (by decide) _, fun h => by have h2 := hI.o3 (by simpa [more] using h); exact ⟨by simp [more, h2.1], by simp [more, h2.2]⟩, fun _ => ⟨by simpa [more] using hE ⟨0, .data⟩ (by simp) rfl, by simpa [more] using hE ⟨3, .data⟩ (by simp) rfl⟩, fun h => by have h2 := hI.o5 (by simpa [more] using h); simp [more], fun h => by have h2 := hI.o6 (by simpa [more] using h); simp [more, h2], fun h => (T_put' (by decide)).trans (hI.v0 (by simpa [more] using h)), fun h => (T_put' (by decide)).trans (hI.v1 (by simpa [more] using h)), fun h => (T_put' (by decide)).trans (hI.v2 (by simpa [more] using h)), fun h => (T_put' (by decide)).trans (hI.v3 (by simpa [more] using h)), fun _ => ⟨g, T_put (by omega), fun _ => hsl⟩, fun h => by simp [more, h5] at h, fun h => by simp [more, e3] at h, fun _ _ => (hI.s3 e3 h6).later hbel, fun h => by simp [more, h6] at h⟩
      case s5 =>
        have hi : L 5 = false := hi
        have hsz' : a.tmps.size = 52 := hI.fr.1
        have h5 : L 5 = false := hi
        have h6 : L 6 = false := by
          cases h : L 6 with
          | false => rfl
          | true => have h2 := hI.o6 h; rw [h5] at h2; cases h2
        have e4 : L 4 = true := hE ⟨4, .data⟩ (by simp) rfl
        have e3 : L 3 = true := (hI.o4 e4).2
        obtain ⟨g, hg, hsl⟩ := hI.v4 e4
        refine Oper.wp_mono ?_ (ob_call1 (r := fun v _ => v = setV (Oct.join A x)) rfl enters70 hg ((join2_gen (hsl h5)).mono (fun _ w' h => ⟨_, h.1, h.2, rfl⟩)))
        rintro a' w' ⟨v, rfl, hbel, rfl⟩
        exact ⟨hI.fr.put (by decide) (by decide) _, fun h => by have h2 := hI.o3 (by simpa [more] using h); exact ⟨by simp [more, h2.1], by simp [more, h2.2]⟩, fun h => by have h2 := hI.o4 (by simpa [more] using h); exact ⟨by simp [more, h2.1], by simp [more, h2.2]⟩, fun _ => by simpa [more] using hE ⟨4, .data⟩ (by simp) rfl, fun h => by have h2 := hI.o6 (by simpa [more] using h); simp [more], fun h => (T_put' (by decide)).trans (hI.v0 (by simpa [more] using h)), fun h => (T_put' (by decide)).trans (hI.v1 (by simpa [more] using h)), fun h => (T_put' (by decide)).trans (hI.v2 (by simpa [more] using h)), fun h => (T_put' (by decide)).trans (hI.v3 (by simpa [more] using h)), fun _ => ⟨g, (T_put' (by decide)).trans hg, fun h => by simp [more] at h⟩, fun _ => T_put (by omega), fun h => by simp [more, e3] at h, fun _ _ => (hI.s3 e3 h6).later hbel, fun h => by simp [more, h6] at h⟩
      case s6 =>
        have hi : L 6 = false := hi
        have hsz' : a.tmps.size = 52 := hI.fr.1
        have h6 : L 6 = false := hi
        have e5 : L 5 = true := hE ⟨5, .data⟩ (by simp) rfl
        have e4 : L 4 = true := hI.o5 e5
        have e3 : L 3 = true := (hI.o4 e4).2
        have hS3 := hI.s3 e3 h6
        have hv5 := hI.v5 e5
        have hp := (fr8_T hI.fr (k := 5) (by omega)).trans hT5
        obtain ⟨c0, c1, c2, c3⟩ := hS3.all.cells
        have f0 := hS3.all.frozen 0
        have f1 := hS3.all.frozen 1
        have f2 := hS3.all.frozen 2
        have f3 := hS3.all.frozen 3
        refine ob_skip (w' := put4 u Y (Oct.join A x)) ?_ ?_
        · unfold T at hv5 hp
          unfold setV at hv5
          simp [execOp, Act.eval, hv5, hp, go_sem, c0, c1, c2, c3, f0, f1, f2, f3, put4]
        · exact ⟨hI.fr, fun h => by have h2 := hI.o3 (by simpa [more] using h); exact ⟨by simp [more, h2.1], by simp [more, h2.2]⟩, fun h => by have h2 := hI.o4 (by simpa [more] using h); exact ⟨by simp [more, h2.1], by simp [more, h2.2]⟩, fun h => by have h2 := hI.o5 (by simpa [more] using h); simp [more, h2], fun _ => by simp [more, e5], fun h => hI.v0 (by simpa [more] using h), fun h => hI.v1 (by simpa [more] using h), fun h => hI.v2 (by simpa [more] using h), fun h => hI.v3 (by simpa [more] using h), fun h => by obtain ⟨g, hg, _⟩ := hI.v4 (by simpa [more] using h); exact ⟨g, hg, fun h => by simp [more, e5] at h⟩, fun h => hI.v5 (by simpa [more] using h), fun h => by simp [more, e3] at h, fun _ h => by simp [more] at h, fun _ => hS3.put (Oct.join A x)⟩
    intro k p hp
    have := allFrom_at h k p (by simpa using hp)
    rwa [Nat.zero_add] at this
end Go.Proofs.YtmjnobdlgbojoaaGreatDoor
