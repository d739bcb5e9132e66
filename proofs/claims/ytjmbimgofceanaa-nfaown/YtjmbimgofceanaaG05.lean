/- From the row's own conditions to what the walks ask: texts that came in, the library's own variable. -/
import Derived.Test.YtjmbimgofceanaaG04
import Derived.Test.YtjmbimgofceanaaRows
import Derived.ProofKit
import Derived.OpenShut
import Derived.ShutString
import Derived.ChangeOld
import Derived.SizedLaws
import Derived.JoinedCond
import Derived.Deep.DeepHandedRow
import Derived.LaidLaws
import Derived.Shelf.Vars
import Derived.Test.YtjmbimgofceanaaG01
import Derived.Orders
namespace Go.Proofs.Ytjmbimgofceanaa
open Go.ChangeShapes Go.WideShapes Go.ChangeAt Go.RowKit

theorem own : ownKnob Try.prog.godebug = none := by kernel_rfl
theorem laidOut : laidOutB Try.prog = true := by kernel_rfl

set_option maxRecDepth 4000 in
/-- A TEXT THAT CAME IN. -/
theorem open_text {H : Type} {enc : TypeId × Value → H} {W : World} {r : Reach} {b0 : Nat} {v : Value} {d : DataW H} {p : List MemPlace} (hval : Value.okWide Try.prog W r b0 9 v) (hd : DataW.Trod enc Try.prog W 0 (fun _ => true) true 9 v d p) : ∃ s : ByteArray, v = .string s ∧ p = [] ∧ d = .lit (.string s.data.toList) := by
  obtain ⟨s, rfl⟩ := okWide_string Try.underlying9 hval
  obtain ⟨fuel, hf⟩ := hd
  obtain ⟨s', h, hx, hs⟩ := DataW.trod_string Try.underlying9 hf
  simp only [Prod.mk.injEq] at hx
  have h : s = s' := by simpa [Value.cells] using h
  subst h
  exact ⟨s, rfl, hx.2, hx.1⟩
/-- The library's own variable holds some number. -/
theorem gm_of {W : World} (h : W.ShapedOpen Try.prog) : GM W :=
  cell_of_shapedOpen_int (g := 0) (t := 3) (zero := #[.int .i64 0]) (k := .i64) h (of_decide_eq_true (by kernel_rfl)) (by kernel_rfl) rfl (by kernel_rfl) (by kernel_rfl) Try.underlying3
end Go.Proofs.Ytjmbimgofceanaa

/- ere's item. -/
namespace Go.Proofs.Ytjmbimgofceanaa
open Go.RowKit
attribute [local go_sem ↓] Go.wp_at_zero Go.wp_at_succ

theorem byt_list (r : ByteArray) (k : Nat) : byt r k = (r.data.toList.getD k 0).toNat := by
  unfold byt
  by_cases h : k < r.size
  · rw [dif_pos h]
    have h' : k < r.data.toList.length := by simpa using h
    rw [List.getD_eq_getElem?_getD, List.getElem?_eq_getElem h']
    simp
    rfl
  · rw [dif_neg h]
    have h' : r.data.toList.length ≤ k := by
      have : r.data.toList.length = r.size := by simp
      omega
    rw [List.getD_eq_getElem?_getD, List.getElem?_eq_none h']
    simp
theorem prefix2 (r : ByteArray) : Lib.hasPrefix r.data.toList [91, 58] = (decide (1 < r.size) && decide (byt r 0 = 91) && decide (byt r 1 = 58)) := by
  rw [byt_list, byt_list]
  have hl : r.size = r.data.toList.length := by simp
  rw [hl]
  generalize r.data.toList = l
  rw [Bool.eq_iff_iff]
  cases l with
  | nil => simp [Lib.hasPrefix]
  | cons a l =>
    cases l with
    | nil => simp [Lib.hasPrefix]
    | cons b l =>
      simp [Lib.hasPrefix, ← UInt8.toNat_inj]
      constructor
      · rintro ⟨h1, h2⟩; exact ⟨h1.symm, h2.symm⟩
      · rintro ⟨h1, h2⟩; exact ⟨h1.symm, h2.symm⟩
theorem rest_prefix (s : ByteArray) (i : Nat) : Lib.hasPrefix (rest s i).data.toList [91, 58] = (decide (i + 1 < s.size) && decide (byt s i = 91) && decide (byt s (i + 1) = 58)) := by
  rw [prefix2, rest_size, rest_byt, rest_byt]
  have : decide (1 < s.size - i) = decide (i + 1 < s.size) := by rw [Bool.eq_iff_iff]; simp; omega
  rw [this]
  rfl
set_option maxHeartbeats 2000000 in
theorem item_walk (B o i d : Nat) (s : ByteArray) (w : World) (h : RB w B s i d) (hi : i ≤ s.size) (hs : s.size ≤ 1024) (hm : GM w) : Calls Try.prog 91 #[.pointer (some ⟨B, 0, none⟩), .int .i64 (o : Nat)] w (Reads w B s d (item s o i) SetV) := by
  have HZ0 : Hid (SB (w.alloc (.cells #[.int .u64 0, .int .u64 0, .int .u64 0, .int .u64 0] 27)) w.heap.size Oct.none) := sb_zero w
  have HR1 : Hid (RB (w.alloc (.cells #[.int .u64 0, .int .u64 0, .int .u64 0, .int .u64 0] 27)) B s i d) := h.later ((Below.refl _ _).alloc (Nat.le_refl _) _)
  have HM1 : Hid (GM (w.alloc (.cells #[.int .u64 0, .int .u64 0, .int .u64 0, .int .u64 0] 27))) := hm.later ((Below.refl _ _).alloc (Nat.le_refl _) _)
  have HBR : Hid (w.heap.size ≠ B) := by have := h.lt; show _ ≠ _; omega
  obtain ⟨w1, hw1⟩ : ∃ w1, w1 = w.alloc (.cells #[.int .u64 0, .int .u64 0, .int .u64 0, .int .u64 0] 27) := ⟨_, rfl⟩
  have HG1 : Hid (w.grownBy w1 (some B)) := by rw [hw1]; exact grown_alloc _ _ _
  rw [← hw1] at HR1 HZ0 HM1
  have HW1 : Hid (w1 = _) := hw1
  clear hw1 h
  obtain ⟨R, hR⟩ : ∃ R, R = w.heap.size := ⟨_, rfl⟩
  rw [← hR] at HZ0 HBR
  have HRR : Hid (R = _) := hR
  clear hR
  obtain ⟨c0, c1, c2⟩ := HR1.out.cells
  have hi2 : (i : Int) ≤ (s.size : Int) := by omega
  go_enter Try.func91, Try.ntmps91
  go_upto_region 1 with fail
  rw [← HW1.out, ← HRR.out]
  clear HW1
  go_quiet (fail)
  have HR2 : Hid (RB (w1.drewN nq) B s i d) := HR1.out.later (below_drewN _ _ _)
  have HZ2 : Hid (SB (w1.drewN nq) R Oct.none) := HZ0.out.later (below_drewN _ _ _)
  have HM2 : Hid (GM (w1.drewN nq)) := HM1.out.later (below_drewN _ _ _)
  have HG2 : Hid (w.grownBy (w1.drewN nq) (some B)) := grown_below HG1.out (below_drewN _ _ _)
  obtain ⟨w2, hw2⟩ : ∃ w2, w2 = w1.drewN nq := ⟨_, rfl⟩
  rw [← hw2] at HR2 HZ2 HG2 HM2
  have HW2 : Hid (w2 = _) := hw2
  clear hw2 c0 c1 c2 HR1 HZ0 HG1 HM1 hm
  go_upto_region 2 with fail
  rw [← HW2.out]
  clear HW2
  obtain ⟨c0, c1, c2⟩ := HR2.out.cells
  by_cases hend : i = s.size
  · have HX : Hid (item s o i = .bad o 43) := by show _ = _; simp [item, hend]
    go_wp2_with fail
    refine (giveUp_any o 43 _).mono ?_
    rintro e w3 ⟨rfl, k3⟩
    go_wp2
    refine ⟨rfl, ?_⟩
    unfold Reads
    rw [← hend, HX.out]
    exact ⟨rfl, grown_below HG2.out k3⟩
  · have HX0 : Hid (item s o i = if decide (i + 1 < s.size) && decide (byt s i = 91) && decide (byt s (i + 1) = 58) then class_ s o i else if special s i then .bad i 43 else if decide (i + 2 < s.size) && decide (byt s (i + 1) = 45) && decide (byt s (i + 2) ≠ 93) then span_ s i else .ok (Oct.has [byt s i]) (i + 1)) := by show _ = _; unfold item; rw [if_neg hend]
    have hlt : i < s.size := by omega
    have HPF : Hid (∀ v, Calls Try.prog 96 #[.string (s.extract i s.size), .string ⟨#[91, 58]⟩] v fun e w' => e = .returned (.bool (decide (i + 1 < s.size) && decide (byt s i = 91) && decide (byt s (i + 1) = 58))) ∧ w' = v) := fun v => (Try.strings_HasPrefix (rest s i) ⟨#[91, 58]⟩ v).mono (fun _ _ h => ⟨by rw [h.1]; exact ret_bool (rest_prefix s i), h.2⟩)
    have HSP : Hid (∀ v, Calls Try.prog 98 #[.string (s.extract i s.size)] v fun e w' => e = .returned (.bool (special s i)) ∧ w' = v) := fun v => (special_any (rest s i) v).mono (fun _ _ h => ⟨by rw [h.1, special_rest], h.2⟩)
    have HRS : Hid ((s.extract i s.size).size = s.size - i) := rest_size s i
    have HRB : Hid (∀ k, byt (s.extract i s.size) k = byt s (i + k)) := rest_byt s i
    have hne : ¬ (s.extract i s.size).size = 0 := by rw [HRS.out]; omega
    obtain ⟨r, hr⟩ : ∃ r, r = s.extract i s.size := ⟨_, rfl⟩
    rw [← hr] at HPF HSP HRS HRB hne ⊢
    clear hr
    have hemp : r.toList.isEmpty = false := by
      cases h : r.toList.isEmpty with
      | false => rfl
      | true =>
        have h2 : (r.toList == []) = true := by rw [List.isEmpty_iff] at h; rw [h]; rfl
        have := name_of h2
        rw [this] at hne
        exact absurd rfl hne
    go_wp2_with fail
    refine (HPF.out _).mono ?_
    rintro e w' ⟨rfl, hw'⟩
    have hw' := hw'.symm
    subst hw'
    obtain ⟨pb, hpb⟩ : ∃ pb, pb = (decide (i + 1 < s.size) && decide (byt s i = 91) && decide (byt s (i + 1) = 58)) := ⟨_, rfl⟩
    have HPL : Hid (pb = true → i + 2 ≤ s.size) := fun h => by rw [hpb] at h; simp at h; omega
    rw [← hpb] at HX0 ⊢
    clear hpb HPF
    cases hpv : pb with
    | true =>
      have HPB : Hid (pb = true) := hpv
      have hi22 := HPL.out hpv
      have HXX : Hid (item s o i = class_ s o i) := by show _ = _; rw [HX0.out, hpv]; rfl
      clear hpv
      go_wp2_with fail
      refine (class_walk B o i d s _ HR2.out hi22 hs HM2.out).mono ?_
      intro e w3 h3
      have HX : Hid (item s o i = class_ s o i) := HXX
      cases hc : class_ s o i with
      | out => rw [hc] at h3; exact h3.elim
      | bad a c =>
        rw [hc] at h3
        obtain ⟨rfl, hg3⟩ := h3
        rw [hc] at HX
        have HG3 : Hid (w.grownBy w3 (some B)) := grown_trans HG2.out hg3
        clear hc hg3 HXX
        go_wp2
        refine ⟨rfl, ?_⟩
        unfold Reads
        rw [HX.out]
        exact ⟨rfl, HG3.out⟩
      | ok x j =>
        rw [hc] at h3
        obtain ⟨hj, v, rfl, rfl, hr3, hg3⟩ := h3
        rw [hc] at HX
        have HR3 : Hid (RB w3 B s j d) := hr3
        have HZ3 : Hid (SB w3 R Oct.none) := (hg3.block R HZ2.out.lt (by have := HBR.out; simp; exact this)).trans HZ2.out
        have HG3 : Hid (w.grownBy w3 (some B)) := grown_trans HG2.out hg3
        clear hc hg3 hr3 HXX
        obtain ⟨z0, z1, z2, z3⟩ := HZ3.out.cells
        have y0 := HZ3.out.frozen 0
        have y1 := HZ3.out.frozen 1
        have y2 := HZ3.out.frozen 2
        have y3 := HZ3.out.frozen 3
        unfold setV
        go_wp2
        refine post_set Try.f91 4 rfl rfl rfl (HZ3.out.put4 x) ?_
        unfold Reads
        rw [HX.out]
        exact ⟨hj, _, rfl, rfl, (rb_put4 HR3.out HBR.out _), grown_put4 HG3.out (by rw [HRR.out]; exact Nat.le_refl _) _⟩
    | false =>
      have HPB : Hid (pb = false) := hpv
      clear hpv
      go_wp2_with fail
      refine (HSP.out _).mono ?_
      rintro e w' ⟨rfl, hw'⟩
      have hw' := hw'.symm
      subst hw'
      cases hsv : special s i with
      | true =>
        have HX : Hid (item s o i = .bad i 43) := by show _ = _; rw [HX0.out, HPB.out, hsv]; rfl
        clear hsv
        go_wp2_with fail
        refine (giveUp_any i 43 _).mono ?_
        rintro e w3 ⟨rfl, k3⟩
        go_wp2
        refine ⟨rfl, ?_⟩
        unfold Reads
        rw [HX.out]
        exact ⟨rfl, grown_below HG2.out k3⟩
      | false =>
        have HSB : Hid (special s i = false) := hsv
        clear hsv
        by_cases h2 : i + 2 < s.size
        · have hr2 : 2 < r.size := by rw [HRS.out]; omega
          have hr1 : 1 < r.size := by omega
          have hr2' : (2 : Int) < (r.size : Int) := by omega
          have hr1' : (1 : Int) < (r.size : Int) := by omega
          have HB1 : Hid (byt s (i + 1) = r[1].toNat) := by show _ = _; rw [← HRB.out 1]; exact byt_eq hr1
          have HB2 : Hid (byt s (i + 2) = r[2].toNat) := by show _ = _; rw [← HRB.out 2]; exact byt_eq hr2
          by_cases h45 : r[1].toNat = 45
          · by_cases h93 : r[2].toNat = 93
            · have HTB : Hid ((decide (i + 2 < s.size) && decide (byt s (i + 1) = 45) && decide (byt s (i + 2) ≠ 93)) = false) := by show _ = _; rw [HB1.out, HB2.out]; simp [h93]
              have g1 : ((r[1].toNat : Int) == 45) = true := by simp; omega
              have g2 : ((r[2].toNat : Int) != 93) = false := by simp; omega
              have g3 : ((r[2].toNat : Int) == 93) = true := by simp; omega
              clear h45 h93
              have HXX : Hid (item s o i = .ok (Oct.has [byt s i]) (i + 1)) := by show _ = _; rw [HX0.out, HPB.out, HSB.out]; simp only [Bool.false_eq_true, if_false]; rw [if_neg (by rw [HTB.out]; simp)]
              have hi3 : i ≤ 1024 := by omega
              have hr0 : 0 < r.size := by rw [HRS.out]; omega
              have hr0' : (0 : Int) < (r.size : Int) := by omega
              have HB0 : Hid (byt s i = r[0].toNat) := by show _ = _; have := HRB.out 0; rw [Nat.add_zero] at this; rw [← this]; exact byt_eq hr0
              have f1 := HR2.out.frozen 1
              have HR3 : Hid (RB (w2.setCell ⟨B, 1, none⟩ (.int .i64 ((i : Int) + 1))) B s (i + 1) d) := HR2.out.at (i + 1)
              have HZ3 : Hid (SB (w2.setCell ⟨B, 1, none⟩ (.int .i64 ((i : Int) + 1))) R Oct.none) := HZ2.out.other HBR.out _ _
              have HG3 : Hid (w.grownBy (w2.setCell ⟨B, 1, none⟩ (.int .i64 ((i : Int) + 1))) (some B)) := grown_trans HG2.out (grown_set _ _ _ _)
              go_upto_region 11 with fail
              obtain ⟨w3, hw3⟩ : ∃ w3, w3 = w2.setCell ⟨B, 1, none⟩ (.int .i64 ((i : Int) + 1)) := ⟨_, rfl⟩
              rw [← hw3] at HR3 HZ3 HG3 ⊢
              clear hw3 c0 c1 c2 f1
              obtain ⟨b, hb⟩ : ∃ b, b = r[0].toNat := ⟨_, rfl⟩
              have hb256 : b < 256 := by rw [hb]; exact UInt8.toNat_lt _
              have HBB : Hid (b = r[0].toNat) := hb
              go_wp2_with fail
              refine (of_any _ 1 1 [r[0].toNat] _ rfl (by simp [maxLen]) (bytesAt_new w3 [r[0].toNat] 5 (0, 0)) (by intro b hb; simp at hb; rw [hb]; exact UInt8.toNat_lt _)).mono ?_
              rintro e w4 ⟨rfl, k4⟩
              have hal : Below w3.heap.size w3 (w3.alloc (.cells ([r[0].toNat].map (fun b : Nat => Value.int .u8 (b : Nat))).toArray 5)) := (Below.refl _ _).alloc (Nat.le_refl _) _
              have HR4 : Hid (RB w4 B s (i + 1) d) := (HR3.out.later hal).later k4
              have HZ4 : Hid (SB w4 R Oct.none) := (HZ3.out.later hal).later k4
              have HG4 : Hid (w.grownBy w4 (some B)) := grown_below (grown_below HG3.out hal) k4
              clear k4 hal
              obtain ⟨z0, z1, z2, z3⟩ := HZ4.out.cells
              have y0 := HZ4.out.frozen 0
              have y1 := HZ4.out.frozen 1
              have y2 := HZ4.out.frozen 2
              have y3 := HZ4.out.frozen 3
              unfold setV
              go_wp2
              refine post_set Try.f91 4 rfl rfl rfl (HZ4.out.put4 (Oct.has [r[0].toNat])) ?_
              unfold Reads
              rw [HXX.out, HB0.out]
              exact ⟨by omega, _, rfl, rfl, (rb_put4 HR4.out HBR.out _), grown_put4 HG4.out (by rw [HRR.out]; exact Nat.le_refl _) _⟩
            · have HTB : Hid ((decide (i + 2 < s.size) && decide (byt s (i + 1) = 45) && decide (byt s (i + 2) ≠ 93)) = true) := by show _ = _; rw [HB1.out, HB2.out]; simp [h2, h45, h93]
              have HXX : Hid (item s o i = span_ s i) := by show _ = _; rw [HX0.out, HPB.out, HSB.out]; simp only [Bool.false_eq_true, if_false]; rw [if_pos HTB.out]
              have g1 : ((r[1].toNat : Int) == 45) = true := by simp; omega
              have g2 : ((r[2].toNat : Int) != 93) = true := by simp; omega
              have g3 : ((r[2].toNat : Int) == 93) = false := by simp; omega
              clear h45 h93
              go_wp2_with fail
              refine (span_walk B i d s _ HR2.out h2 hs).mono ?_
              intro e w3 h3
              have HX : Hid (item s o i = span_ s i) := HXX
              cases hc : span_ s i with
              | out => rw [hc] at h3; exact h3.elim
              | bad a c =>
                rw [hc] at h3
                obtain ⟨rfl, hg3⟩ := h3
                rw [hc] at HX
                have HG3 : Hid (w.grownBy w3 (some B)) := grown_trans HG2.out hg3
                clear hc hg3 HXX
                go_wp2
                refine ⟨rfl, ?_⟩
                unfold Reads
                rw [HX.out]
                exact ⟨rfl, HG3.out⟩
              | ok x j =>
                rw [hc] at h3
                obtain ⟨hj, v, rfl, rfl, hr3, hg3⟩ := h3
                rw [hc] at HX
                have HR3 : Hid (RB w3 B s j d) := hr3
                have HZ3 : Hid (SB w3 R Oct.none) := (hg3.block R HZ2.out.lt (by have := HBR.out; simp; exact this)).trans HZ2.out
                have HG3 : Hid (w.grownBy w3 (some B)) := grown_trans HG2.out hg3
                clear hc hg3 hr3 HXX
                obtain ⟨z0, z1, z2, z3⟩ := HZ3.out.cells
                have y0 := HZ3.out.frozen 0
                have y1 := HZ3.out.frozen 1
                have y2 := HZ3.out.frozen 2
                have y3 := HZ3.out.frozen 3
                unfold setV
                go_wp2
                refine post_set Try.f91 4 rfl rfl rfl (HZ3.out.put4 x) ?_
                unfold Reads
                rw [HX.out]
                exact ⟨hj, _, rfl, rfl, (rb_put4 HR3.out HBR.out _), grown_put4 HG3.out (by rw [HRR.out]; exact Nat.le_refl _) _⟩
          · have HTB : Hid ((decide (i + 2 < s.size) && decide (byt s (i + 1) = 45) && decide (byt s (i + 2) ≠ 93)) = false) := by show _ = _; rw [HB1.out]; simp [h45]
            have g1 : ((r[1].toNat : Int) == 45) = false := by simp; omega
            clear h45
            have HXX : Hid (item s o i = .ok (Oct.has [byt s i]) (i + 1)) := by show _ = _; rw [HX0.out, HPB.out, HSB.out]; simp only [Bool.false_eq_true, if_false]; rw [if_neg (by rw [HTB.out]; simp)]
            have hi3 : i ≤ 1024 := by omega
            have hr0 : 0 < r.size := by rw [HRS.out]; omega
            have hr0' : (0 : Int) < (r.size : Int) := by omega
            have HB0 : Hid (byt s i = r[0].toNat) := by show _ = _; have := HRB.out 0; rw [Nat.add_zero] at this; rw [← this]; exact byt_eq hr0
            have f1 := HR2.out.frozen 1
            have HR3 : Hid (RB (w2.setCell ⟨B, 1, none⟩ (.int .i64 ((i : Int) + 1))) B s (i + 1) d) := HR2.out.at (i + 1)
            have HZ3 : Hid (SB (w2.setCell ⟨B, 1, none⟩ (.int .i64 ((i : Int) + 1))) R Oct.none) := HZ2.out.other HBR.out _ _
            have HG3 : Hid (w.grownBy (w2.setCell ⟨B, 1, none⟩ (.int .i64 ((i : Int) + 1))) (some B)) := grown_trans HG2.out (grown_set _ _ _ _)
            go_upto_region 11 with fail
            obtain ⟨w3, hw3⟩ : ∃ w3, w3 = w2.setCell ⟨B, 1, none⟩ (.int .i64 ((i : Int) + 1)) := ⟨_, rfl⟩
            rw [← hw3] at HR3 HZ3 HG3 ⊢
            clear hw3 c0 c1 c2 f1
            obtain ⟨b, hb⟩ : ∃ b, b = r[0].toNat := ⟨_, rfl⟩
            have hb256 : b < 256 := by rw [hb]; exact UInt8.toNat_lt _
            have HBB : Hid (b = r[0].toNat) := hb
            go_wp2_with fail
            refine (of_any _ 1 1 [r[0].toNat] _ rfl (by simp [maxLen]) (bytesAt_new w3 [r[0].toNat] 5 (0, 0)) (by intro b hb; simp at hb; rw [hb]; exact UInt8.toNat_lt _)).mono ?_
            rintro e w4 ⟨rfl, k4⟩
            have hal : Below w3.heap.size w3 (w3.alloc (.cells ([r[0].toNat].map (fun b : Nat => Value.int .u8 (b : Nat))).toArray 5)) := (Below.refl _ _).alloc (Nat.le_refl _) _
            have HR4 : Hid (RB w4 B s (i + 1) d) := (HR3.out.later hal).later k4
            have HZ4 : Hid (SB w4 R Oct.none) := (HZ3.out.later hal).later k4
            have HG4 : Hid (w.grownBy w4 (some B)) := grown_below (grown_below HG3.out hal) k4
            clear k4 hal
            obtain ⟨z0, z1, z2, z3⟩ := HZ4.out.cells
            have y0 := HZ4.out.frozen 0
            have y1 := HZ4.out.frozen 1
            have y2 := HZ4.out.frozen 2
            have y3 := HZ4.out.frozen 3
            unfold setV
            go_wp2
            refine post_set Try.f91 4 rfl rfl rfl (HZ4.out.put4 (Oct.has [r[0].toNat])) ?_
            unfold Reads
            rw [HXX.out, HB0.out]
            exact ⟨by omega, _, rfl, rfl, (rb_put4 HR4.out HBR.out _), grown_put4 HG4.out (by rw [HRR.out]; exact Nat.le_refl _) _⟩
        · have HTB : Hid ((decide (i + 2 < s.size) && decide (byt s (i + 1) = 45) && decide (byt s (i + 2) ≠ 93)) = false) := by show _ = _; simp [h2]
          have hr2' : (r.size : Int) ≤ 2 := by rw [HRS.out]; omega
          have HXX : Hid (item s o i = .ok (Oct.has [byt s i]) (i + 1)) := by show _ = _; rw [HX0.out, HPB.out, HSB.out]; simp only [Bool.false_eq_true, if_false]; rw [if_neg (by rw [HTB.out]; simp)]
          have hi3 : i ≤ 1024 := by omega
          have hr0 : 0 < r.size := by rw [HRS.out]; omega
          have hr0' : (0 : Int) < (r.size : Int) := by omega
          have HB0 : Hid (byt s i = r[0].toNat) := by show _ = _; have := HRB.out 0; rw [Nat.add_zero] at this; rw [← this]; exact byt_eq hr0
          have f1 := HR2.out.frozen 1
          have HR3 : Hid (RB (w2.setCell ⟨B, 1, none⟩ (.int .i64 ((i : Int) + 1))) B s (i + 1) d) := HR2.out.at (i + 1)
          have HZ3 : Hid (SB (w2.setCell ⟨B, 1, none⟩ (.int .i64 ((i : Int) + 1))) R Oct.none) := HZ2.out.other HBR.out _ _
          have HG3 : Hid (w.grownBy (w2.setCell ⟨B, 1, none⟩ (.int .i64 ((i : Int) + 1))) (some B)) := grown_trans HG2.out (grown_set _ _ _ _)
          go_upto_region 11 with fail
          obtain ⟨w3, hw3⟩ : ∃ w3, w3 = w2.setCell ⟨B, 1, none⟩ (.int .i64 ((i : Int) + 1)) := ⟨_, rfl⟩
          rw [← hw3] at HR3 HZ3 HG3 ⊢
          clear hw3 c0 c1 c2 f1
          obtain ⟨b, hb⟩ : ∃ b, b = r[0].toNat := ⟨_, rfl⟩
          have hb256 : b < 256 := by rw [hb]; exact UInt8.toNat_lt _
          have HBB : Hid (b = r[0].toNat) := hb
          go_wp2_with fail
          refine (of_any _ 1 1 [r[0].toNat] _ rfl (by simp [maxLen]) (bytesAt_new w3 [r[0].toNat] 5 (0, 0)) (by intro b hb; simp at hb; rw [hb]; exact UInt8.toNat_lt _)).mono ?_
          rintro e w4 ⟨rfl, k4⟩
          have hal : Below w3.heap.size w3 (w3.alloc (.cells ([r[0].toNat].map (fun b : Nat => Value.int .u8 (b : Nat))).toArray 5)) := (Below.refl _ _).alloc (Nat.le_refl _) _
          have HR4 : Hid (RB w4 B s (i + 1) d) := (HR3.out.later hal).later k4
          have HZ4 : Hid (SB w4 R Oct.none) := (HZ3.out.later hal).later k4
          have HG4 : Hid (w.grownBy w4 (some B)) := grown_below (grown_below HG3.out hal) k4
          clear k4 hal
          obtain ⟨z0, z1, z2, z3⟩ := HZ4.out.cells
          have y0 := HZ4.out.frozen 0
          have y1 := HZ4.out.frozen 1
          have y2 := HZ4.out.frozen 2
          have y3 := HZ4.out.frozen 3
          unfold setV
          go_wp2
          refine post_set Try.f91 4 rfl rfl rfl (HZ4.out.put4 (Oct.has [r[0].toNat])) ?_
          unfold Reads
          rw [HXX.out, HB0.out]
          exact ⟨by omega, _, rfl, rfl, (rb_put4 HR4.out HBR.out _), grown_put4 HG4.out (by rw [HRR.out]; exact Nat.le_refl _) _⟩
end Go.Proofs.Ytjmbimgofceanaa

/- A region that draws its order: each operation shown once, in itself: what it leaves ('G i') stands behind all others; at the end all stand. -/
namespace Go.Proofs.Ytjmbimgofceanaa
open Go

section
variable {P : Program} {ops : Array Oper} {md : Region.Mode} {Q : Exit → Act → World → Prop}

/-- how many have not come up -/
def left (ops : Array Oper) (listed : Array Bool) : Nat := ((List.range ops.size).filter fun i => !listed.getD i true).length
theorem left_zero {listed : Array Bool} (h : left ops listed = 0) : ∀ i, i < ops.size → listed.getD i true = true := by
  intro i hi
  have h1 := List.eq_nil_of_length_eq_zero h
  rw [List.filter_eq_nil_iff] at h1
  have h2 := h1 i (List.mem_range.2 hi)
  cases h3 : listed.getD i true with
  | true => rfl
  | false => exact absurd (by rw [h3]; rfl) h2
theorem left_set {listed : Array Bool} {i : Nat} (hi : i < ops.size) (h0 : listed.getD i true = false) (hsz : listed.size = ops.size) : left ops (listed.setIfInBounds i true) < left ops listed := by
  unfold left
  have hsub : ((List.range ops.size).filter fun k => !(listed.setIfInBounds i true).getD k true) = ((List.range ops.size).filter fun k => !listed.getD k true).filter fun k => !(k == i) := by
    rw [List.filter_filter]
    apply List.filter_congr
    intro k _
    by_cases e : i = k
    · subst e
      simp [hsz, hi]
    · rw [getD_set_ne true e]
      have : ¬ k = i := fun h => e h.symm
      simp [this]
  rw [hsub]
  refine List.length_filter_lt_length_iff_exists.2 ⟨i, List.mem_filter.2 ⟨List.mem_range.2 hi, by rw [h0]; rfl⟩, by simp⟩
/-- where nothing may come up, all have -/
theorem all_of_ready {listed : Array Bool} (hwf : ∀ i o e, ops[i]? = some o → e ∈ o.after → Region.binds md e = true → e.on < i) (hsz : listed.size = ops.size) (h : Region.ready md ops listed = []) : ∀ i, i < ops.size → listed.getD i true = true := by
  intro i
  induction i using Nat.strongRecOn with
  | ind i ih =>
    intro hi
    cases h3 : listed.getD i true with
    | true => rfl
    | false =>
      have hm : i ∈ Region.ready md ops listed := mem_ready.2 ⟨h3, ops[i], Array.getElem?_eq_getElem hi, fun e he hb => by
        have hlt := hwf i _ e (Array.getElem?_eq_getElem hi) he hb
        have h4 := ih e.on hlt (by omega)
        have hs : e.on < listed.size := by omega
        simp [hs] at h4 ⊢
        exact h4⟩
      rw [h] at hm
      cases hm
end
end Go.Proofs.Ytjmbimgofceanaa

/- A drawn region whose operations write slots one behind the other: each operation shown once, by a relation of its answer to the world that stands in all later worlds. -/
namespace Go.Proofs.Ytjmbimgofceanaa
open Go Go.RowKit

section
variable {P : Program} {ops : Array Oper} {Q : Exit → Act → World → Prop}

theorem put_same {a : Act} {d : Nat} {v : Value} (h : d < a.tmps.size) : (a.put (some d) v).tmps[d]?.getD undef = v := by simp [Act.put, h]
theorem put_other {a : Act} {d e : Nat} {v : Value} (h : d ≠ e) : (a.put (some d) v).tmps[e]?.getD undef = a.tmps[e]?.getD undef := by simp [Act.put, Array.getElem?_setIfInBounds_ne h]
theorem below_step {w0 w w' : World} (h : Below w0.heap.size w0 w) (hb : Below w.heap.size w w') : Below w0.heap.size w0 w' := below_trans h hb h.size

/-- what an operation is to leave -/
def Leaves (R : Value → World → Prop) (o : Oper) (a : Act) (w : World) : Act → World → Prop := fun a' w' => ∃ v, a' = a.put o.dst v ∧ Below w.heap.size w w' ∧ R v w'
/-- an operation that yields a value -/
theorem ob_value {o : Oper} {a : Act} {w w' : World} {R : Value → World → Prop} {v : Value} (h : (execOp a.eval o).run P w = .ok (.value v) w') (hb : Below w.heap.size w w') (hR : R v w') : o.wp P a w (Leaves R o a w) Q := by
  unfold Oper.wp
  rw [h]
  exact ⟨v, rfl, hb, hR⟩
/-- a call by its contract -/
theorem ob_enter {o : Oper} {a : Act} {w : World} {R : Value → World → Prop} {f : FuncId} {args : Array Value} (h : (execOp a.eval o).run P w = .ok (.enter f args) w) (hc : Calls P f args w fun e w' => ∃ v, e = .returned v ∧ Below w.heap.size w w' ∧ R v w') : o.wp P a w (Leaves R o a w) Q := by
  unfold Oper.wp
  rw [h]
  refine hc.mono ?_
  rintro e w' ⟨v, rfl, hb, hR⟩
  exact ⟨v, rfl, hb, hR⟩
end
end Go.Proofs.Ytjmbimgofceanaa

/- A drawn region whose operations write slots of their own: each operation shown once; its answer stands in all later worlds. -/
namespace Go.Proofs.Ytjmbimgofceanaa
open Go Go.RowKit

/-- the operations of a region of a body -/
def opsIn (id : Nat) : Code → Option (Array Oper)
  | .region i ops _ => if i = id then some ops else none
  | .seq c d => match opsIn id c with
    | some x => some x
    | none => opsIn id d
  | .cond _ c d => match opsIn id c with
    | some x => some x
    | none => opsIn id d
  | .block _ c => opsIn id c
  | .loop c => opsIn id c
  | .scope c => opsIn id c
  | .rangeFunc _ _ c d => match opsIn id c with
    | some x => some x
    | none => opsIn id d
  | _ => none
def opsOf (f : Func) (id : Nat) : Array Oper := match f.body with
  | some c => (opsIn id c).getD #[]
  | none => #[]
abbrev T (a : Act) (k : Nat) : Value := a.tmps[k]?.getD undef
def AllFrom (p : Nat → Oper → Prop) : Nat → List Oper → Prop
  | _, [] => True
  | k, o :: l => p k o ∧ AllFrom p (k + 1) l
theorem allFrom_at {p : Nat → Oper → Prop} {l : List Oper} : ∀ {k : Nat}, AllFrom p k l → ∀ i o, l[i]? = some o → p (k + i) o := by
  induction l with
  | nil => intro k _ i o h; simp at h
  | cons x l ih =>
    intro k h i o hi
    cases i with
    | zero => simp at hi; subst hi; exact h.1
    | succ i =>
      have := ih h.2 i o (by simpa using hi)
      rwa [show k + 1 + i = k + (i + 1) by omega] at this

section
variable {P : Program} {ops : Array Oper} {Q : Exit → Act → World → Prop}
/-- what is owed for one operation -/
def Duty (P : Program) (ops : Array Oper) (w0 : World) (D : Nat → Nat) (R : Nat → Value → World → Prop) (F0 : Act → Prop) (i : Nat) (o : Oper) : Prop :=
  o.dst = some (D i) ∧ (∀ e ∈ o.after, e.on < i) ∧ ∀ a w, F0 a → Below w0.heap.size w0 w → (∀ e ∈ o.after, Region.binds .any e = true → R e.on (T a (D e.on)) w) →
    (Region.wanted o (yielded ops a.tmps) = true → ∀ Q, o.wp P a w (Leaves (R i) o a w) Q) ∧ (Region.wanted o (yielded ops a.tmps) = false → R i undef w)
theorem wanted_free {o : Oper} {y : Nat → Option Bool} (h : o.guard = none) : Region.wanted o y = true := by unfold Region.wanted; rw [h]
variable {w0 : World} {D : Nat → Nat} {R : Nat → Value → World → Prop} {F0 : Act → Prop} {i : Nat} {o : Oper}
theorem duty_free (hd : o.dst = some (D i)) (ha : ∀ e ∈ o.after, e.on < i) (hg : o.guard = none)
    (h : ∀ a w, F0 a → Below w0.heap.size w0 w → (∀ e ∈ o.after, Region.binds .any e = true → R e.on (T a (D e.on)) w) → ∀ Q, o.wp P a w (Leaves (R i) o a w) Q) : Duty P ops w0 D R F0 i o :=
  ⟨hd, ha, fun a w hF hB hE => ⟨fun _ => h a w hF hB hE, fun hw => by rw [wanted_free hg] at hw; cases hw⟩⟩
/-! ### one operation -/
variable {a : Act} {w : World} {r : Value → World → Prop}
attribute [local go_sem] Oper.semAt_some
theorem ob_load4 {A p : Nat} {s : Oct.S} (ho : o.op = .load 27 (.tmp p)) (hp : T a p = .pointer (some ⟨A, 0, none⟩)) (hs : SB w A s) (hr : r (setV s) w) : o.wp Try.prog a w (Leaves r o a w) Q := by
  obtain ⟨dst, op, type, pos, after, guard⟩ := o
  simp only at ho
  subst ho
  obtain ⟨c0, c1, c2, c3⟩ := hs.cells
  refine ob_value (v := setV s) (w' := w) ?_ (Below.refl _ _) hr
  simp [execOp, Act.eval, hp, go_sem, c0, c1, c2, c3, setV]
set_option maxRecDepth 10000 in
theorem ob_slice2 {p q : Nat} {s t : Oct.S} (ho : o.op = .buildSlice 121 2 #[(0, .tmp p), (1, .tmp q)]) (hty : o.type = 121) (hp : T a p = setV s) (hq : T a q = setV t) (hr : ∀ g w', SL w' g [s, t] → r (.slice (some ⟨g, 0, none⟩) 2 2) w') : o.wp Try.prog a w (Leaves r o a w) Q := by
  obtain ⟨dst, op, type, pos, after, guard⟩ := o
  simp only at ho hty
  subst ho hty
  refine ob_value (w' := w.alloc _) ?_ ((Below.refl _ _).alloc (Nat.le_refl _) _) (hr _ _ (sl2_new w s t _ rfl))
  unfold setV at hp hq
  simp [execOp, Act.eval, hp, hq, go_sem]
/-- a function with a body -/
def Enters (f : Nat) : Prop := ∀ (args : Array Value) (w : World), (callFunc f args).run Try.prog w = .ok (.enter f args) w
set_option maxRecDepth 20000 in
theorem ob_call1 {p f : Nat} {ts : Array TypeId} (ho : o.op = .call { callee := .value (.func f), args := #[.tmp p], argTypes := ts }) (hf : Enters f) {v : Value} (hx : T a p = v) (hc : Calls Try.prog f #[v] w fun e w' => ∃ v, e = .returned v ∧ Below w.heap.size w w' ∧ r v w') : o.wp Try.prog a w (Leaves r o a w) Q := by
  obtain ⟨dst, op, type, pos, after, guard⟩ := o
  simp only at ho
  subst ho
  refine ob_enter (args := #[v]) ?_ hc
  simp [Act.eval, hx, go_sem]
  exact hf _ _
set_option maxRecDepth 20000 in
theorem ob_call2 {p q f : Nat} {ts : Array TypeId} (ho : o.op = .call { callee := .value (.func f), args := #[.tmp p, .tmp q], argTypes := ts }) (hf : Enters f) {v u : Value} (hx : T a p = v) (hy : T a q = u) (hc : Calls Try.prog f #[v, u] w fun e w' => ∃ v, e = .returned v ∧ Below w.heap.size w w' ∧ r v w') : o.wp Try.prog a w (Leaves r o a w) Q := by
  obtain ⟨dst, op, type, pos, after, guard⟩ := o
  simp only at ho
  subst ho
  refine ob_enter (args := #[v, u]) ?_ hc
  simp [Act.eval, hx, hy, go_sem]
  exact hf _ _
theorem ob_move {p : Nat} {v : Value} (ho : o.op = .move (.tmp p)) (hx : T a p = v) (hr : r v w) : o.wp Try.prog a w (Leaves r o a w) Q := by
  obtain ⟨dst, op, type, pos, after, guard⟩ := o
  simp only at ho
  subst ho
  refine ob_value (v := v) (w' := w) ?_ (Below.refl _ _) hr
  simp [execOp, Act.eval, hx, go_sem]
theorem enters70 : Enters 92 := fun args w => by simp [go_sem]
theorem enters72 : Enters 94 := fun args w => by simp [go_sem]
end
end Go.Proofs.Ytjmbimgofceanaa

/- A drawn region: each operation shown once, by an invariant that knows which operations have come up; an operation may panic. -/
namespace Go.Proofs.Ytjmbimgofceanaa
open Go Go.RowKit

section
variable {P : Program} {ops : Array Oper} {Q : Exit → Act → World → Prop}
/-- the operations that have come up, one more -/
def more (L : Nat → Bool) (i : Nat) : Nat → Bool := fun j => if j = i then true else L j
theorem wpAny_inv (Inv : (Nat → Bool) → Act → World → Prop)
    (hwf : ∀ i o e, ops[i]? = some o → e ∈ o.after → Region.binds .any e = true → e.on < i)
    (hstep : ∀ i o, ops[i]? = some o → o.guard = none ∧ ∀ L a w, Inv L a w → L i = false → (∀ e ∈ o.after, Region.binds .any e = true → L e.on = true) → o.wp P a w (fun a' w' => Inv (more L i) a' w') Q)
    (hend : ∀ L a w, (∀ i, i < ops.size → L i = true) → Inv L a w → Q .normal a w) :
    ∀ (fuel : Nat) (listed : Array Bool) (a : Act) (w : World), listed.size = ops.size → left ops listed ≤ fuel → Inv (fun i => listed.getD i true) a w → wpAny P .any ops Q fuel listed a w := by
  intro fuel
  induction fuel with
  | zero =>
    intro listed a w hsz hl hf
    have hall := left_zero (Nat.le_zero.1 hl)
    refine ⟨?_, hend _ a w (fun i hi => hall i hi) hf⟩
    apply List.eq_nil_iff_forall_not_mem.2
    intro i hi
    obtain ⟨h0, o, ho, _⟩ := mem_ready.1 hi
    have hlt := (Array.getElem?_eq_some_iff.1 ho).1
    rw [hall i hlt] at h0
    cases h0
  | succ fuel ih =>
    intro listed a w hsz hl hf
    refine ⟨fun h => hend _ a w (fun i hi => all_of_ready hwf hsz h i hi) hf, fun i hi => ?_⟩
    obtain ⟨h0, o, ho, hafter⟩ := mem_ready.1 hi
    have hlt := (Array.getElem?_eq_some_iff.1 ho).1
    obtain ⟨hg, hs⟩ := hstep i o ho
    have hw := hs _ a w hf h0 (fun e he hb => by
      have h4 := hafter e he hb
      have h5 := hwf i o e ho he hb
      have hs : e.on < listed.size := by omega
      simp [hs] at h4 ⊢
      exact h4)
    unfold wpOp
    simp only [ho, wanted_free hg, if_true]
    refine .inl (Oper.wp_mono (fun a' w' h => ?_) hw)
    refine ih _ a' w' (by simpa using hsz) (by have := left_set hlt h0 hsz; omega) ?_
    have e : (fun j => (listed.setIfInBounds i true).getD j true) = more (fun j => listed.getD j true) i := by
      funext j
      unfold more
      by_cases e : j = i
      · subst e
        have hjs : j < listed.size := by omega
        simp [hjs]
      · rw [getD_set_ne true (Ne.symm e)]
        simp [e]
    rw [e]
    exact h
theorem wp_region_inv {id : Nat} {a : Act} {w : World} (hm : P.follows .mixedOrders = true) (Inv : (Nat → Bool) → Act → World → Prop)
    (hwf : ∀ i o e, ops[i]? = some o → e ∈ o.after → Region.binds .any e = true → e.on < i)
    (hstep : ∀ i o, ops[i]? = some o → o.guard = none ∧ ∀ L a w, Inv L a w → L i = false → (∀ e ∈ o.after, Region.binds .any e = true → L e.on = true) → o.wp P a w (fun a' w' => Inv (more L i) a' w') Q)
    (hend : ∀ L a w, (∀ i, i < ops.size → L i = true) → Inv L a w → Q .normal a w)
    (h0 : ∀ L, (∀ i, i < ops.size → L i = false) → Inv L a w.drew) : (Code.region id ops true).wp P Q a w := by
  refine wp_region_any hm (wpAny_inv Inv hwf hstep hend ops.size _ a _ (by simp) ?_ (h0 _ (fun i hi => by simp [hi])))
  unfold left
  have := List.length_filter_le (fun i => !(Array.replicate ops.size false).getD i true) (List.range ops.size)
  simpa using this
end
end Go.Proofs.Ytjmbimgofceanaa

