/- ere's set. -/
import Derived.Test.YtjmbimgofceanaaG12
namespace Go.Proofs.Ytjmbimgofceanaa
open Go.RowKit
attribute [local go_sem ↓] Go.wp_at_zero Go.wp_at_succ

theorem fr8_lit {act a : Act} (h : Fr8 act a) (hs : act.tmps.size = 52) : a = (((((act.put (some 33) (T a 33)).put (some 34) (T a 34)).put (some 35) (T a 35)).put (some 36) (T a 36)).put (some 37) (T a 37)).put (some 38) (T a 38) := by
  obtain ⟨h1, h2, h3⟩ := h
  obtain ⟨tmps, defers⟩ := a
  simp only at h1 h2 h3
  simp only [Act.put, Act.mk.injEq]
  refine ⟨?_, h2⟩
  apply Array.ext_getElem?
  intro k
  have hT : ∀ j, j < 52 → tmps[j]? = some (T ⟨tmps, defers⟩ j) := fun j hj => by
    have : j < tmps.size := by omega
    simp [T, this]
  by_cases hk : k < 33 ∨ 39 ≤ k
  · rw [h3 k hk, Array.getElem?_setIfInBounds_ne (by omega), Array.getElem?_setIfInBounds_ne (by omega), Array.getElem?_setIfInBounds_ne (by omega), Array.getElem?_setIfInBounds_ne (by omega), Array.getElem?_setIfInBounds_ne (by omega), Array.getElem?_setIfInBounds_ne (by omega)]
  · have hk' : k = 33 ∨ k = 34 ∨ k = 35 ∨ k = 36 ∨ k = 37 ∨ k = 38 := by omega
    rcases hk' with rfl | rfl | rfl | rfl | rfl | rfl <;> rw [hT _ (by decide)] <;> simp [hs]
/-- what the set is, behind its items -/
def setEnd (s : ByteArray) (i : Nat) (r : Rs Oct.S) : Rs Oct.S :=
  match r with
  | .ok b k => .ok (if sees s (i + 1) 94 then Oct.inv b else Oct.meet b ordinary) k
  | .bad a e => .bad a e
  | .out => .out
theorem setOf_eq (s : ByteArray) (f i : Nat) : setOf s f i = match item s i (if sees s (i + 1) 94 then i + 2 else i + 1) with
  | .ok a j => setEnd s i (setLoop s i f a j)
  | .bad a e => .bad a e
  | .out => .out := by
  unfold setOf setEnd
  rfl
set_option maxRecDepth 4000 in
set_option maxHeartbeats 4000000 in
theorem set_walk (B i d f : Nat) (s : ByteArray) (w : World) (h : RB w B s i d) (hi : i < s.size) (hs : s.size ≤ 1024) (hm : GM w) (hB0 : B ≠ 0) (hout : setOf s f i ≠ .out) : Calls Try.prog 86 #[.pointer (some ⟨B, 0, none⟩)] w (Reads w B s d (setOf s f i) SetV) := by
  have HO : Hid (setOf s f i ≠ .out) := hout
  have hBlt := h.lt
  have HZ0 : Hid (SB (w.alloc (.cells #[.int .u64 0, .int .u64 0, .int .u64 0, .int .u64 0] 27)) w.heap.size Oct.none) := sb_zero w
  have hal : Below w.heap.size w (w.alloc (.cells #[.int .u64 0, .int .u64 0, .int .u64 0, .int .u64 0] 27)) := (Below.refl _ _).alloc (Nat.le_refl _) _
  have HR1 : Hid (RB (w.alloc (.cells #[.int .u64 0, .int .u64 0, .int .u64 0, .int .u64 0] 27)) B s i d) := h.later hal
  have HM1 : Hid (GM (w.alloc (.cells #[.int .u64 0, .int .u64 0, .int .u64 0, .int .u64 0] 27))) := hm.later hal
  have HBR : Hid (w.heap.size ≠ B) := by show _ ≠ _; omega
  obtain ⟨w1, hw1⟩ : ∃ w1, w1 = w.alloc (.cells #[.int .u64 0, .int .u64 0, .int .u64 0, .int .u64 0] 27) := ⟨_, rfl⟩
  have HG1 : Hid (w.grownBy w1 (some B)) := by rw [hw1]; exact grown_alloc _ _ _
  rw [← hw1] at HR1 HZ0 HM1
  have HW1 : Hid (w1 = _) := hw1
  clear hw1 h hal hm hout
  obtain ⟨R, hR⟩ : ∃ R, R = w.heap.size := ⟨_, rfl⟩
  rw [← hR] at HZ0 HBR
  have HRR : Hid (R = _) := hR
  have HBL : Hid (B < w.heap.size) := hBlt
  have HB0 : Hid (B ≠ 0) := hB0
  clear hR hBlt hB0
  obtain ⟨c0, c1, c2⟩ := HR1.out.cells
  have f1 := HR1.out.frozen 1
  have hi3 : i ≤ 1024 := by omega
  have HR2 : Hid (RB (w1.setCell ⟨B, 1, none⟩ (.int .i64 ((i : Int) + 1))) B s (i + 1) d) := HR1.out.at (i + 1)
  have HZ2 : Hid (SB (w1.setCell ⟨B, 1, none⟩ (.int .i64 ((i : Int) + 1))) R Oct.none) := HZ0.out.other HBR.out _ _
  have HM2 : Hid (GM (w1.setCell ⟨B, 1, none⟩ (.int .i64 ((i : Int) + 1)))) := gm_other HM1.out HB0.out _ _
  have HG2 : Hid (w.grownBy (w1.setCell ⟨B, 1, none⟩ (.int .i64 ((i : Int) + 1))) (some B)) := grown_trans HG1.out (grown_set _ _ _ _)
  go_enter Try.func86, Try.ntmps86
  go_upto_region 1 with fail
  rw [← HW1.out, ← HRR.out]
  clear HW1
  go_wp2_with fail
  obtain ⟨w2, hw2⟩ : ∃ w2, w2 = w1.setCell ⟨B, 1, none⟩ (.int .i64 ((i : Int) + 1)) := ⟨_, rfl⟩
  rw [← hw2] at HR2 HZ2 HM2 HG2 ⊢
  clear hw2 c0 c1 c2 f1 HR1 HZ0 HM1 HG1
  refine (sees_any B (i + 1) d 94 s w2 HR2.out (by omega)).mono ?_
  rintro e w3 ⟨rfl, k3⟩
  have HR3 : Hid (RB w3 B s (i + 1) d) := HR2.out.later k3
  have HZ3 : Hid (SB w3 R Oct.none) := HZ2.out.later k3
  have HM3 : Hid (GM w3) := HM2.out.later k3
  have HG3 : Hid (w.grownBy w3 (some B)) := grown_below HG2.out k3
  clear k3 HR2 HZ2 HM2 HG2
  obtain ⟨oth, hoth⟩ : ∃ oth, oth = sees s (i + 1) 94 := ⟨_, rfl⟩
  have HOT : Hid (oth = sees s (i + 1) 94) := hoth
  rw [← hoth]
  clear hoth
  cases hoth : oth with
  | true =>
    have hlt2 : i + 1 < s.size := by have h := HOT.out; rw [hoth] at h; unfold sees at h; simp at h; exact h.1
    rw [hoth] at HOT
    clear hoth
    obtain ⟨c0, c1, c2⟩ := HR3.out.cells
    have f1 := HR3.out.frozen 1
    have e1 : ((i : Int) + 1) = ((i + 1 : Nat) : Int) := by omega
    have HRw4 : Hid (RB (w3.setCell ⟨B, 1, none⟩ (.int .i64 ((i : Int) + 1 + 1))) B s (i + 2) d) := HR3.out.at (i + 2)
    have HZw4 : Hid (SB (w3.setCell ⟨B, 1, none⟩ (.int .i64 ((i : Int) + 1 + 1))) R Oct.none) := HZ3.out.other HBR.out _ _
    have HMw4 : Hid (GM (w3.setCell ⟨B, 1, none⟩ (.int .i64 ((i : Int) + 1 + 1)))) := gm_other HM3.out HB0.out _ _
    have HGw4 : Hid (w.grownBy (w3.setCell ⟨B, 1, none⟩ (.int .i64 ((i : Int) + 1 + 1))) (some B)) := grown_trans HG3.out (grown_set _ _ _ _)
    clear e1
    go_upto_region 6 with fail
    obtain ⟨w4, hw4⟩ : ∃ w4, w4 = w3.setCell ⟨B, 1, none⟩ (.int .i64 ((i : Int) + 1 + 1)) := ⟨_, rfl⟩
    rw [← hw4] at HRw4 HZw4 HMw4 HGw4 ⊢
    clear hw4 c0 c1 c2 f1 HR3 HZ3 HM3 HG3
    have HSO : Hid (setOf s f i = match item s i (i + 2) with
      | .ok a j => setEnd s i (setLoop s i f a j)
      | .bad a e => .bad a e
      | .out => .out) := by show _ = _; rw [setOf_eq, ← HOT.out]; rfl
    go_wp2_with fail
    refine (item_walk B i (i + 2) d s w4 HRw4.out (by omega) hs HMw4.out).mono ?_
    intro e w5 h5
    cases hc : item s i (i + 2) with
    | out => rw [hc] at h5; exact h5.elim
    | bad a c =>
      rw [hc] at h5 HSO
      obtain ⟨rfl, hg5⟩ := h5
      have HG5 : Hid (w.grownBy w5 (some B)) := grown_trans HGw4.out hg5
      clear hc hg5
      go_wp2
      refine ⟨rfl, ?_⟩
      unfold Reads
      rw [HSO.out]
      exact ⟨rfl, HG5.out⟩
    | ok A j =>
      rw [hc] at h5 HSO
      obtain ⟨hj, v, rfl, rfl, hr5, hg5⟩ := h5
      have hRlt := HZw4.out.lt
      have HZ5 : Hid (SB w5 R Oct.none) := (hg5.block R hRlt (by have := HBR.out; simp; exact this)).trans HZw4.out
      have HM5 : Hid (GM w5) := HMw4.out.grown hg5 HB0.out
      have HG5 : Hid (w.grownBy w5 (some B)) := grown_trans HGw4.out hg5
      have hal : Below w5.heap.size w5 (w5.alloc (.cells #[.int .u64 (Oct.word A 0 : Nat), .int .u64 (Oct.word A 1 : Nat), .int .u64 (Oct.word A 2 : Nat), .int .u64 (Oct.word A 3 : Nat)] 27)) := (Below.refl _ _).alloc (Nat.le_refl _) _
      have HS6 : Hid (Sx w s B w5.heap.size R d (w5.alloc (.cells #[.int .u64 (Oct.word A 0 : Nat), .int .u64 (Oct.word A 1 : Nat), .int .u64 (Oct.word A 2 : Nat), .int .u64 (Oct.word A 3 : Nat)] 27)) j A) :=
        ⟨sb_new w5 A, HZ5.out.later hal, hr5.later hal, HM5.out.later hal, grown_below HG5.out hal, HG5.out.size, by rw [HRR.out]; exact Nat.le_refl _, by have := HZ5.out.lt; omega, HBL.out, HB0.out⟩
      obtain ⟨Y, hY⟩ : ∃ Y, Y = w5.heap.size := ⟨_, rfl⟩
      obtain ⟨w6, hw6⟩ : ∃ w6, w6 = w5.alloc (.cells #[.int .u64 (Oct.word A 0 : Nat), .int .u64 (Oct.word A 1 : Nat), .int .u64 (Oct.word A 2 : Nat), .int .u64 (Oct.word A 3 : Nat)] 27) := ⟨_, rfl⟩
      rw [← hw6, ← hY] at HS6
      have HW6 : Hid (w6 = _) := hw6
      have HYY : Hid (Y = _) := hY
      clear hc hw6 hY hal hr5 hg5 hRlt HZ5 HM5 HG5 HRw4 HZw4 HMw4 HGw4
      unfold setV
      go_wp2_with fail
      rw [← HW6.out, ← HYY.out]
      clear HW6 HYY
      go_loopw [] (fun u => ∃ (f' : Nat) (A' : Oct.S) (j' : Nat), j' ≤ s.size ∧ Hid (Sx w s B Y R d u j' A') ∧ Hid (setOf s f i = setEnd s i (setLoop s i f' A' j'))) (fun u => 4000 - (intOf ((u.cell? ⟨B, 1, none⟩).getD undef)).toNat)
      case atStart => exact ⟨f, A, j, hj, HS6, HSO⟩
      case round =>
        clear HS6 HSO
        obtain ⟨f', A', j', hj', hsx, hso⟩ := hrel
        have HM : Hid (4000 - (intOf ((wr.cell? ⟨B, 1, none⟩).getD undef)).toNat = 4000 - j') := by show _ = _; rw [hsx.out.rd.cells.2.1]; simp [intOf]
        obtain ⟨f2, rfl⟩ : ∃ f2, f' = f2 + 1 := by
          cases f' with
          | zero => exact absurd hso.out HO.out
          | succ f2 => exact ⟨f2, rfl⟩
        go_wp2_with fail
        refine (sees_any B j' d 93 s wr hsx.out.rd hj').mono ?_
        rintro e u1 ⟨rfl, ku⟩
        have HS2 : Hid (Sx w s B Y R d u1 j' A') := hsx.out.later ku
        clear ku
        cases h93 : sees s j' 93 with
        | true =>
          have hjlt : j' < s.size := by unfold sees at h93; simp at h93; exact h93.1
          have HXF : Hid (setOf s f i = .ok (Oct.inv A') (j' + 1)) := by
            show _ = _
            rw [hso.out]
            simp only [setLoop, h93, if_true, setEnd]
            rw [← HOT.out]
            rfl
          clear h93 hso
          obtain ⟨c0, c1, c2⟩ := HS2.out.rd.cells
          have f1 := HS2.out.rd.frozen 1
          have hj3 : j' ≤ 1024 := by omega
          have HR9 : Hid (RB (u1.setCell ⟨B, 1, none⟩ (.int .i64 ((j' : Int) + 1))) B s (j' + 1) d) := HS2.out.rd.at (j' + 1)
          have HS9 : Hid (Sx w s B Y R d (u1.setCell ⟨B, 1, none⟩ (.int .i64 ((j' : Int) + 1))) (j' + 1) A') := HS2.out.read (grown_set _ _ _ _) HR9.out
          go_upto_region 11 with fail
          obtain ⟨w9, hw9⟩ : ∃ w9, w9 = u1.setCell ⟨B, 1, none⟩ (.int .i64 ((j' : Int) + 1)) := ⟨_, rfl⟩
          rw [← hw9] at HS9 ⊢
          clear hw9 HR9 c0 c1 c2 f1
          obtain ⟨e0, e1, e2, e3⟩ := HS9.out.all.cells
          go_wp2_with fail
          refine (not_gen A' _).mono ?_
          rintro e w10 ⟨rfl, k10⟩
          have HS10 : Hid (Sx w s B Y R d w10 (j' + 1) A') := HS9.out.later k10
          clear k10 e0 e1 e2 e3
          obtain ⟨z0, z1, z2, z3⟩ := HS10.out.res.cells
          have y0 := HS10.out.res.frozen 0
          have y1 := HS10.out.res.frozen 1
          have y2 := HS10.out.res.frozen 2
          have y3 := HS10.out.res.frozen 3
          go_wp2
          obtain ⟨q1, q2, q3⟩ := HS10.out.putR (Oct.inv A')
          refine post_set Try.f86 2 rfl rfl rfl q1 ?_
          unfold Reads
          rw [HXF.out]
          exact ⟨by omega, _, rfl, rfl, q2, q3⟩
        | false =>
          have H93 : Hid (sees s j' 93 = false) := h93
          clear h93
          cases hit : item s i j' with
          | out =>
            exfalso
            apply HO.out
            rw [hso.out]
            simp [setLoop, H93.out, hit, setEnd]
          | bad x c =>
            have HXF : Hid (setOf s f i = .bad x c) := by
              show _ = _
              rw [hso.out]
              simp [setLoop, H93.out, hit, setEnd]
            have HIT : Hid (item s i j' = .bad x c) := hit
            clear hit
            go_upto_region 8 with fail
            refine reg8_bad (w := w) (s := s) (B := B) (Y := Y) (R := R) (d := d) rfl rfl rfl rfl HS2.out hj' hs HIT.out ?_
            intro a' W' hd' hg'
            refine ⟨hd', ?_⟩
            unfold Reads
            rw [HXF.out]
            exact ⟨rfl, hg'⟩
          | ok x k =>
            have HXN : Hid (setOf s f i = setEnd s i (setLoop s i f2 (Oct.join A' x) k)) := by
              show _ = _
              rw [hso.out]
              simp [setLoop, H93.out, hit]
            have HIT : Hid (item s i j' = .ok x k) := hit
            have hkk := item_le hj' hit
            clear hit
            go_upto_region 8 with fail
            refine reg8_ok (w := w) (s := s) (B := B) (Y := Y) (R := R) (d := d) rfl rfl rfl rfl HS2.out hj' hs HIT.out ?_
            intro a' W' hfr hk hsn
            rw [fr8_lit hfr rfl]
            have HSN : Hid (Sx w s B Y R d W' k (Oct.join A' x)) := hsn
            obtain ⟨v33, e33⟩ : ∃ v, v = T a' 33 := ⟨_, rfl⟩
            obtain ⟨v34, e34⟩ : ∃ v, v = T a' 34 := ⟨_, rfl⟩
            obtain ⟨v35, e35⟩ : ∃ v, v = T a' 35 := ⟨_, rfl⟩
            obtain ⟨v36, e36⟩ : ∃ v, v = T a' 36 := ⟨_, rfl⟩
            obtain ⟨v37, e37⟩ : ∃ v, v = T a' 37 := ⟨_, rfl⟩
            obtain ⟨v38, e38⟩ : ∃ v, v = T a' 38 := ⟨_, rfl⟩
            rw [← e33, ← e34, ← e35, ← e36, ← e37, ← e38]
            clear e33 e34 e35 e36 e37 e38 hfr hsn
            go_wp2_with fail
            go_roundw
            case rel => exact ⟨_, _, _, _, _, _, _, _, _, ⟨f2, Oct.join A' x, k, hk, HSN, HXN⟩, rfl⟩
            case measure =>
              rw [HM.out, HSN.out.rd.cells.2.1]
              simp [intOf]
              omega
  | false =>
    rw [hoth] at HOT
    clear hoth
    have HRw3 := HR3
    have HZw3 := HZ3
    have HMw3 := HM3
    have HGw3 := HG3
    clear HR3 HZ3 HM3 HG3
    have HSO : Hid (setOf s f i = match item s i (i + 1) with
      | .ok a j => setEnd s i (setLoop s i f a j)
      | .bad a e => .bad a e
      | .out => .out) := by show _ = _; rw [setOf_eq, ← HOT.out]; rfl
    go_wp2_with fail
    refine (item_walk B i (i + 1) d s w3 HRw3.out (by omega) hs HMw3.out).mono ?_
    intro e w5 h5
    cases hc : item s i (i + 1) with
    | out => rw [hc] at h5; exact h5.elim
    | bad a c =>
      rw [hc] at h5 HSO
      obtain ⟨rfl, hg5⟩ := h5
      have HG5 : Hid (w.grownBy w5 (some B)) := grown_trans HGw3.out hg5
      clear hc hg5
      go_wp2
      refine ⟨rfl, ?_⟩
      unfold Reads
      rw [HSO.out]
      exact ⟨rfl, HG5.out⟩
    | ok A j =>
      rw [hc] at h5 HSO
      obtain ⟨hj, v, rfl, rfl, hr5, hg5⟩ := h5
      have hRlt := HZw3.out.lt
      have HZ5 : Hid (SB w5 R Oct.none) := (hg5.block R hRlt (by have := HBR.out; simp; exact this)).trans HZw3.out
      have HM5 : Hid (GM w5) := HMw3.out.grown hg5 HB0.out
      have HG5 : Hid (w.grownBy w5 (some B)) := grown_trans HGw3.out hg5
      have hal : Below w5.heap.size w5 (w5.alloc (.cells #[.int .u64 (Oct.word A 0 : Nat), .int .u64 (Oct.word A 1 : Nat), .int .u64 (Oct.word A 2 : Nat), .int .u64 (Oct.word A 3 : Nat)] 27)) := (Below.refl _ _).alloc (Nat.le_refl _) _
      have HS6 : Hid (Sx w s B w5.heap.size R d (w5.alloc (.cells #[.int .u64 (Oct.word A 0 : Nat), .int .u64 (Oct.word A 1 : Nat), .int .u64 (Oct.word A 2 : Nat), .int .u64 (Oct.word A 3 : Nat)] 27)) j A) :=
        ⟨sb_new w5 A, HZ5.out.later hal, hr5.later hal, HM5.out.later hal, grown_below HG5.out hal, HG5.out.size, by rw [HRR.out]; exact Nat.le_refl _, by have := HZ5.out.lt; omega, HBL.out, HB0.out⟩
      obtain ⟨Y, hY⟩ : ∃ Y, Y = w5.heap.size := ⟨_, rfl⟩
      obtain ⟨w6, hw6⟩ : ∃ w6, w6 = w5.alloc (.cells #[.int .u64 (Oct.word A 0 : Nat), .int .u64 (Oct.word A 1 : Nat), .int .u64 (Oct.word A 2 : Nat), .int .u64 (Oct.word A 3 : Nat)] 27) := ⟨_, rfl⟩
      rw [← hw6, ← hY] at HS6
      have HW6 : Hid (w6 = _) := hw6
      have HYY : Hid (Y = _) := hY
      clear hc hw6 hY hal hr5 hg5 hRlt HZ5 HM5 HG5 HRw3 HZw3 HMw3 HGw3
      unfold setV
      go_wp2_with fail
      rw [← HW6.out, ← HYY.out]
      clear HW6 HYY
      go_loopw [] (fun u => ∃ (f' : Nat) (A' : Oct.S) (j' : Nat), j' ≤ s.size ∧ Hid (Sx w s B Y R d u j' A') ∧ Hid (setOf s f i = setEnd s i (setLoop s i f' A' j'))) (fun u => 4000 - (intOf ((u.cell? ⟨B, 1, none⟩).getD undef)).toNat)
      case atStart => exact ⟨f, A, j, hj, HS6, HSO⟩
      case round =>
        clear HS6 HSO
        obtain ⟨f', A', j', hj', hsx, hso⟩ := hrel
        have HM : Hid (4000 - (intOf ((wr.cell? ⟨B, 1, none⟩).getD undef)).toNat = 4000 - j') := by show _ = _; rw [hsx.out.rd.cells.2.1]; simp [intOf]
        obtain ⟨f2, rfl⟩ : ∃ f2, f' = f2 + 1 := by
          cases f' with
          | zero => exact absurd hso.out HO.out
          | succ f2 => exact ⟨f2, rfl⟩
        go_wp2_with fail
        refine (sees_any B j' d 93 s wr hsx.out.rd hj').mono ?_
        rintro e u1 ⟨rfl, ku⟩
        have HS2 : Hid (Sx w s B Y R d u1 j' A') := hsx.out.later ku
        clear ku
        cases h93 : sees s j' 93 with
        | true =>
          have hjlt : j' < s.size := by unfold sees at h93; simp at h93; exact h93.1
          have HXF : Hid (setOf s f i = .ok (Oct.meet A' ordinary) (j' + 1)) := by
            show _ = _
            rw [hso.out]
            simp only [setLoop, h93, if_true, setEnd]
            rw [← HOT.out]
            rfl
          clear h93 hso
          obtain ⟨c0, c1, c2⟩ := HS2.out.rd.cells
          have f1 := HS2.out.rd.frozen 1
          have hj3 : j' ≤ 1024 := by omega
          have HR9 : Hid (RB (u1.setCell ⟨B, 1, none⟩ (.int .i64 ((j' : Int) + 1))) B s (j' + 1) d) := HS2.out.rd.at (j' + 1)
          have HS9 : Hid (Sx w s B Y R d (u1.setCell ⟨B, 1, none⟩ (.int .i64 ((j' : Int) + 1))) (j' + 1) A') := HS2.out.read (grown_set _ _ _ _) HR9.out
          go_upto_region 12 with fail
          obtain ⟨w9, hw9⟩ : ∃ w9, w9 = u1.setCell ⟨B, 1, none⟩ (.int .i64 ((j' : Int) + 1)) := ⟨_, rfl⟩
          rw [← hw9] at HS9 ⊢
          clear hw9 HR9 c0 c1 c2 f1
          refine reg12 (w := w) (s := s) (B := B) (Y := Y) (R := R) (d := d) rfl rfl rfl HS9.out ?_
          intro a' W' hfr q1 q2 q3
          have hT2 : a'.tmps[2]?.getD undef = .pointer (some ⟨R, 0, none⟩) := fr12_T hfr (k := 2) (by decide)
          rename_i hK2
          refine hK2 _ _ (wp_ret ?_)
          refine post_set Try.f86 2 rfl hfr.2.1 hT2 q1 ?_
          unfold Reads
          rw [HXF.out]
          exact ⟨by omega, _, rfl, rfl, q2, q3⟩
        | false =>
          have H93 : Hid (sees s j' 93 = false) := h93
          clear h93
          cases hit : item s i j' with
          | out =>
            exfalso
            apply HO.out
            rw [hso.out]
            simp [setLoop, H93.out, hit, setEnd]
          | bad x c =>
            have HXF : Hid (setOf s f i = .bad x c) := by
              show _ = _
              rw [hso.out]
              simp [setLoop, H93.out, hit, setEnd]
            have HIT : Hid (item s i j' = .bad x c) := hit
            clear hit
            go_upto_region 8 with fail
            refine reg8_bad (w := w) (s := s) (B := B) (Y := Y) (R := R) (d := d) rfl rfl rfl rfl HS2.out hj' hs HIT.out ?_
            intro a' W' hd' hg'
            refine ⟨hd', ?_⟩
            unfold Reads
            rw [HXF.out]
            exact ⟨rfl, hg'⟩
          | ok x k =>
            have HXN : Hid (setOf s f i = setEnd s i (setLoop s i f2 (Oct.join A' x) k)) := by
              show _ = _
              rw [hso.out]
              simp [setLoop, H93.out, hit]
            have HIT : Hid (item s i j' = .ok x k) := hit
            have hkk := item_le hj' hit
            clear hit
            go_upto_region 8 with fail
            refine reg8_ok (w := w) (s := s) (B := B) (Y := Y) (R := R) (d := d) rfl rfl rfl rfl HS2.out hj' hs HIT.out ?_
            intro a' W' hfr hk hsn
            rw [fr8_lit hfr rfl]
            have HSN : Hid (Sx w s B Y R d W' k (Oct.join A' x)) := hsn
            obtain ⟨v33, e33⟩ : ∃ v, v = T a' 33 := ⟨_, rfl⟩
            obtain ⟨v34, e34⟩ : ∃ v, v = T a' 34 := ⟨_, rfl⟩
            obtain ⟨v35, e35⟩ : ∃ v, v = T a' 35 := ⟨_, rfl⟩
            obtain ⟨v36, e36⟩ : ∃ v, v = T a' 36 := ⟨_, rfl⟩
            obtain ⟨v37, e37⟩ : ∃ v, v = T a' 37 := ⟨_, rfl⟩
            obtain ⟨v38, e38⟩ : ∃ v, v = T a' 38 := ⟨_, rfl⟩
            rw [← e33, ← e34, ← e35, ← e36, ← e37, ← e38]
            clear e33 e34 e35 e36 e37 e38 hfr hsn
            go_wp2_with fail
            go_roundw
            case rel => exact ⟨_, _, _, _, _, _, _, _, _, ⟨f2, Oct.join A' x, k, hk, HSN, HXN⟩, rfl⟩
            case measure =>
              rw [HM.out, HSN.out.rd.cells.2.1]
              simp [intOf]
              omega
end Go.Proofs.Ytjmbimgofceanaa
