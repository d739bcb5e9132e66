/- ere's set. -/
import Derived.Test.YtjmbimgofceanaaG06
import Derived.Deep.AppendLies
import Derived.WideShapes
namespace Go.Proofs.Ytjmbimgofceanaa
open Go.RowKit
attribute [local go_sem ↓] Go.wp_at_zero Go.wp_at_succ

theorem fr8_lit {act a : Act} (h : Fr8 act a) (hs : act.tmps.size = 52) : a = (((((act.put (some 33) (T a 33)).put (some 34) (T a 34)).put (some 35) (T a 35)).put (some 36) (T a 36)).put (some 37) (T a 37)).put (some 38) (T a 38) := by
  obtain ⟨h1, h2, h3⟩ := h
  obtain ⟨tmps, defers⟩ := a
  simp only at h1 h2 h3
  simp only [Act.put, Act.mk.injEq]
  refine ⟨?_, h2⟩
  apply Array.ext_getElem?
  intro k
  have hT : ∀ j, j < 52 → tmps[j]? = some (T ⟨tmps, defers⟩ j) := fun j hj => by
    have : j < tmps.size := by omega
    simp [T, this]
  by_cases hk : k < 33 ∨ 39 ≤ k
  · rw [h3 k hk, Array.getElem?_setIfInBounds_ne (by omega), Array.getElem?_setIfInBounds_ne (by omega), Array.getElem?_setIfInBounds_ne (by omega), Array.getElem?_setIfInBounds_ne (by omega), Array.getElem?_setIfInBounds_ne (by omega), Array.getElem?_setIfInBounds_ne (by omega)]
  · have hk' : k = 33 ∨ k = 34 ∨ k = 35 ∨ k = 36 ∨ k = 37 ∨ k = 38 := by omega
    rcases hk' with rfl | rfl | rfl | rfl | rfl | rfl <;> rw [hT _ (by decide)] <;> simp [hs]
/-- what the set is, behind its items -/
def setEnd (s : ByteArray) (i : Nat) (r : Rs Oct.S) : Rs Oct.S :=
  match r with
  | .ok b k => .ok (if sees s (i + 1) 94 then Oct.inv b else Oct.meet b ordinary) k
  | .bad a e => .bad a e
  | .out => .out
theorem setOf_eq (s : ByteArray) (f i : Nat) : setOf s f i = match item s i (if sees s (i + 1) 94 then i + 2 else i + 1) with
  | .ok a j => setEnd s i (setLoop s i f a j)
  | .bad a e => .bad a e
  | .out => .out := by
  unfold setOf setEnd
  rfl
set_option maxRecDepth 4000 in
set_option maxHeartbeats 4000000 in
theorem set_walk (B i d f : Nat) (s : ByteArray) (w : World) (h : RB w B s i d) (hi : i < s.size) (hs : s.size ≤ 1024) (hm : GM w) (hB0 : B ≠ 0) (hout : setOf s f i ≠ .out) : Calls Try.prog 86 #[.pointer (some ⟨B, 0, none⟩)] w (Reads w B s d (setOf s f i) SetV) := by
  have HO : Hid (setOf s f i ≠ .out) := hout
  have hBlt := h.lt
  have HZ0 : Hid (SB (w.alloc (.cells #[.int .u64 0, .int .u64 0, .int .u64 0, .int .u64 0] 27)) w.heap.size Oct.none) := sb_zero w
  have hal : Below w.heap.size w (w.alloc (.cells #[.int .u64 0, .int .u64 0, .int .u64 0, .int .u64 0] 27)) := (Below.refl _ _).alloc (Nat.le_refl _) _
  have HR1 : Hid (RB (w.alloc (.cells #[.int .u64 0, .int .u64 0, .int .u64 0, .int .u64 0] 27)) B s i d) := h.later hal
  have HM1 : Hid (GM (w.alloc (.cells #[.int .u64 0, .int .u64 0, .int .u64 0, .int .u64 0] 27))) := hm.later hal
  have HBR : Hid (w.heap.size ≠ B) := by show _ ≠ _; omega
  obtain ⟨w1, hw1⟩ : ∃ w1, w1 = w.alloc (.cells #[.int .u64 0, .int .u64 0, .int .u64 0, .int .u64 0] 27) := ⟨_, rfl⟩
  have HG1 : Hid (w.grownBy w1 (some B)) := by rw [hw1]; exact grown_alloc _ _ _
  rw [← hw1] at HR1 HZ0 HM1
  have HW1 : Hid (w1 = _) := hw1
  clear hw1 h hal hm hout
  obtain ⟨R, hR⟩ : ∃ R, R = w.heap.size := ⟨_, rfl⟩
  rw [← hR] at HZ0 HBR
  have HRR : Hid (R = _) := hR
  have HBL : Hid (B < w.heap.size) := hBlt
  have HB0 : Hid (B ≠ 0) := hB0
  clear hR hBlt hB0
  obtain ⟨c0, c1, c2⟩ := HR1.out.cells
  have f1 := HR1.out.frozen 1
  have hi3 : i ≤ 1024 := by omega
  have HR2 : Hid (RB (w1.setCell ⟨B, 1, none⟩ (.int .i64 ((i : Int) + 1))) B s (i + 1) d) := HR1.out.at (i + 1)
  have HZ2 : Hid (SB (w1.setCell ⟨B, 1, none⟩ (.int .i64 ((i : Int) + 1))) R Oct.none) := HZ0.out.other HBR.out _ _
  have HM2 : Hid (GM (w1.setCell ⟨B, 1, none⟩ (.int .i64 ((i : Int) + 1)))) := gm_other HM1.out HB0.out _ _
  have HG2 : Hid (w.grownBy (w1.setCell ⟨B, 1, none⟩ (.int .i64 ((i : Int) + 1))) (some B)) := grown_trans HG1.out (grown_set _ _ _ _)
  go_enter Try.func86, Try.ntmps86
  go_upto_region 1 with fail
  rw [← HW1.out, ← HRR.out]
  clear HW1
  go_wp2_with fail
  obtain ⟨w2, hw2⟩ : ∃ w2, w2 = w1.setCell ⟨B, 1, none⟩ (.int .i64 ((i : Int) + 1)) := ⟨_, rfl⟩
  rw [← hw2] at HR2 HZ2 HM2 HG2 ⊢
  clear hw2 c0 c1 c2 f1 HR1 HZ0 HM1 HG1
  refine (sees_any B (i + 1) d 94 s w2 HR2.out (by omega)).mono ?_
  rintro e w3 ⟨rfl, k3⟩
  have HR3 : Hid (RB w3 B s (i + 1) d) := HR2.out.later k3
  have HZ3 : Hid (SB w3 R Oct.none) := HZ2.out.later k3
  have HM3 : Hid (GM w3) := HM2.out.later k3
  have HG3 : Hid (w.grownBy w3 (some B)) := grown_below HG2.out k3
  clear k3 HR2 HZ2 HM2 HG2
  obtain ⟨oth, hoth⟩ : ∃ oth, oth = sees s (i + 1) 94 := ⟨_, rfl⟩
  have HOT : Hid (oth = sees s (i + 1) 94) := hoth
  rw [← hoth]
  clear hoth
  cases hoth : oth with
  | true =>
    have hlt2 : i + 1 < s.size := by have h := HOT.out; rw [hoth] at h; unfold sees at h; simp at h; exact h.1
    rw [hoth] at HOT
    clear hoth
    obtain ⟨c0, c1, c2⟩ := HR3.out.cells
    have f1 := HR3.out.frozen 1
    have e1 : ((i : Int) + 1) = ((i + 1 : Nat) : Int) := by omega
    have HRw4 : Hid (RB (w3.setCell ⟨B, 1, none⟩ (.int .i64 ((i : Int) + 1 + 1))) B s (i + 2) d) := HR3.out.at (i + 2)
    have HZw4 : Hid (SB (w3.setCell ⟨B, 1, none⟩ (.int .i64 ((i : Int) + 1 + 1))) R Oct.none) := HZ3.out.other HBR.out _ _
    have HMw4 : Hid (GM (w3.setCell ⟨B, 1, none⟩ (.int .i64 ((i : Int) + 1 + 1)))) := gm_other HM3.out HB0.out _ _
    have HGw4 : Hid (w.grownBy (w3.setCell ⟨B, 1, none⟩ (.int .i64 ((i : Int) + 1 + 1))) (some B)) := grown_trans HG3.out (grown_set _ _ _ _)
    clear e1
    go_upto_region 6 with fail
    obtain ⟨w4, hw4⟩ : ∃ w4, w4 = w3.setCell ⟨B, 1, none⟩ (.int .i64 ((i : Int) + 1 + 1)) := ⟨_, rfl⟩
    rw [← hw4] at HRw4 HZw4 HMw4 HGw4 ⊢
    clear hw4 c0 c1 c2 f1 HR3 HZ3 HM3 HG3
    have HSO : Hid (setOf s f i = match item s i (i + 2) with
      | .ok a j => setEnd s i (setLoop s i f a j)
      | .bad a e => .bad a e
      | .out => .out) := by show _ = _; rw [setOf_eq, ← HOT.out]; rfl
    go_wp2_with fail
    refine (item_walk B i (i + 2) d s w4 HRw4.out (by omega) hs HMw4.out).mono ?_
    intro e w5 h5
    cases hc : item s i (i + 2) with
    | out => rw [hc] at h5; exact h5.elim
    | bad a c =>
      rw [hc] at h5 HSO
      obtain ⟨rfl, hg5⟩ := h5
      have HG5 : Hid (w.grownBy w5 (some B)) := grown_trans HGw4.out hg5
      clear hc hg5
      go_wp2
      refine ⟨rfl, ?_⟩
      unfold Reads
      rw [HSO.out]
      exact ⟨rfl, HG5.out⟩
    | ok A j =>
      rw [hc] at h5 HSO
      obtain ⟨hj, v, rfl, rfl, hr5, hg5⟩ := h5
      have hRlt := HZw4.out.lt
      have HZ5 : Hid (SB w5 R Oct.none) := (hg5.block R hRlt (by have := HBR.out; simp; exact this)).trans HZw4.out
      have HM5 : Hid (GM w5) := HMw4.out.grown hg5 HB0.out
      have HG5 : Hid (w.grownBy w5 (some B)) := grown_trans HGw4.out hg5
      have hal : Below w5.heap.size w5 (w5.alloc (.cells #[.int .u64 (Oct.word A 0 : Nat), .int .u64 (Oct.word A 1 : Nat), .int .u64 (Oct.word A 2 : Nat), .int .u64 (Oct.word A 3 : Nat)] 27)) := (Below.refl _ _).alloc (Nat.le_refl _) _
      have HS6 : Hid (Sx w s B w5.heap.size R d (w5.alloc (.cells #[.int .u64 (Oct.word A 0 : Nat), .int .u64 (Oct.word A 1 : Nat), .int .u64 (Oct.word A 2 : Nat), .int .u64 (Oct.word A 3 : Nat)] 27)) j A) :=
        ⟨sb_new w5 A, HZ5.out.later hal, hr5.later hal, HM5.out.later hal, grown_below HG5.out hal, HG5.out.size, by rw [HRR.out]; exact Nat.le_refl _, by have := HZ5.out.lt; omega, HBL.out, HB0.out⟩
      obtain ⟨Y, hY⟩ : ∃ Y, Y = w5.heap.size := ⟨_, rfl⟩
      obtain ⟨w6, hw6⟩ : ∃ w6, w6 = w5.alloc (.cells #[.int .u64 (Oct.word A 0 : Nat), .int .u64 (Oct.word A 1 : Nat), .int .u64 (Oct.word A 2 : Nat), .int .u64 (Oct.word A 3 : Nat)] 27) := ⟨_, rfl⟩
      rw [← hw6, ← hY] at HS6
      have HW6 : Hid (w6 = _) := hw6
      have HYY : Hid (Y = _) := hY
      clear hc hw6 hY hal hr5 hg5 hRlt HZ5 HM5 HG5 HRw4 HZw4 HMw4 HGw4
      unfold setV
      go_wp2_with fail
      rw [← HW6.out, ← HYY.out]
      clear HW6 HYY
      go_loopw [] (fun u => ∃ (f' : Nat) (A' : Oct.S) (j' : Nat), j' ≤ s.size ∧ Hid (Sx w s B Y R d u j' A') ∧ Hid (setOf s f i = setEnd s i (setLoop s i f' A' j'))) (fun u => 4000 - (intOf ((u.cell? ⟨B, 1, none⟩).getD undef)).toNat)
      case atStart => exact ⟨f, A, j, hj, HS6, HSO⟩
      case round =>
        clear HS6 HSO
        obtain ⟨f', A', j', hj', hsx, hso⟩ := hrel
        have HM : Hid (4000 - (intOf ((wr.cell? ⟨B, 1, none⟩).getD undef)).toNat = 4000 - j') := by show _ = _; rw [hsx.out.rd.cells.2.1]; simp [intOf]
        obtain ⟨f2, rfl⟩ : ∃ f2, f' = f2 + 1 := by
          cases f' with
          | zero => exact absurd hso.out HO.out
          | succ f2 => exact ⟨f2, rfl⟩
        go_wp2_with fail
        refine (sees_any B j' d 93 s wr hsx.out.rd hj').mono ?_
        rintro e u1 ⟨rfl, ku⟩
        have HS2 : Hid (Sx w s B Y R d u1 j' A') := hsx.out.later ku
        clear ku
        cases h93 : sees s j' 93 with
        | true =>
          have hjlt : j' < s.size := by unfold sees at h93; simp at h93; exact h93.1
          have HXF : Hid (setOf s f i = .ok (Oct.inv A') (j' + 1)) := by
            show _ = _
            rw [hso.out]
            simp only [setLoop, h93, if_true, setEnd]
            rw [← HOT.out]
            rfl
          clear h93 hso
          obtain ⟨c0, c1, c2⟩ := HS2.out.rd.cells
          have f1 := HS2.out.rd.frozen 1
          have hj3 : j' ≤ 1024 := by omega
          have HR9 : Hid (RB (u1.setCell ⟨B, 1, none⟩ (.int .i64 ((j' : Int) + 1))) B s (j' + 1) d) := HS2.out.rd.at (j' + 1)
          have HS9 : Hid (Sx w s B Y R d (u1.setCell ⟨B, 1, none⟩ (.int .i64 ((j' : Int) + 1))) (j' + 1) A') := HS2.out.read (grown_set _ _ _ _) HR9.out
          go_upto_region 11 with fail
          obtain ⟨w9, hw9⟩ : ∃ w9, w9 = u1.setCell ⟨B, 1, none⟩ (.int .i64 ((j' : Int) + 1)) := ⟨_, rfl⟩
          rw [← hw9] at HS9 ⊢
          clear hw9 HR9 c0 c1 c2 f1
          obtain ⟨e0, e1, e2, e3⟩ := HS9.out.all.cells
          go_wp2_with fail
          refine (not_gen A' _).mono ?_
          rintro e w10 ⟨rfl, k10⟩
          have HS10 : Hid (Sx w s B Y R d w10 (j' + 1) A') := HS9.out.later k10
          clear k10 e0 e1 e2 e3
          obtain ⟨z0, z1, z2, z3⟩ := HS10.out.res.cells
          have y0 := HS10.out.res.frozen 0
          have y1 := HS10.out.res.frozen 1
          have y2 := HS10.out.res.frozen 2
          have y3 := HS10.out.res.frozen 3
          go_wp2
          obtain ⟨q1, q2, q3⟩ := HS10.out.putR (Oct.inv A')
          refine post_set Try.f86 2 rfl rfl rfl q1 ?_
          unfold Reads
          rw [HXF.out]
          exact ⟨by omega, _, rfl, rfl, q2, q3⟩
        | false =>
          have H93 : Hid (sees s j' 93 = false) := h93
          clear h93
          cases hit : item s i j' with
          | out =>
            exfalso
            apply HO.out
            rw [hso.out]
            simp [setLoop, H93.out, hit, setEnd]
          | bad x c =>
            have HXF : Hid (setOf s f i = .bad x c) := by
              show _ = _
              rw [hso.out]
              simp [setLoop, H93.out, hit, setEnd]
            have HIT : Hid (item s i j' = .bad x c) := hit
            clear hit
            go_upto_region 8 with fail
            refine reg8_bad (w := w) (s := s) (B := B) (Y := Y) (R := R) (d := d) rfl rfl rfl rfl HS2.out hj' hs HIT.out ?_
            intro a' W' hd' hg'
            refine ⟨hd', ?_⟩
            unfold Reads
            rw [HXF.out]
            exact ⟨rfl, hg'⟩
          | ok x k =>
            have HXN : Hid (setOf s f i = setEnd s i (setLoop s i f2 (Oct.join A' x) k)) := by
              show _ = _
              rw [hso.out]
              simp [setLoop, H93.out, hit]
            have HIT : Hid (item s i j' = .ok x k) := hit
            have hkk := item_le hj' hit
            clear hit
            go_upto_region 8 with fail
            refine reg8_ok (w := w) (s := s) (B := B) (Y := Y) (R := R) (d := d) rfl rfl rfl rfl HS2.out hj' hs HIT.out ?_
            intro a' W' hfr hk hsn
            rw [fr8_lit hfr rfl]
            have HSN : Hid (Sx w s B Y R d W' k (Oct.join A' x)) := hsn
            obtain ⟨v33, e33⟩ : ∃ v, v = T a' 33 := ⟨_, rfl⟩
            obtain ⟨v34, e34⟩ : ∃ v, v = T a' 34 := ⟨_, rfl⟩
            obtain ⟨v35, e35⟩ : ∃ v, v = T a' 35 := ⟨_, rfl⟩
            obtain ⟨v36, e36⟩ : ∃ v, v = T a' 36 := ⟨_, rfl⟩
            obtain ⟨v37, e37⟩ : ∃ v, v = T a' 37 := ⟨_, rfl⟩
            obtain ⟨v38, e38⟩ : ∃ v, v = T a' 38 := ⟨_, rfl⟩
            rw [← e33, ← e34, ← e35, ← e36, ← e37, ← e38]
            clear e33 e34 e35 e36 e37 e38 hfr hsn
            go_wp2_with fail
            go_roundw
            case rel => exact ⟨_, _, _, _, _, _, _, _, _, ⟨f2, Oct.join A' x, k, hk, HSN, HXN⟩, rfl⟩
            case measure =>
              rw [HM.out, HSN.out.rd.cells.2.1]
              simp [intOf]
              omega
  | false =>
    rw [hoth] at HOT
    clear hoth
    have HRw3 := HR3
    have HZw3 := HZ3
    have HMw3 := HM3
    have HGw3 := HG3
    clear HR3 HZ3 HM3 HG3
    have HSO : Hid (setOf s f i = match item s i (i + 1) with
      | .ok a j => setEnd s i (setLoop s i f a j)
      | .bad a e => .bad a e
      | .out => .out) := by show _ = _; rw [setOf_eq, ← HOT.out]; rfl
    go_wp2_with fail
    refine (item_walk B i (i + 1) d s w3 HRw3.out (by omega) hs HMw3.out).mono ?_
    intro e w5 h5
    cases hc : item s i (i + 1) with
    | out => rw [hc] at h5; exact h5.elim
    | bad a c =>
      rw [hc] at h5 HSO
      obtain ⟨rfl, hg5⟩ := h5
      have HG5 : Hid (w.grownBy w5 (some B)) := grown_trans HGw3.out hg5
      clear hc hg5
      go_wp2
      refine ⟨rfl, ?_⟩
      unfold Reads
      rw [HSO.out]
      exact ⟨rfl, HG5.out⟩
    | ok A j =>
      rw [hc] at h5 HSO
      obtain ⟨hj, v, rfl, rfl, hr5, hg5⟩ := h5
      have hRlt := HZw3.out.lt
      have HZ5 : Hid (SB w5 R Oct.none) := (hg5.block R hRlt (by have := HBR.out; simp; exact this)).trans HZw3.out
      have HM5 : Hid (GM w5) := HMw3.out.grown hg5 HB0.out
      have HG5 : Hid (w.grownBy w5 (some B)) := grown_trans HGw3.out hg5
      have hal : Below w5.heap.size w5 (w5.alloc (.cells #[.int .u64 (Oct.word A 0 : Nat), .int .u64 (Oct.word A 1 : Nat), .int .u64 (Oct.word A 2 : Nat), .int .u64 (Oct.word A 3 : Nat)] 27)) := (Below.refl _ _).alloc (Nat.le_refl _) _
      have HS6 : Hid (Sx w s B w5.heap.size R d (w5.alloc (.cells #[.int .u64 (Oct.word A 0 : Nat), .int .u64 (Oct.word A 1 : Nat), .int .u64 (Oct.word A 2 : Nat), .int .u64 (Oct.word A 3 : Nat)] 27)) j A) :=
        ⟨sb_new w5 A, HZ5.out.later hal, hr5.later hal, HM5.out.later hal, grown_below HG5.out hal, HG5.out.size, by rw [HRR.out]; exact Nat.le_refl _, by have := HZ5.out.lt; omega, HBL.out, HB0.out⟩
      obtain ⟨Y, hY⟩ : ∃ Y, Y = w5.heap.size := ⟨_, rfl⟩
      obtain ⟨w6, hw6⟩ : ∃ w6, w6 = w5.alloc (.cells #[.int .u64 (Oct.word A 0 : Nat), .int .u64 (Oct.word A 1 : Nat), .int .u64 (Oct.word A 2 : Nat), .int .u64 (Oct.word A 3 : Nat)] 27) := ⟨_, rfl⟩
      rw [← hw6, ← hY] at HS6
      have HW6 : Hid (w6 = _) := hw6
      have HYY : Hid (Y = _) := hY
      clear hc hw6 hY hal hr5 hg5 hRlt HZ5 HM5 HG5 HRw3 HZw3 HMw3 HGw3
      unfold setV
      go_wp2_with fail
      rw [← HW6.out, ← HYY.out]
      clear HW6 HYY
      go_loopw [] (fun u => ∃ (f' : Nat) (A' : Oct.S) (j' : Nat), j' ≤ s.size ∧ Hid (Sx w s B Y R d u j' A') ∧ Hid (setOf s f i = setEnd s i (setLoop s i f' A' j'))) (fun u => 4000 - (intOf ((u.cell? ⟨B, 1, none⟩).getD undef)).toNat)
      case atStart => exact ⟨f, A, j, hj, HS6, HSO⟩
      case round =>
        clear HS6 HSO
        obtain ⟨f', A', j', hj', hsx, hso⟩ := hrel
        have HM : Hid (4000 - (intOf ((wr.cell? ⟨B, 1, none⟩).getD undef)).toNat = 4000 - j') := by show _ = _; rw [hsx.out.rd.cells.2.1]; simp [intOf]
        obtain ⟨f2, rfl⟩ : ∃ f2, f' = f2 + 1 := by
          cases f' with
          | zero => exact absurd hso.out HO.out
          | succ f2 => exact ⟨f2, rfl⟩
        go_wp2_with fail
        refine (sees_any B j' d 93 s wr hsx.out.rd hj').mono ?_
        rintro e u1 ⟨rfl, ku⟩
        have HS2 : Hid (Sx w s B Y R d u1 j' A') := hsx.out.later ku
        clear ku
        cases h93 : sees s j' 93 with
        | true =>
          have hjlt : j' < s.size := by unfold sees at h93; simp at h93; exact h93.1
          have HXF : Hid (setOf s f i = .ok (Oct.meet A' ordinary) (j' + 1)) := by
            show _ = _
            rw [hso.out]
            simp only [setLoop, h93, if_true, setEnd]
            rw [← HOT.out]
            rfl
          clear h93 hso
          obtain ⟨c0, c1, c2⟩ := HS2.out.rd.cells
          have f1 := HS2.out.rd.frozen 1
          have hj3 : j' ≤ 1024 := by omega
          have HR9 : Hid (RB (u1.setCell ⟨B, 1, none⟩ (.int .i64 ((j' : Int) + 1))) B s (j' + 1) d) := HS2.out.rd.at (j' + 1)
          have HS9 : Hid (Sx w s B Y R d (u1.setCell ⟨B, 1, none⟩ (.int .i64 ((j' : Int) + 1))) (j' + 1) A') := HS2.out.read (grown_set _ _ _ _) HR9.out
          go_upto_region 12 with fail
          obtain ⟨w9, hw9⟩ : ∃ w9, w9 = u1.setCell ⟨B, 1, none⟩ (.int .i64 ((j' : Int) + 1)) := ⟨_, rfl⟩
          rw [← hw9] at HS9 ⊢
          clear hw9 HR9 c0 c1 c2 f1
          refine reg12 (w := w) (s := s) (B := B) (Y := Y) (R := R) (d := d) rfl rfl rfl HS9.out ?_
          intro a' W' hfr q1 q2 q3
          have hT2 : a'.tmps[2]?.getD undef = .pointer (some ⟨R, 0, none⟩) := fr12_T hfr (k := 2) (by decide)
          rename_i hK2
          refine hK2 _ _ (wp_ret ?_)
          refine post_set Try.f86 2 rfl hfr.2.1 hT2 q1 ?_
          unfold Reads
          rw [HXF.out]
          exact ⟨by omega, _, rfl, rfl, q2, q3⟩
        | false =>
          have H93 : Hid (sees s j' 93 = false) := h93
          clear h93
          cases hit : item s i j' with
          | out =>
            exfalso
            apply HO.out
            rw [hso.out]
            simp [setLoop, H93.out, hit, setEnd]
          | bad x c =>
            have HXF : Hid (setOf s f i = .bad x c) := by
              show _ = _
              rw [hso.out]
              simp [setLoop, H93.out, hit, setEnd]
            have HIT : Hid (item s i j' = .bad x c) := hit
            clear hit
            go_upto_region 8 with fail
            refine reg8_bad (w := w) (s := s) (B := B) (Y := Y) (R := R) (d := d) rfl rfl rfl rfl HS2.out hj' hs HIT.out ?_
            intro a' W' hd' hg'
            refine ⟨hd', ?_⟩
            unfold Reads
            rw [HXF.out]
            exact ⟨rfl, hg'⟩
          | ok x k =>
            have HXN : Hid (setOf s f i = setEnd s i (setLoop s i f2 (Oct.join A' x) k)) := by
              show _ = _
              rw [hso.out]
              simp [setLoop, H93.out, hit]
            have HIT : Hid (item s i j' = .ok x k) := hit
            have hkk := item_le hj' hit
            clear hit
            go_upto_region 8 with fail
            refine reg8_ok (w := w) (s := s) (B := B) (Y := Y) (R := R) (d := d) rfl rfl rfl rfl HS2.out hj' hs HIT.out ?_
            intro a' W' hfr hk hsn
            rw [fr8_lit hfr rfl]
            have HSN : Hid (Sx w s B Y R d W' k (Oct.join A' x)) := hsn
            obtain ⟨v33, e33⟩ : ∃ v, v = T a' 33 := ⟨_, rfl⟩
            obtain ⟨v34, e34⟩ : ∃ v, v = T a' 34 := ⟨_, rfl⟩
            obtain ⟨v35, e35⟩ : ∃ v, v = T a' 35 := ⟨_, rfl⟩
            obtain ⟨v36, e36⟩ : ∃ v, v = T a' 36 := ⟨_, rfl⟩
            obtain ⟨v37, e37⟩ : ∃ v, v = T a' 37 := ⟨_, rfl⟩
            obtain ⟨v38, e38⟩ : ∃ v, v = T a' 38 := ⟨_, rfl⟩
            rw [← e33, ← e34, ← e35, ← e36, ← e37, ← e38]
            clear e33 e34 e35 e36 e37 e38 hfr hsn
            go_wp2_with fail
            go_roundw
            case rel => exact ⟨_, _, _, _, _, _, _, _, _, ⟨f2, Oct.join A' x, k, hk, HSN, HXN⟩, rfl⟩
            case measure =>
              rw [HM.out, HSN.out.rd.cells.2.1]
              simp [intOf]
              omega
end Go.Proofs.Ytjmbimgofceanaa

/- Trees in memory: a node's value and cells; a tree below it; lists of nodes that a call itself makes. -/
namespace Go.Proofs.Ytjmbimgofceanaa
open Go.RowKit

/-- a node: its own fields, and where its Subs lie -/
structure Nd where
  k : Int
  s : Oct.S
  a : Option Addr
  n : Nat
  c : Nat
  mn : Int
  mx : Int
def Nd.val (x : Nd) : Value := .agg #[.int .i64 x.k, .int .u64 (Oct.word x.s 0 : Nat), .int .u64 (Oct.word x.s 1 : Nat), .int .u64 (Oct.word x.s 2 : Nat), .int .u64 (Oct.word x.s 3 : Nat), .slice x.a x.n x.c, .int .i64 x.mn, .int .i64 x.mx]
def Nd.cells (x : Nd) : List Value := [.int .i64 x.k, .int .u64 (Oct.word x.s 0 : Nat), .int .u64 (Oct.word x.s 1 : Nat), .int .u64 (Oct.word x.s 2 : Nat), .int .u64 (Oct.word x.s 3 : Nat), .slice x.a x.n x.c, .int .i64 x.mn, .int .i64 x.mx]
def zeroNd : Nd := ⟨0, Oct.none, none, 0, 0, 0, 0⟩
theorem word0 (i : Nat) : ((Oct.word Oct.none i : Nat) : Int) = 0 := by rw [show Oct.none = fun _ => false from rfl, Oct.word_none]; rfl
/-- a node's block -/
def NB (w : World) (A : Nat) (x : Nd) : Prop := w.heap[A]? = some (.cells #[.int .i64 x.k, .int .u64 (Oct.word x.s 0 : Nat), .int .u64 (Oct.word x.s 1 : Nat), .int .u64 (Oct.word x.s 2 : Nat), .int .u64 (Oct.word x.s 3 : Nat), .slice x.a x.n x.c, .int .i64 x.mn, .int .i64 x.mx] 30 (0, 0))
theorem NB.lt {w : World} {A : Nat} {x : Nd} (h : NB w A x) : A < w.heap.size := (Array.getElem?_eq_some_iff.1 h).1
theorem NB.later {w w' : World} {A : Nat} {x : Nd} (h : NB w A x) (hb : Below w.heap.size w w') : NB w' A x := (hb.block A h.lt).trans h
theorem NB.grown {w w' : World} {A : Nat} {x : Nd} {r : Option Nat} (h : NB w A x) (hg : w.grownBy w' r) (hne : some A ≠ r) : NB w' A x := (hg.block A h.lt hne).trans h
theorem NB.cells {w : World} {A : Nat} {x : Nd} (h : NB w A x) : w.cell? ⟨A, 0, none⟩ = some (.int .i64 x.k) ∧ w.cell? ⟨A, 1, none⟩ = some (.int .u64 (Oct.word x.s 0 : Nat)) ∧ w.cell? ⟨A, 2, none⟩ = some (.int .u64 (Oct.word x.s 1 : Nat)) ∧ w.cell? ⟨A, 3, none⟩ = some (.int .u64 (Oct.word x.s 2 : Nat)) ∧ w.cell? ⟨A, 4, none⟩ = some (.int .u64 (Oct.word x.s 3 : Nat)) ∧ w.cell? ⟨A, 5, none⟩ = some (.slice x.a x.n x.c) ∧ w.cell? ⟨A, 6, none⟩ = some (.int .i64 x.mn) ∧ w.cell? ⟨A, 7, none⟩ = some (.int .i64 x.mx) := by
  unfold NB at h
  refine ⟨?_, ?_, ?_, ?_, ?_, ?_, ?_, ?_⟩ <;> simp [World.cell?, h]
theorem NB.frozen {w : World} {A : Nat} {x : Nd} (h : NB w A x) (j : Nat) : w.frozen? ⟨A, j, none⟩ = false := by
  unfold NB at h
  simp [World.frozen?, h]
theorem nb_new (w : World) (x : Nd) : NB (w.alloc (.cells #[.int .i64 x.k, .int .u64 (Oct.word x.s 0 : Nat), .int .u64 (Oct.word x.s 1 : Nat), .int .u64 (Oct.word x.s 2 : Nat), .int .u64 (Oct.word x.s 3 : Nat), .slice x.a x.n x.c, .int .i64 x.mn, .int .i64 x.mx] 30)) w.heap.size x := heap_alloc_new w _
theorem nb_zero (w : World) : NB (w.alloc (.cells #[.int .i64 0, .int .u64 0, .int .u64 0, .int .u64 0, .int .u64 0, .slice none 0 0, .int .i64 0, .int .i64 0] 30)) w.heap.size zeroNd := by
  have h := nb_new w zeroNd
  simp only [zeroNd, word0] at h ⊢
  exact h
/-- a node stored over a node's block, as the walk leaves it -/
def put8 (w : World) (A : Nat) (x : Nd) : World := (((((((w.setCell ⟨A, 0, none⟩ (.int .i64 x.k)).setCell ⟨A, 1, none⟩ (.int .u64 (Oct.word x.s 0 : Nat))).setCell ⟨A, 2, none⟩ (.int .u64 (Oct.word x.s 1 : Nat))).setCell ⟨A, 3, none⟩ (.int .u64 (Oct.word x.s 2 : Nat))).setCell ⟨A, 4, none⟩ (.int .u64 (Oct.word x.s 3 : Nat))).setCell ⟨A, 5, none⟩ (.slice x.a x.n x.c)).setCell ⟨A, 6, none⟩ (.int .i64 x.mn)).setCell ⟨A, 7, none⟩ (.int .i64 x.mx)
theorem heap_set {w : World} {A : Nat} {c : Array Value} {t : TypeId} {fz : Nat × Nat} (h : w.heap[A]? = some (.cells c t fz)) (j : Nat) (v : Value) : (w.setCell ⟨A, j, none⟩ v).heap[A]? = some (.cells (c.setIfInBounds j v) t fz) := by
  simp only [World.setCell, Array.getElem?_modify, h]
  rfl
theorem NB.put8 {w : World} {A : Nat} {x : Nd} (h : NB w A x) (y : Nd) : NB (put8 w A y) A y := by
  have h8 := heap_set (heap_set (heap_set (heap_set (heap_set (heap_set (heap_set (heap_set h 0 (.int .i64 y.k)) 1 (.int .u64 (Oct.word y.s 0 : Nat))) 2 (.int .u64 (Oct.word y.s 1 : Nat))) 3 (.int .u64 (Oct.word y.s 2 : Nat))) 4 (.int .u64 (Oct.word y.s 3 : Nat))) 5 (.slice y.a y.n y.c)) 6 (.int .i64 y.mn)) 7 (.int .i64 y.mx)
  simp only [List.setIfInBounds_toArray, List.set_cons_zero, List.set_cons_succ] at h8
  exact h8
theorem heap_put8 (w : World) (A : Nat) (x : Nd) (k : Nat) (h : k ≠ A) : (put8 w A x).heap[k]? = w.heap[k]? := by
  unfold put8
  rw [Below.heap_setCell _ ⟨A, 7, none⟩ _ k h, Below.heap_setCell _ ⟨A, 6, none⟩ _ k h, Below.heap_setCell _ ⟨A, 5, none⟩ _ k h, Below.heap_setCell _ ⟨A, 4, none⟩ _ k h, Below.heap_setCell _ ⟨A, 3, none⟩ _ k h, Below.heap_setCell _ ⟨A, 2, none⟩ _ k h, Below.heap_setCell _ ⟨A, 1, none⟩ _ k h, Below.heap_setCell _ ⟨A, 0, none⟩ _ k h]
theorem put8_grown {w u : World} {B A : Nat} (h : w.grownBy u (some B)) (hA : w.heap.size ≤ A) (x : Nd) : w.grownBy (put8 u A x) (some B) := grown_new (grown_new (grown_new (grown_new (grown_new (grown_new (grown_new (grown_new h hA) hA) hA) hA) hA) hA) hA) hA
theorem put8_rb {w : World} {B A : Nat} {s : ByteArray} {i d : Nat} (h : RB w B s i d) (hne : A ≠ B) (x : Nd) : RB (put8 w A x) B s i d := (heap_put8 w A x B (fun e => hne e.symm)).trans h
/-- a function whose one result is a node in a cell -/
theorem post_node (f : Func) (slot : Nat) (hf : f.results = #[.cell slot 30]) {Q : Ending → World → Prop} {a : Act} {w : World} {R : Nat} {x : Nd} (hd : a.defers = []) (ha : a.tmps[slot]?.getD undef = .pointer (some ⟨R, 0, none⟩)) (hR : NB w R x) (hQ : Q (.returned x.val) w) : bodyPost Try.prog f Q .ret a w := by
  obtain ⟨c0, c1, c2, c3, c4, c5, c6, c7⟩ := hR.cells
  exact bodyPost_ret (by simp only [results, hf]; simp [ha, go_sem, c0, c1, c2, c3, c4, c5, c6, c7, Nd.val]) hd hQ
/-! ### trees -/
def flatN (vs : List Nd) : List Value := vs.flatMap Nd.cells
theorem flatN_length (vs : List Nd) : (flatN vs).length = 8 * vs.length := by
  induction vs with
  | nil => rfl
  | cons x r ih => simp only [flatN, List.flatMap_cons, List.length_append, List.length_cons] at ih ⊢; rw [ih]; simp [Nd.cells]; omega
theorem flatN_append (a b : List Nd) : flatN (a ++ b) = flatN a ++ flatN b := by simp [flatN]
theorem flatN_one (vs : List Nd) : ∀ u ∈ flatN vs, u.oneCell' = true := by
  intro u hu
  obtain ⟨x, _, hx⟩ := List.mem_flatMap.1 hu
  simp only [Nd.cells, List.mem_cons, List.not_mem_nil, or_false] at hx
  rcases hx with rfl | rfl | rfl | rfl | rfl | rfl | rfl | rfl <;> rfl
/-- nodes one behind the other, from an address on -/
def RowAt (X : Nat → Prop) (w : World) (a : Option Addr) (vs : List Nd) : Prop :=
  vs = [] ∨ ∃ b off, a = some ⟨b, off, none⟩ ∧ X b ∧ ∀ j v, (flatN vs)[j]? = some v → w.cell? ⟨b, off + j, none⟩ = some v
/-- A TREE IN MEMORY, whose lists lie in blocks of a kind. -/
inductive NodeAt (X : Nat → Prop) (w : World) : Tr → Nd → Prop
  | mk (k : Nat) (s : Oct.S) (subs : List Tr) (mn mx : Int) (a : Option Addr) (n c : Nat) (vs : List Nd) (hn : n = subs.length) (hl : vs.length = n) (hr : RowAt X w a vs)
      (hs : ∀ (i : Nat) (t : Tr) (v : Nd), subs[i]? = some t → vs[i]? = some v → NodeAt X w t v) : NodeAt X w (.mk k s subs mn mx) ⟨k, s, a, n, c, mn, mx⟩
theorem RowAt.keep {X Y : Nat → Prop} {w w' : World} {a : Option Addr} {vs : List Nd} (h : RowAt X w a vs) (hXY : ∀ b, X b → b < w.heap.size → Y b) (hk : ∀ b, X b → b < w.heap.size → w'.heap[b]? = w.heap[b]?) : RowAt Y w' a vs := by
  rcases h with h | ⟨b, off, rfl, hX, hc⟩
  · exact Or.inl h
  · by_cases hv : vs = []
    · exact Or.inl hv
    · have hlt : b < w.heap.size := by
        have hpos : 0 < (flatN vs).length := by
          rw [flatN_length]
          have := List.length_pos_iff.2 hv
          omega
        exact World.block_lt_of_cell? w _ (hc 0 _ (List.getElem?_eq_getElem hpos))
      exact Or.inr ⟨b, off, rfl, hXY b hX hlt, fun j v hj => by rw [World.cell?_of_block (w := w) (hk b hX hlt)]; exact hc j v hj⟩
theorem NodeAt.keep {X Y : Nat → Prop} {w w' : World} {t : Tr} {x : Nd} (h : NodeAt X w t x) (hXY : ∀ b, X b → b < w.heap.size → Y b) (hk : ∀ b, X b → b < w.heap.size → w'.heap[b]? = w.heap[b]?) : NodeAt Y w' t x := by
  induction h with
  | mk k s subs mn mx a n c vs hn hl hr hs ih => exact .mk k s subs mn mx a n c vs hn hl (hr.keep hXY hk) (fun i t v ht hv => ih i t v ht hv)
theorem NodeAt.later {X : Nat → Prop} {w w' : World} {t : Tr} {x : Nd} (h : NodeAt X w t x) (hb : Below w.heap.size w w') : NodeAt X w' t x := h.keep (fun _ h _ => h) (fun b _ hlt => hb.block b hlt)
theorem NodeAt.leaf (X : Nat → Prop) (w : World) (k : Nat) (s : Oct.S) (mn mx : Int) (a : Option Addr) (c : Nat) : NodeAt X w (.mk k s [] mn mx) ⟨k, s, a, 0, c, mn, mx⟩ :=
  .mk k s [] mn mx a 0 c [] rfl rfl (Or.inl rfl) (fun i t v h => by simp at h)
/-- A LIST OF NODES OF THE CALL's OWN, or nil while nothing has been gathered. -/
def Nodes (w : World) (base : Nat) (V : Value) (ts : List Tr) : Prop :=
  ∃ vs : List Nd, vs.length = ts.length ∧ w.ownsRow base 30 8 V ts.length (flatN vs) ∧ (ts = [] → V = .slice none 0 0) ∧ (ts ≠ [] → ∃ g cap, V = .slice (some ⟨g, 0, none⟩) ts.length cap) ∧
    ∀ (i : Nat) (t : Tr) (v : Nd), ts[i]? = some t → vs[i]? = some v → NodeAt (fun b => base ≤ b ∧ V.ownBlock ≠ some b) w t v
theorem nodes_nil (w : World) (base : Nat) : Nodes w base (.slice none 0 0) [] := ⟨[], rfl, World.ownsRow_nil w base 30 8, fun _ => rfl, fun h => absurd rfl h, fun i t v h => by simp at h⟩
theorem info30 : (Try.prog.info? 30).map (fun i => (i.zero, i.size, i.bytes)) = some (some (.agg #[.int .i64 0, .int .u64 0, .int .u64 0, .int .u64 0, .int .u64 0, .slice none 0 0, .int .i64 0, .int .i64 0]), 8, 80) := by kernel_rfl
theorem ownsRow_keep {w w' : World} {base : Nat} {e : TypeId} {size : Nat} {v : Value} {n : Nat} {xs : List Value} (h : w.ownsRow base e size v n xs) (hk : ∀ g, v.ownBlock = some g → base ≤ g → g < w.heap.size → w'.heap[g]? = w.heap[g]?) : w'.ownsRow base e size v n xs := by
  refine ⟨h.1, ?_⟩
  rcases h.2 with h2 | ⟨g, cap, cur, rfl, hBg, hg, rest⟩
  · exact Or.inl h2
  · exact Or.inr ⟨g, cap, cur, rfl, hBg, by rw [hk g rfl hBg (Array.getElem?_eq_some_iff.1 hg).1]; exact hg, rest⟩
theorem Nodes.keep {w w' : World} {base : Nat} {V : Value} {ts : List Tr} (h : Nodes w base V ts) (hk : ∀ b, base ≤ b → b < w.heap.size → w'.heap[b]? = w.heap[b]?) : Nodes w' base V ts := by
  obtain ⟨vs, h1, h2, h3, h4, h5⟩ := h
  exact ⟨vs, h1, ownsRow_keep h2 (fun g _ hb hlt => hk g hb hlt), h3, h4, fun i t v ht hv => (h5 i t v ht hv).keep (fun _ h _ => h) (fun b hb hlt => hk b hb.1 hlt)⟩
/-- one node more -/
theorem run_append_node (w : World) (ty : TypeId) (base : Nat) (V : Value) (ts : List Tr) (h : Nodes w base V ts) (ad : Addr) (cap : Nat) (x : Nd) (t : Tr) (hx : NodeAt (fun b => base ≤ b ∧ V.ownBlock ≠ some b) w t x) (hc : ∀ j v, x.cells[j]? = some v → w.cell? (ad.add j) = some v) (hl : ts.length ≤ 100000) (hb : base ≤ w.heap.size) :
    ∃ g cap' w', (Builtin.append_ #[28, 28] ty #[V, .slice (some ad) 1 cap]).run Try.prog w = .ok (.slice (some ⟨g, 0, none⟩) (ts.length + 1) cap') w' ∧ Nodes w' base (.slice (some ⟨g, 0, none⟩) (ts.length + 1) cap') (ts ++ [t]) ∧ w.grownBy w' V.ownBlock ∧ (∀ k, V.ownBlock = some k → base ≤ k) := by
  obtain ⟨vs, h1, h2, h3, h4, h5⟩ := h
  obtain ⟨i0, hi, hz0, hz1, hz2⟩ := info_parts info30
  obtain ⟨g, cap', w', hr, ho, hg, hgg, hlt⟩ := run_append_lies (P := Try.prog) w 28 ty base 30 i0 _ 8 80 Try.underlying28 hi hz0 hz1 hz2 rfl (by decide) V ts.length (flatN vs) h2 ad 1 cap x.cells rfl hc
    (by have := flatN_one [x]; simpa [flatN] using this) (by decide) (by simp only [maxLen]; omega) (by omega) hb w.heap.size rfl
  have hvb : ∀ k, V.ownBlock = some k → base ≤ k := fun k hk => by
    rcases h2.2 with ⟨rfl, _⟩ | ⟨g', _, _, rfl, hb', _⟩
    · simp [Value.ownBlock] at hk
    · simp [Value.ownBlock] at hk; omega
  have hkeep : ∀ (t' : Tr) (v' : Nd), NodeAt (fun b => base ≤ b ∧ V.ownBlock ≠ some b) w t' v' → NodeAt (fun b => base ≤ b ∧ (Value.slice (some ⟨g, 0, none⟩) (ts.length + 1) cap').ownBlock ≠ some b) w' t' v' := fun t' v' hn =>
    hn.keep (fun b hb hlt => ⟨hb.1, by
      simp only [Value.ownBlock, ne_eq, Option.some.injEq]
      rcases hgg with hgg | hgg
      · intro e; subst e; exact hb.2 hgg
      · omega⟩) (fun b hb hlt => hg.block b hlt (fun e => hb.2 e.symm))
  refine ⟨g, cap', w', hr, ⟨vs ++ [x], by simp [h1], ?_, fun e => by simp at e, fun _ => ⟨g, cap', by simp⟩, fun i t' v' ht hv => ?_⟩, hg, hvb⟩
  · rw [flatN_append, List.length_append]
    have e : flatN [x] = x.cells := by simp [flatN]
    rw [e]
    exact ho
  · by_cases hlt2 : i < ts.length
    · rw [List.getElem?_append_left hlt2] at ht
      rw [List.getElem?_append_left (by omega)] at hv
      exact hkeep t' v' (h5 i t' v' ht hv)
    · rw [List.getElem?_append_right (by omega)] at ht
      rw [List.getElem?_append_right (by omega), h1] at hv
      have e0 : i - ts.length = 0 := by
        have := (List.getElem?_eq_some_iff.1 ht).1
        simp at this
        omega
      rw [e0] at ht hv
      simp at ht hv
      subst ht hv
      exact hkeep t x hx
end Go.Proofs.Ytjmbimgofceanaa

/- ere's together. -/
namespace Go.Proofs.Ytjmbimgofceanaa
open Go.RowKit
attribute [local go_sem ↓] Go.wp_at_zero Go.wp_at_succ

/-- a node without a set stored over a node's block, as the walk leaves it -/
def put8z (w : World) (A : Nat) (k : Int) (a : Option Addr) (n c : Nat) (mn mx : Int) : World := (((((((w.setCell ⟨A, 0, none⟩ (.int .i64 k)).setCell ⟨A, 1, none⟩ (.int .u64 0)).setCell ⟨A, 2, none⟩ (.int .u64 0)).setCell ⟨A, 3, none⟩ (.int .u64 0)).setCell ⟨A, 4, none⟩ (.int .u64 0)).setCell ⟨A, 5, none⟩ (.slice a n c)).setCell ⟨A, 6, none⟩ (.int .i64 mn)).setCell ⟨A, 7, none⟩ (.int .i64 mx)
theorem put8z_eq (w : World) (A : Nat) (k : Int) (a : Option Addr) (n c : Nat) (mn mx : Int) : put8z w A k a n c mn mx = put8 w A ⟨k, Oct.none, a, n, c, mn, mx⟩ := by
  simp only [put8z, put8, word0]
theorem Nodes.row {w : World} {base : Nat} {V : Value} {ts : List Tr} (h : Nodes w base V ts) (hne : ts ≠ []) : ∃ g cap vs, V = .slice (some ⟨g, 0, none⟩) ts.length cap ∧ vs.length = ts.length ∧ ts.length ≤ cap ∧ RowAt (fun b => base ≤ b) w (some ⟨g, 0, none⟩) vs ∧ ∀ (i : Nat) (t : Tr) (v : Nd), ts[i]? = some t → vs[i]? = some v → NodeAt (fun b => base ≤ b) w t v := by
  obtain ⟨vs, h1, h2, h3, h4, h5⟩ := h
  obtain ⟨g, cap, rfl⟩ := h4 hne
  refine ⟨g, cap, vs, rfl, h1, ?_, ?_, fun i t v ht hv => (h5 i t v ht hv).keep (fun b hb _ => hb.1) (fun _ _ _ => rfl)⟩
  · rcases h2.2 with ⟨h, _⟩ | ⟨g', cap', cur, h, _, _, hc, _⟩
    · simp at h
    · simp at h; omega
  · refine Or.inr ⟨g, 0, rfl, ?_, fun j v hj => ?_⟩
    · rcases h2.2 with ⟨h, _⟩ | ⟨g', cap', cur, h, hb, _⟩
      · simp at h
      · simp at h; omega
    · rw [Nat.zero_add]
      have hjl := (List.getElem?_eq_some_iff.1 hj).1
      rw [flatN_length, h1] at hjl
      rw [h2.cellAt j (by omega)]
      exact hj
theorem RowAt.one {X : Nat → Prop} {w : World} {g : Nat} {vs : List Nd} (h : RowAt X w (some ⟨g, 0, none⟩) vs) {x : Nd} (hx : vs[0]? = some x) : w.cell? ⟨g, 0, none⟩ = some (.int .i64 x.k) ∧ w.cell? ⟨g, 1, none⟩ = some (.int .u64 (Oct.word x.s 0 : Nat)) ∧ w.cell? ⟨g, 2, none⟩ = some (.int .u64 (Oct.word x.s 1 : Nat)) ∧ w.cell? ⟨g, 3, none⟩ = some (.int .u64 (Oct.word x.s 2 : Nat)) ∧ w.cell? ⟨g, 4, none⟩ = some (.int .u64 (Oct.word x.s 3 : Nat)) ∧ w.cell? ⟨g, 5, none⟩ = some (.slice x.a x.n x.c) ∧ w.cell? ⟨g, 6, none⟩ = some (.int .i64 x.mn) ∧ w.cell? ⟨g, 7, none⟩ = some (.int .i64 x.mx) := by
  rcases h with h | ⟨b, off, e, _, hc⟩
  · subst h; simp at hx
  · cases e
    obtain ⟨y, r, rfl⟩ : ∃ y r, vs = y :: r := by
      cases vs with
      | nil => simp at hx
      | cons y r => exact ⟨y, r, rfl⟩
    simp at hx
    subst hx
    have hf : flatN (y :: r) = y.cells ++ flatN r := by simp [flatN]
    refine ⟨?_, ?_, ?_, ?_, ?_, ?_, ?_, ?_⟩
    · have := hc 0 (.int .i64 y.k) (by rw [hf]; rfl); simpa using this
    · have := hc 1 (.int .u64 (Oct.word y.s 0 : Nat)) (by rw [hf]; rfl); simpa using this
    · have := hc 2 (.int .u64 (Oct.word y.s 1 : Nat)) (by rw [hf]; rfl); simpa using this
    · have := hc 3 (.int .u64 (Oct.word y.s 2 : Nat)) (by rw [hf]; rfl); simpa using this
    · have := hc 4 (.int .u64 (Oct.word y.s 3 : Nat)) (by rw [hf]; rfl); simpa using this
    · have := hc 5 (.slice y.a y.n y.c) (by rw [hf]; rfl); simpa using this
    · have := hc 6 (.int .i64 y.mn) (by rw [hf]; rfl); simpa using this
    · have := hc 7 (.int .i64 y.mx) (by rw [hf]; rfl); simpa using this
/-- a tree's answer -/
def TreeV (base : Nat) (w : World) (t : Tr) (v : Value) : Prop := ∃ x : Nd, v = x.val ∧ NodeAt (fun b => base ≤ b) w t x
theorem below_put8 {w u : World} {A B : Nat} (h : Below B w u) (hA : B ≤ A) (x : Nd) : Below B w (put8 u A x) :=
  (((((((h.setCell (p := ⟨A, 0, none⟩) hA _).setCell (p := ⟨A, 1, none⟩) hA _).setCell (p := ⟨A, 2, none⟩) hA _).setCell (p := ⟨A, 3, none⟩) hA _).setCell (p := ⟨A, 4, none⟩) hA _).setCell (p := ⟨A, 5, none⟩) hA _).setCell (p := ⟨A, 6, none⟩) hA _).setCell (p := ⟨A, 7, none⟩) hA _
set_option maxHeartbeats 1000000 in
theorem together_any (k base : Nat) (V : Value) (ts : List Tr) (w : World) (h : Nodes w base V ts) (hl : ts.length ≤ 100000) : Calls Try.prog 77 #[.int .i64 (k : Nat), V] w fun e w' => (∃ v, e = .returned v ∧ TreeV base w' (together k ts) v) ∧ Below w.heap.size w w' := by
  have H0 : Hid (NB (w.alloc (.cells #[.int .i64 0, .int .u64 0, .int .u64 0, .int .u64 0, .int .u64 0, .slice none 0 0, .int .i64 0, .int .i64 0] 30)) w.heap.size zeroNd) := nb_zero w
  obtain ⟨u, hu⟩ : ∃ u, u = w.alloc (.cells #[.int .i64 0, .int .u64 0, .int .u64 0, .int .u64 0, .int .u64 0, .slice none 0 0, .int .i64 0, .int .i64 0] 30) := ⟨_, rfl⟩
  obtain ⟨R, hR⟩ : ∃ R, R = w.heap.size := ⟨_, rfl⟩
  rw [← hu, ← hR] at H0
  have HU : Hid (u = _) := hu
  have HRR : Hid (R = _) := hR
  have hbu : Below w.heap.size w u := by rw [hu]; exact (Below.refl _ _).alloc (Nat.le_refl _) _
  have HBX : Hid (∀ x : Nd, Below w.heap.size w (put8 u R x)) := fun x => by rw [hR]; exact below_put8 hbu (Nat.le_refl _) x
  have HKEEP : Hid (∀ (x : Nd) (t : Tr) (y : Nd), NodeAt (fun b => base ≤ b) u t y → NodeAt (fun b => base ≤ b) w t y → NodeAt (fun b => base ≤ b) (put8 u R x) t y) := fun x t y _ hy => hy.later (HBX.out x)
  obtain ⟨z0, z1, z2, z3, z4, z5, z6, z7⟩ := H0.out.cells
  have y0 := H0.out.frozen 0
  have y1 := H0.out.frozen 1
  have y2 := H0.out.frozen 2
  have y3 := H0.out.frozen 3
  have y4 := H0.out.frozen 4
  have y5 := H0.out.frozen 5
  have y6 := H0.out.frozen 6
  have y7 := H0.out.frozen 7
  have HT : Hid (Nodes w base V ts) := h
  clear hu hR
  match ts, h, hl, HT with
  | [], h, _, _ =>
    obtain ⟨vs, h1, h2, h3, _⟩ := h
    obtain rfl := h3 rfl
    clear h1 h2 h3
    go_enter Try.func77, Try.ntmps77
    go_upto_region 1 with fail
    rw [← HU.out, ← HRR.out]
    go_wp2
    show bodyPost _ _ _ _ _ (put8z u R 1 none 0 0 0 0)
    rw [put8z_eq]
    refine post_node Try.f77 4 rfl rfl rfl (H0.out.put8 _) ⟨⟨_, rfl, _, rfl, ?_⟩, HBX.out _⟩
    exact NodeAt.leaf _ _ 1 Oct.none 0 0 none 0
  | [t], h, _, _ =>
    obtain ⟨g, cap, vs, rfl, h1, hcap, hrow, hs⟩ := h.row (by simp)
    obtain ⟨x, hx⟩ : ∃ x, vs[0]? = some x := by
      cases vs with
      | nil => simp at h1
      | cons x r => exact ⟨x, rfl⟩
    have HX : Hid (NodeAt (fun b => base ≤ b) w t x) := hs 0 t x rfl hx
    obtain ⟨d0, d1, d2, d3, d4, d5, d6, d7⟩ := (hrow.keep (Y := fun b => base ≤ b) (w' := u) (fun _ h _ => h) (fun b _ hb => hbu.block b hb)).one hx
    clear h hs hrow h1 hx
    go_enter Try.func77, Try.ntmps77
    go_upto_region 1 with fail
    rw [← HU.out, ← HRR.out]
    go_wp2
    exact post_node Try.f77 4 rfl rfl rfl (H0.out.put8 x) ⟨⟨_, rfl, _, rfl, HX.out.later (HBX.out x)⟩, HBX.out x⟩
  | t1 :: t2 :: r, h, hl, _ =>
    obtain ⟨g, cap, vs, rfl, h1, hcap, hrow, hs⟩ := h.row (by simp)
    have HX : Hid (NodeAt (fun b => base ≤ b) w (.mk k Oct.none (t1 :: t2 :: r) 0 0) ⟨(k : Nat), Oct.none, some ⟨g, 0, none⟩, (t1 :: t2 :: r).length, cap, 0, 0⟩) := .mk k Oct.none _ 0 0 _ _ cap vs rfl h1 hrow hs
    obtain ⟨L, hL⟩ : ∃ L, L = (t1 :: t2 :: r).length := ⟨_, rfl⟩
    have hL2 : 2 ≤ L := by rw [hL]; simp
    have hl' : L ≤ 100000 := by rw [hL]; exact hl
    rw [← hL] at HX ⊢
    have g0 : ¬ (L : Int) = 0 := by omega
    have g1 : ¬ (L : Int) = 1 := by omega
    have g2 : ((L : Int) == 0) = false := by simp; omega
    have g3 : ((L : Int) == 1) = false := by simp; omega
    clear h hs hrow h1 hL hl hcap
    go_enter Try.func77, Try.ntmps77
    go_upto_region 1 with fail
    rw [← HU.out, ← HRR.out]
    go_wp2
    show bodyPost _ _ _ _ _ (put8z u R k (some ⟨g, 0, none⟩) L cap 0 0)
    rw [put8z_eq]
    exact post_node Try.f77 4 rfl rfl rfl (H0.out.put8 _) ⟨⟨_, rfl, _, rfl, HX.out.later (HBX.out _)⟩, HBX.out _⟩
end Go.Proofs.Ytjmbimgofceanaa

